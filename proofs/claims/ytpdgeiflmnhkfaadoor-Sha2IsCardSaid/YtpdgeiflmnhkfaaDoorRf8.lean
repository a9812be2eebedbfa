/- florinref02: End of a state that may not be (made by gen_rf6.py). (hM) -/
import Derived.Test.YtpdgeiflmnhkfaaDoorRf7
namespace Go.Proofs.YtpdgeiflmnhkfaaDoor
set_option linter.unusedVariables false
set_option linter.unusedSimpArgs false
open Go.RowKit

set_option maxRecDepth 100000 in
set_option maxHeartbeats 4000000 in
theorem rend_from (v0 : S8) (vao : Option Addr) (vn vc : Nat) (vN : Int) (s : S8) (a1 : Option Addr) (n1 c1 : Nat) (N : Nat) (f1 : Nat → Int) (w : World)
    (hS : ∀ x, Calls Tryd.prog 35 #[stV v0 (.slice vao vn vc) vN] x fun e w' => e = .returned (.bool false) ∧ Below x.heap.size x w')
    (hSt : ∀ x, Calls Tryd.prog 104 #[] x fun e w' => e = .returned (stV s (.slice a1 n1 c1) N) ∧ Below x.heap.size x w')
    (hr1 : Row w a1 n1 c1 1 (bcells f1 n1)) (hf1 : ∀ i, 0 ≤ f1 i ∧ f1 i < 256) (hn : n1 = N % 64) (hN : N < 18446744073709551616) :
    Calls Tryd.prog 29 #[stV v0 (.slice vao vn vc) vN] w fun e w' => e = .returned (.agg (bcells (outF (blks s (catF f1 n1 (padF N (padN N))) ((n1 + padN N) / 64))) 32).toArray) ∧ Below w.heap.size w w' := by
  have hpl := padN_le N
  have hpw := padN_whole N
  rw [← hn] at hpw
  have HSn := Lib.hid hS
  have HSt := Lib.hid hSt
  clear hS hSt
  have hWr := fun (x : World) (hb : Below w.heap.size w x) (a2 : Option Addr) (c2 : Nat) (h2 : Row x a2 (padN N) c2 1 (bcells (padF N (padN N)) (padN N))) =>
    rwrite_yes s a1 a2 n1 c1 (padN N) c2 N f1 (padF N (padN N)) x (by omega) (hr1.later hb) h2 hf1 (padF_b _ _) (by omega) ⟨by omega, by unfold WI; omega⟩
  have HPad := Lib.hid (fun w => rpad_any N hN w)
  obtain ⟨t, ht⟩ : ∃ t, blks s (catF f1 n1 (padF N (padN N))) ((n1 + padN N) / 64) = t := ⟨_, rfl⟩
  rw [hpw] at hWr
  rw [ht] at hWr ⊢
  obtain ⟨P, hP⟩ : ∃ P, padN N = P := ⟨_, rfl⟩
  rw [hP] at hWr HPad
  have HWr := Lib.hid hWr
  clear hWr hr1 hf1 hn hpw hpl ht hP
  obtain ⟨a0, b0, c0, d0, e0, f0, g0, h0⟩ := s
  obtain ⟨p0, p1, p2, p3, p4, p5, p6, p7⟩ := v0
  have hB := Below.refl w.heap.size w
  have hM := Lib.hid (mem_nil w)
  have hF : True := trivial
  go_enter Tryd.func29, Tryd.ntmps29
  go_wp2_with (first | (go_at_call 35; (with_reducible refine (HSn.out _).mono ?_); rintro e w0 ⟨rfl, hb⟩; have hB : Below w.heap.size w w0 := (by refine bl_then ?_ hb; (repeat (first | exact hB | refine bl_al ?_ _ | refine Below.setCell ?_ (by first | exact hgs | exact Nat.le_succ_of_le hgs | exact hgs2 | exact hgs3) _ | refine Below.drew ?_ | refine bl_drewN ?_ _))); (first | with_reducible have hM2 := Mem.later hb (hM.out) | with_reducible have hM2 := Mem.later hb (Mem.al (hM.out) _ _) | with_reducible have hM2 := Mem.later hb (Mem.al (Mem.al (hM.out) _ _) _ _) | with_reducible have hM2 := Mem.later hb (Mem.al (Mem.al (Mem.al (hM.out) _ _) _ _) _ _) | with_reducible have hM2 := Mem.later hb (Mem.al (Mem.al (Mem.al (Mem.al (hM.out) _ _) _ _) _ _) _ _) | with_reducible have hM2 := Mem.later hb (Mem.drew (hM.out)) | with_reducible have hM2 := Mem.later hb (Mem.drew (Mem.al (hM.out) _ _)) | with_reducible have hM2 := Mem.later hb (Mem.al (Mem.drew (hM.out)) _ _) | with_reducible have hM2 := Mem.later hb (Mem.al (Mem.drew (Mem.al (hM.out) _ _)) _ _) | with_reducible have hM2 := Mem.later hb (Mem.drew (Mem.al (Mem.al (hM.out) _ _) _ _)) | with_reducible have hM2 := Mem.later hb (Mem.al (Mem.al (Mem.drew (hM.out)) _ _) _ _) | with_reducible have hM2 := Mem.later hb (Mem.drew (Mem.drew (hM.out))) | with_reducible have hM2 := Mem.later hb (Mem.drew (Mem.al (Mem.drew (hM.out)) _ _)) | with_reducible have hM2 := Mem.later hb (Mem.drew (Mem.al (Mem.al (Mem.al (hM.out) _ _) _ _) _ _)) | with_reducible have hM2 := Mem.later hb (Mem.al (Mem.al (Mem.drew (Mem.al (hM.out) _ _)) _ _) _ _) | with_reducible have hM2 := Mem.later hb (Mem.drew (Mem.al (Mem.drew (Mem.al (hM.out) _ _)) _ _)) | with_reducible have hM2 := Mem.later hb (Mem.al (Mem.al (Mem.al (Mem.al (Mem.al (hM.out) _ _) _ _) _ _) _ _) _ _) | with_reducible have hM2 := Mem.later hb (Mem.al (Mem.al (Mem.al (Mem.al (Mem.al (Mem.al (hM.out) _ _) _ _) _ _) _ _) _ _) _ _) | with_reducible have hM2 := Mem.later hb (Mem.al (Mem.al (Mem.al (Mem.al (Mem.al (Mem.al (Mem.al (hM.out) _ _) _ _) _ _) _ _) _ _) _ _) _ _) | with_reducible have hM2 := Mem.later hb (Mem.al (Mem.al (Mem.al (Mem.al (Mem.al (Mem.al (Mem.al (Mem.al (hM.out) _ _) _ _) _ _) _ _) _ _) _ _) _ _) _ _)); (try simp only [World.size_alloc, size_drew] at hM2); clear hM; have hM := Lib.hid hM2; clear hF; have hF := hM2; (try simp only [Mem, cellsAt, World.size_alloc, Nat.zero_add, Nat.reduceAdd, and_true] at hF); clear hM2; clear hb) | (go_at_call 104; (with_reducible refine (HSt.out _).mono ?_); rintro e w2 ⟨rfl, hb⟩; have hB : Below w.heap.size w w2 := (by refine bl_then ?_ hb; (repeat (first | exact hB | refine bl_al ?_ _ | refine Below.setCell ?_ (by first | exact hgs | exact Nat.le_succ_of_le hgs | exact hgs2 | exact hgs3) _ | refine Below.drew ?_ | refine bl_drewN ?_ _))); (first | with_reducible have hM2 := Mem.later hb (hM.out) | with_reducible have hM2 := Mem.later hb (Mem.al (hM.out) _ _) | with_reducible have hM2 := Mem.later hb (Mem.al (Mem.al (hM.out) _ _) _ _) | with_reducible have hM2 := Mem.later hb (Mem.al (Mem.al (Mem.al (hM.out) _ _) _ _) _ _) | with_reducible have hM2 := Mem.later hb (Mem.al (Mem.al (Mem.al (Mem.al (hM.out) _ _) _ _) _ _) _ _) | with_reducible have hM2 := Mem.later hb (Mem.drew (hM.out)) | with_reducible have hM2 := Mem.later hb (Mem.drew (Mem.al (hM.out) _ _)) | with_reducible have hM2 := Mem.later hb (Mem.al (Mem.drew (hM.out)) _ _) | with_reducible have hM2 := Mem.later hb (Mem.al (Mem.drew (Mem.al (hM.out) _ _)) _ _) | with_reducible have hM2 := Mem.later hb (Mem.drew (Mem.al (Mem.al (hM.out) _ _) _ _)) | with_reducible have hM2 := Mem.later hb (Mem.al (Mem.al (Mem.drew (hM.out)) _ _) _ _) | with_reducible have hM2 := Mem.later hb (Mem.drew (Mem.drew (hM.out))) | with_reducible have hM2 := Mem.later hb (Mem.drew (Mem.al (Mem.drew (hM.out)) _ _)) | with_reducible have hM2 := Mem.later hb (Mem.drew (Mem.al (Mem.al (Mem.al (hM.out) _ _) _ _) _ _)) | with_reducible have hM2 := Mem.later hb (Mem.al (Mem.al (Mem.drew (Mem.al (hM.out) _ _)) _ _) _ _) | with_reducible have hM2 := Mem.later hb (Mem.drew (Mem.al (Mem.drew (Mem.al (hM.out) _ _)) _ _)) | with_reducible have hM2 := Mem.later hb (Mem.al (Mem.al (Mem.al (Mem.al (Mem.al (hM.out) _ _) _ _) _ _) _ _) _ _) | with_reducible have hM2 := Mem.later hb (Mem.al (Mem.al (Mem.al (Mem.al (Mem.al (Mem.al (hM.out) _ _) _ _) _ _) _ _) _ _) _ _) | with_reducible have hM2 := Mem.later hb (Mem.al (Mem.al (Mem.al (Mem.al (Mem.al (Mem.al (Mem.al (hM.out) _ _) _ _) _ _) _ _) _ _) _ _) _ _) | with_reducible have hM2 := Mem.later hb (Mem.al (Mem.al (Mem.al (Mem.al (Mem.al (Mem.al (Mem.al (Mem.al (hM.out) _ _) _ _) _ _) _ _) _ _) _ _) _ _) _ _)); (try simp only [World.size_alloc, size_drew] at hM2); clear hM; have hM := Lib.hid hM2; clear hF; have hF := hM2; (try simp only [Mem, cellsAt, World.size_alloc, Nat.zero_add, Nat.reduceAdd, and_true] at hF); clear hM2; clear hb))
  have D1 : Hid (∀ p ∈ [(w.heap.size + 1, bcells (fun _ => 0) 32)], p.1 ≠ w.heap.size) := by
    intro p hp; simp at hp; subst hp; simp
  have hM3 := Mem.over (us := (stL ⟨a0, b0, c0, d0, e0, f0, g0, h0⟩ (.slice a1 n1 c1) (N : Int))) D1.out (⟨hM.out.2.1, hM.out.1, trivial⟩ : Mem w2 ((w.heap.size, stL ⟨p0, p1, p2, p3, p4, p5, p6, p7⟩ (.slice vao vn vc) vN) :: [(w.heap.size + 1, bcells (fun _ => 0) 32)])) rfl
  have hb3 := bl_setCellsW (b := w.heap.size) (Nat.le_refl _) (stL ⟨a0, b0, c0, d0, e0, f0, g0, h0⟩ (.slice a1 n1 c1) (N : Int)) 0 _ hB
  clear hM hF hB
  change Code.wp _ _ _ _ (w2.setCells w.heap.size 0 (stL ⟨a0, b0, c0, d0, e0, f0, g0, h0⟩ (.slice a1 n1 c1) (N : Int)))
  generalize w2.setCells w.heap.size 0 (stL ⟨a0, b0, c0, d0, e0, f0, g0, h0⟩ (.slice a1 n1 c1) (N : Int)) = w1 at *
  have HMW : Hid (Mem w1 [(w.heap.size + 1, bcells (fun _ => 0) 32), (w.heap.size, (stL ⟨a0, b0, c0, d0, e0, f0, g0, h0⟩ (.slice a1 n1 c1) (N : Int)))]) := ⟨hM3.2.1, hM3.1, trivial⟩
  have HBW := Lib.hid hb3
  clear hM3 hb3
  have hF := HMW.out.2.1
  simp only [cellsAt, stL, Nat.zero_add, Nat.reduceAdd, and_true] at hF
  have hz := hF.2.2
  go_cut [3] from 11 to 16 (fun p wx => RMid w t p wx)
  case first =>
    refine wp_fork (fun x => x.cell? ⟨w.heap.size, 0, none⟩ = some (.int .u32 a0) ∧ x.cell? ⟨w.heap.size, 1, none⟩ = some (.int .u32 b0) ∧ x.cell? ⟨w.heap.size, 2, none⟩ = some (.int .u32 c0) ∧ x.cell? ⟨w.heap.size, 3, none⟩ = some (.int .u32 d0) ∧ x.cell? ⟨w.heap.size, 4, none⟩ = some (.int .u32 e0) ∧ x.cell? ⟨w.heap.size, 5, none⟩ = some (.int .u32 f0) ∧ x.cell? ⟨w.heap.size, 6, none⟩ = some (.int .u32 g0) ∧ x.cell? ⟨w.heap.size, 7, none⟩ = some (.int .u32 h0) ∧ x.cell? ⟨w.heap.size, 8, none⟩ = some (.slice a1 n1 c1) ∧ x.cell? ⟨w.heap.size, 9, none⟩ = some (.int .u64 (N : Int))) [3, 4, 5, 6] (nodes [0, 1, 2] (.fork 3 5 (.fork 4 5 (nodes [5, 6] .leaf) (nodes [4, 6] .leaf)) (nodes [3, 4, 6] .leaf))) (by kernel_rfl) (by kernel_rfl) hz (fun hHeld => ?_)
    iterate 3 (refine wpF_take rfl (by rfl) (by rfl) (by intro w' hSw; (try dsimp only [Mem, cellsAt] at hSw); go_simp; (try with_reducible rfl)) (by assumption) ?_; (try simp only [Act.put, List.setIfInBounds_toArray, List.set_cons_zero, List.set_cons_succ]))
    (refine wpF_fork rfl rfl (fun K hK => ?_) (fun K hK => ?_) <;> go_simp)
    · refine (HPad.out _).mono ?_
      rintro e w2 ⟨g2, k2, rfl, ho2, hb2⟩
      have HM2 := Lib.hid (Mem.later hb2 (Mem.drew HMW.out))
      have HB2 := Lib.hid (bl_then HBW.out.drew hb2)
      have HO2 := Lib.hid (row_own ho2 (bcells_one _ _))
      have hz2 := HM2.out.2.1.2.2
      simp only [cellsAt, stL, Nat.zero_add, Nat.reduceAdd, and_true] at hz2
      clear ho2 hb2
      (refine hK.out _ _ _ (fun _ h => h) (hz2) (fun hHeld => ?_); clear hK; clear K; (try simp only [Act.put, List.setIfInBounds_toArray, List.set_cons_zero, List.set_cons_succ]))
      (refine wpF_fork rfl rfl (fun K hK => ?_) (fun K hK => ?_) <;> go_simp)
      · refine (HWr.out _ HB2.out _ _ HO2.out).mono ?_
        rintro e w3 ⟨ao, cap, rfl, _, hb3⟩
        have HM3 := Lib.hid (Mem.later hb3 HM2.out)
        have HB3 := Lib.hid (bl_then HB2.out hb3)
        have hz3 := HM3.out.2.1.2.2
        simp only [cellsAt, stL, Nat.zero_add, Nat.reduceAdd, and_true] at hz3
        clear hb3 hz2
        (refine hK.out _ _ _ (fun _ h => h) (hz3) (fun hHeld => ?_); clear hK; clear K; (try simp only [Act.put, List.setIfInBounds_toArray, List.set_cons_zero, List.set_cons_succ]))
        (refine wpF_step rfl (by rfl) (fun K hK => ?_); go_simp)
        have HM4 := Lib.hid (Mem.al HM3.out z10 27)
        have HB4 := Lib.hid (bl_al HB3.out (.cells z10.toArray 27))
        have hz4 := HM4.out.2.2.1.2.2
        simp only [cellsAt, stL, Nat.zero_add, Nat.reduceAdd, and_true] at hz4
        (refine hK.out _ _ _ (fun _ h => h) (hz4) (fun hHeld => ?_); clear hK; clear K; (try simp only [Act.put, List.setIfInBounds_toArray, List.set_cons_zero, List.set_cons_succ]))
        (refine wpF_step rfl (by rfl) (fun K hK => ?_); go_simp)
        have HM5 := Lib.hid (Mem.al HM3.out (stL t (.slice ao 0 cap) (IntKind.u64.wrap ((N : Int) + (P : Int)))) 27)
        have HB5 := Lib.hid (bl_al HB3.out (.cells (stL t (.slice ao 0 cap) (IntKind.u64.wrap ((N : Int) + (P : Int)))).toArray 27))
        have hz5 := HM5.out.2.2.1.2.2
        simp only [cellsAt, stL, Nat.zero_add, Nat.reduceAdd, and_true] at hz5
        (refine hK.out _ _ _ (fun _ h => h) (hz5) (fun hHeld => ?_); clear hK; clear K; (try simp only [Act.put, List.setIfInBounds_toArray, List.set_cons_zero, List.set_cons_succ]))
        (refine wpF_nil ?_)
        go_wp2
        go_meet
        exact ⟨w3.heap.size, ao, cap, _, rfl, HM3.out.1.1, HB5.out, HM5.out.1, HM5.out.2.1, trivial⟩
      · have HM4 := Lib.hid (Mem.al HM2.out z10 27)
        have HB4 := Lib.hid (bl_al HB2.out (.cells z10.toArray 27))
        have hz4 := HM4.out.2.2.1.2.2
        simp only [cellsAt, stL, Nat.zero_add, Nat.reduceAdd, and_true] at hz4
        have HGB : Hid (w.heap.size + 1 < w2.heap.size) := HM2.out.1.1
        clear hz2
        (refine hK.out _ _ _ (fun _ h => h) (hz4) (fun hHeld => ?_); clear hK; clear K; (try simp only [Act.put, List.setIfInBounds_toArray, List.set_cons_zero, List.set_cons_succ]))
        (refine wpF_step rfl (by rfl) (fun K hK => ?_); go_simp)
        refine (HWr.out _ HB4.out _ _ (HO2.out.later (below_alloc _ _))).mono ?_
        rintro e w3 ⟨ao, cap, rfl, _, hb3⟩
        have HM3 := Lib.hid (Mem.later hb3 HM4.out)
        have HB3 := Lib.hid (bl_then HB4.out hb3)
        have hz3 := HM3.out.2.2.1.2.2
        simp only [cellsAt, stL, Nat.zero_add, Nat.reduceAdd, and_true] at hz3
        clear hb3 hz4
        have hv3 := HM3.out.1.2
        simp only [cellsAt, z10, stL, Nat.zero_add, Nat.reduceAdd, and_true] at hv3
        (refine hK.out _ _ _ (fun _ h => h) (hz3) (fun hHeld => ?_); clear hK; clear K; (try simp only [Act.put, List.setIfInBounds_toArray, List.set_cons_zero, List.set_cons_succ]))
        (refine wpF_step rfl (by rfl) (fun K hK => ?_); go_simp)
        have hD5 : ∀ p ∈ [(w.heap.size + 1, bcells (fun _ => 0) 32), (w.heap.size, stL ⟨a0, b0, c0, d0, e0, f0, g0, h0⟩ (.slice a1 n1 c1) (N : Int))], p.1 ≠ w2.heap.size := by
          intro p hp
          have := HGB.out
          simp at hp
          rcases hp with rfl | rfl <;> dsimp only <;> omega
        have HM5 := Lib.hid (Mem.over (us := stL t (.slice ao 0 cap) (IntKind.u64.wrap ((N : Int) + (P : Int)))) hD5 HM3.out rfl)
        have HB5 := Lib.hid (bl_setCellsW (b := w2.heap.size) (by have := HGB.out; omega) (stL t (.slice ao 0 cap) (IntKind.u64.wrap ((N : Int) + (P : Int)))) 0 w3 HB3.out)
        have hz5 := HM5.out.2.2.1.2.2
        simp only [cellsAt, stL, Nat.zero_add, Nat.reduceAdd, and_true] at hz5
        (refine hK.out _ _ _ (fun _ h => h) (hz5) (fun hHeld => ?_); clear hK; clear K; (try simp only [Act.put, List.setIfInBounds_toArray, List.set_cons_zero, List.set_cons_succ]))
        (refine wpF_nil ?_)
        go_wp2
        go_meet
        exact ⟨w2.heap.size, ao, cap, _, rfl, HGB.out, HB5.out, HM5.out.1, HM5.out.2.1, trivial⟩
    · have HMD := Lib.hid (Mem.drew HMW.out)
      have HM4 := Lib.hid (Mem.al HMD.out z10 27)
      have HB4 := Lib.hid (bl_al HBW.out.drew (.cells z10.toArray 27))
      have hz4 := HM4.out.2.2.1.2.2
      simp only [cellsAt, stL, Nat.zero_add, Nat.reduceAdd, and_true] at hz4
      rw [size_drew] at HM4
      have HGB : Hid (w.heap.size + 1 < w1.heap.size) := HMW.out.1.1
      (refine hK.out _ _ _ (fun _ h => h) (hz4) (fun hHeld => ?_); clear hK; clear K; (try simp only [Act.put, List.setIfInBounds_toArray, List.set_cons_zero, List.set_cons_succ]))
      (refine wpF_step rfl (by rfl) (fun K hK => ?_); go_simp)
      refine (HPad.out _).mono ?_
      rintro e w2 ⟨g2, k2, rfl, ho2, hb2⟩
      have HM2 := Lib.hid (Mem.later hb2 HM4.out)
      have HB2 := Lib.hid (bl_then HB4.out hb2)
      have HO2 := Lib.hid (row_own ho2 (bcells_one _ _))
      have hz2 := HM2.out.2.2.1.2.2
      simp only [cellsAt, stL, Nat.zero_add, Nat.reduceAdd, and_true] at hz2
      clear ho2 hb2
      clear hz4
      (refine hK.out _ _ _ (fun _ h => h) (hz2) (fun hHeld => ?_); clear hK; clear K; (try simp only [Act.put, List.setIfInBounds_toArray, List.set_cons_zero, List.set_cons_succ]))
      (refine wpF_step rfl (by rfl) (fun K hK => ?_); go_simp)
      refine (HWr.out _ HB2.out _ _ HO2.out).mono ?_
      rintro e w3 ⟨ao, cap, rfl, _, hb3⟩
      have HM3 := Lib.hid (Mem.later hb3 HM2.out)
      have HB3 := Lib.hid (bl_then HB2.out hb3)
      have hz3 := HM3.out.2.2.1.2.2
      simp only [cellsAt, stL, Nat.zero_add, Nat.reduceAdd, and_true] at hz3
      clear hb3
      clear hz2
      have hv3 := HM3.out.1.2
      simp only [cellsAt, z10, stL, Nat.zero_add, Nat.reduceAdd, and_true] at hv3
      (refine hK.out _ _ _ (fun _ h => h) (hz3) (fun hHeld => ?_); clear hK; clear K; (try simp only [Act.put, List.setIfInBounds_toArray, List.set_cons_zero, List.set_cons_succ]))
      (refine wpF_step rfl (by rfl) (fun K hK => ?_); go_simp)
      have hD5 : ∀ p ∈ [(w.heap.size + 1, bcells (fun _ => 0) 32), (w.heap.size, stL ⟨a0, b0, c0, d0, e0, f0, g0, h0⟩ (.slice a1 n1 c1) (N : Int))], p.1 ≠ w1.heap.size := by
        intro p hp
        have := HGB.out
        simp at hp
        rcases hp with rfl | rfl <;> dsimp only <;> omega
      have HM5 := Lib.hid (Mem.over (us := stL t (.slice ao 0 cap) (IntKind.u64.wrap ((N : Int) + (P : Int)))) hD5 HM3.out rfl)
      have HB5 := Lib.hid (bl_setCellsW (b := w1.heap.size) (by have := HGB.out; omega) (stL t (.slice ao 0 cap) (IntKind.u64.wrap ((N : Int) + (P : Int)))) 0 w3 HB3.out)
      have hz5 := HM5.out.2.2.1.2.2
      simp only [cellsAt, stL, Nat.zero_add, Nat.reduceAdd, and_true] at hz5
      (refine hK.out _ _ _ (fun _ h => h) (hz5) (fun hHeld => ?_); clear hK; clear K; (try simp only [Act.put, List.setIfInBounds_toArray, List.set_cons_zero, List.set_cons_succ]))
      (refine wpF_nil ?_)
      go_wp2
      go_meet
      exact ⟨w1.heap.size, ao, cap, _, rfl, HGB.out, HB5.out, HM5.out.1, HM5.out.2.1, trivial⟩
  case rest =>
    obtain ⟨gb, ao, cap, N', rfl, hgb, hB, hm⟩ := hcut
    have HM := Lib.hid hm
    have hF := hm.1
    obtain ⟨ta, tb, tc, td, te, tf, tg, th⟩ := t
    simp only [cellsAt, stL, Nat.zero_add, Nat.reduceAdd, and_true] at hF
    have hlt0 := hm.1.1
    clear hm HMW HBW HSn HWr HPad hz
    go_wp2
    obtain ⟨gs, hgs⟩ : ∃ g, wc.heap.size = g := ⟨_, rfl⟩
    have hM2 := Mem.al HM.out (bcells (fun _ => 0) 32) 30
    rw [hgs] at hM2 hF hlt0
    simp only [hgs]
    have HM2 := Lib.hid hM2
    have HB2 := Lib.hid (bl_al hB (.cells (bcells (fun _ => 0) 32).toArray 30))
    have HGS := Lib.hid (And.intro hgs (And.intro hgb hlt0))
    clear hM2 hB hgs hF hgb hlt0
    go_loopw [5] (fun i wr => RendRel w gs gb ⟨ta, tb, tc, td, te, tf, tg, th⟩ (.slice ao 0 cap) N' i wr) (fun i _ => 8 - (intOf i).toNat)
    case atStart =>
      refine ⟨0, Nat.zero_le _, rfl, HB2.out, ?_⟩
      rw [bcells_congr (g := fun _ => 0) (fun i _ => by unfold outP; rw [if_neg (by omega)])]
      exact HM2.out
    case round =>
      obtain ⟨j, hj, rfl, hB, hm⟩ := hrel
      by_cases hlt : j < 8
      · obtain ⟨x, hx⟩ : ∃ x, (⟨ta, tb, tc, td, te, tf, tg, th⟩ : S8).at j = x := ⟨_, rfl⟩
        obtain ⟨q, hq⟩ : ∃ q, 4 * j = q := ⟨_, rfl⟩
        obtain ⟨q1, hq1⟩ : ∃ p, q + 1 = p := ⟨_, rfl⟩
        obtain ⟨q2, hq2⟩ : ∃ p, q + 2 = p := ⟨_, rfl⟩
        obtain ⟨q3, hq3⟩ : ∃ p, q + 3 = p := ⟨_, rfl⟩
        have t0 : IntKind.i64.wrap (4 * (j : Int)) = (q : Int) := by rw [IntKind.wrap_i64]; omega
        have t1 : IntKind.i64.wrap ((q : Int) + 1) = (q1 : Int) := by rw [IntKind.wrap_i64]; omega
        have t2 : IntKind.i64.wrap ((q : Int) + 2) = (q2 : Int) := by rw [IntKind.wrap_i64]; omega
        have t3 : IntKind.i64.wrap ((q : Int) + 3) = (q3 : Int) := by rw [IntKind.wrap_i64]; omega
        have l0 : (q : Int) < 32 := by omega
        have l1 : (q1 : Int) < 32 := by omega
        have l2 : (q2 : Int) < 32 := by omega
        have l3 : (q3 : Int) < 32 := by omega
        have hj8 : (j : Int) < 8 := by omega
        have hxc : wr.cell? ⟨gb, j, none⟩ = some (.int .u32 x) := by
          refine cellsAt_get hm.2.1.2.2 (?_ : (stL ⟨ta, tb, tc, td, te, tf, tg, th⟩ (.slice ao 0 cap) N')[j]? = _)
          rw [← hx]
          have hcase : j = 0 ∨ j = 1 ∨ j = 2 ∨ j = 3 ∨ j = 4 ∨ j = 5 ∨ j = 6 ∨ j = 7 := by omega
          rcases hcase with rfl | rfl | rfl | rfl | rfl | rfl | rfl | rfl <;> rfl
        have hc : ∀ k, k < 32 → wr.cell? ⟨gs, k, none⟩ = some (.int .u8 (outP ⟨ta, tb, tc, td, te, tf, tg, th⟩ j k)) := fun k hk => cellsAt_get hm.1.2.2 (bcells_get _ 32 k hk)
        have d0 := hc q (by omega)
        have d1 := hc q1 (by omega)
        have d2 := hc q2 (by omega)
        have d3 := hc q3 (by omega)
        have hz := hm.1.2.1
        have HMr := Lib.hid hm
        have HQ := Lib.hid (And.intro hx (And.intro hq (And.intro hq1 (And.intro hq2 hq3))))
        have n01 : q ≠ q1 := by omega
        have n02 : q ≠ q2 := by omega
        have n03 : q ≠ q3 := by omega
        have n12 : q1 ≠ q2 := by omega
        have n13 : q1 ≠ q3 := by omega
        have n23 : q2 ≠ q3 := by omega
        have hne : gs ≠ gb := by have := HGS.out.2.2; omega
        have hne' : gb ≠ gs := Ne.symm hne
        clear hm hc hx hq hq1 hq2 hq3
        go_wp2
        refine wp_loop_rounds 5 ?_
        rw [rounds_succ]
        go_wp2
        rw [rounds_succ]
        go_wp2
        rw [rounds_succ]
        go_wp2
        rw [rounds_succ]
        go_wp2
        rw [rounds_succ]
        go_wp2
        obtain ⟨hx, hq, hq1, hq2, hq3⟩ := HQ.out
        have o0 : outF ⟨ta, tb, tc, td, te, tf, tg, th⟩ q = x / 16777216 % 256 := by
          unfold outF
          rw [show q / 4 = j by omega, show q % 4 = 0 by omega, hx]
          exact IntKind.wrap_u8 _
        have o1 : outF ⟨ta, tb, tc, td, te, tf, tg, th⟩ q1 = x / 65536 % 256 := by
          unfold outF
          rw [show q1 / 4 = j by omega, show q1 % 4 = 1 by omega, hx]
          exact IntKind.wrap_u8 _
        have o2 : outF ⟨ta, tb, tc, td, te, tf, tg, th⟩ q2 = x / 256 % 256 := by
          unfold outF
          rw [show q2 / 4 = j by omega, show q2 % 4 = 2 by omega, hx]
          exact IntKind.wrap_u8 _
        have o3 : outF ⟨ta, tb, tc, td, te, tf, tg, th⟩ q3 = x % 256 := by
          unfold outF
          rw [show q3 / 4 = j by omega, show q3 % 4 = 3 by omega, hx]
          rw [show (2 : Int) ^ (24 - 8 * 3) = 1 by decide, Int.ediv_one]
          exact IntKind.wrap_u8 _
        have D4 : ∀ p ∈ [(gb, stL ⟨ta, tb, tc, td, te, tf, tg, th⟩ (.slice ao 0 cap) N'), (w.heap.size + 1, bcells (fun _ => 0) 32)], p.1 ≠ gs := by
          intro p hp
          have hg := HGS.out
          simp at hp
          rcases hp with rfl | rfl <;> dsimp only <;> omega
        have hR := Mem.setN (k := q3) (v := .int .u8 (x % 256)) D4 (Mem.setN (k := q2) (v := .int .u8 (x / 256 % 256)) D4 (Mem.setN (k := q1) (v := .int .u8 (x / 65536 % 256)) D4 (Mem.setN (k := q) (v := .int .u8 (x / 16777216 % 256)) D4 HMr.out)))
        rw [bcells_set, bcells_set, bcells_set, bcells_set] at hR
        have e : bcells (setF (setF (setF (setF (outP ⟨ta, tb, tc, td, te, tf, tg, th⟩ j) q (x / 16777216 % 256)) q1 (x / 65536 % 256)) q2 (x / 256 % 256)) q3 (x % 256)) 32 = bcells (outP ⟨ta, tb, tc, td, te, tf, tg, th⟩ (j + 1)) 32 := by
          refine bcells_congr fun i _ => ?_
          unfold setF
          by_cases h3 : i = q3
          · rw [if_pos h3, h3, ← o3]; unfold outP; rw [if_pos (by omega)]
          rw [if_neg h3]
          by_cases h2 : i = q2
          · rw [if_pos h2, h2, ← o2]; unfold outP; rw [if_pos (by omega)]
          rw [if_neg h2]
          by_cases h1 : i = q1
          · rw [if_pos h1, h1, ← o1]; unfold outP; rw [if_pos (by omega)]
          rw [if_neg h1]
          by_cases h0 : i = q
          · rw [if_pos h0, h0, ← o0]; unfold outP; rw [if_pos (by omega)]
          rw [if_neg h0]
          unfold outP
          by_cases hi : i < 4 * j
          · rw [if_pos hi, if_pos (by omega)]
          · rw [if_neg hi, if_neg (by omega)]
        rw [e] at hR
        have hgw : w.heap.size ≤ gs := by have hg := HGS.out; omega
        exact ⟨⟨j + 1, by omega, by go_num, (((hB.setCell hgw _).setCell hgw _).setCell hgw _).setCell hgw _, hR⟩, by simp [intOf]; omega⟩
      · have hje : j = 8 := by omega
        subst hje
        have h8 : ((8 : Nat) : Int) = 8 := rfl
        rw [h8]
        rw [bcells_congr (g := outF ⟨ta, tb, tc, td, te, tf, tg, th⟩) (fun i hi => by unfold outP; rw [if_pos (by omega)])] at hm
        have HMr := Lib.hid hm
        have HTh := Lib.hid (thereW (n := 32) hm.2.2.1 (by rw [bcells_len]; exact Nat.le_refl _))
        clear hm
        go_wp2_with (first | (refine Go.wpList_load_mid rfl 30 (.tmp 4) rfl gs 0 rfl (bcells (outF ⟨ta, tb, tc, td, te, tf, tg, th⟩) 32) _ (rangeAt_of HMr.out.1.2.2) Tryd.underlying30 rfl (by rw [bcells_len]; kernel_rfl) ?_) | (refine Go.wpList_store_mid rfl 30 (.tmp 2) (.tmp 39) rfl (w.heap.size + 1) 0 (bcells (outF ⟨ta, tb, tc, td, te, tf, tg, th⟩) 32).toArray rfl rfl (by simpa [bcells_len] using HTh.out) (by simp only [List.size_toArray, bcells_len]; kernel_rfl) (Go.all_oneCell_toArray (bcells_one _ 32)) ?_))
        have hl := Go.run_loadVar_mid (P := Tryd.prog) (wr.setCells (w.heap.size + 1) 0 (bcells (outF ⟨ta, tb, tc, td, te, tf, tg, th⟩) 32)) (w.heap.size + 1) 0 30 (bcells (outF ⟨ta, tb, tc, td, te, tf, tg, th⟩) 32) _ (World.rangeAt_setCells_same wr (w.heap.size + 1) 0 _ (by rw [bcells_len]; exact HTh.out)) Tryd.underlying30 rfl (by rw [bcells_len]; kernel_rfl)
        refine bodyPost_ret (v := .agg (bcells (outF ⟨ta, tb, tc, td, te, tf, tg, th⟩) 32).toArray) (by simp [results, Tryd.results29, asAddr, hl, Act.put]) rfl ⟨rfl, bl_setCellsW (Nat.le_succ _) _ _ _ hB⟩
end Go.Proofs.YtpdgeiflmnhkfaaDoor
