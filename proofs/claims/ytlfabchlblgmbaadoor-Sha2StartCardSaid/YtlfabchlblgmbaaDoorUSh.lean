/- Package u256: Shl, the walks (made by gen_sh.py). -/
import Derived.Test.YtlfabchlblgmbaaDoorUSh0
namespace Go.Proofs.YtlfabchlblgmbaaDoor
set_option linter.unusedVariables false
set_option linter.unusedSimpArgs false
open Go.RowKit

set_option maxRecDepth 100000 in
set_option maxHeartbeats 2000000 in
theorem shl_0 {a0 a1 a2 a3 : Int} (ha : B4 a0 a1 a2 a3) (n : Int) (k r : Nat) (hr : r < 64) (hkr : k = 64 * 0 + r) (hn : n = k ∨ (n ≤ 0 ∧ k = 0)) (w : World) :
    Calls Tryd.prog 38 #[U4 a0 a1 a2 a3, .int .i64 n] w fun e w' => ∃ s0 s1 s2 s3 c : Int, e = .returned (.tuple #[U4 s0 s1 s2 s3, .bool (decide (256 < lenN a0 a1 a2 a3 + k))]) ∧ B4 s0 s1 s2 s3 ∧ N4 a0 a1 a2 a3 * 2 ^ k = N4 s0 s1 s2 s3 + WW * c ∧ Below w.heap.size w w' := by
  obtain ⟨ep, he⟩ : ∃ ep, r + ep = 64 := ⟨64 - r, by omega⟩
  obtain ⟨l0, g0, L0, G0, e0, bl0, bg0, o0⟩ := sh_up a0 r ep ha.h0 he
  obtain ⟨l1, g1, L1, G1, e1, bl1, bg1, o1⟩ := sh_up a1 r ep ha.h1 he
  obtain ⟨l2, g2, L2, G2, e2, bl2, bg2, o2⟩ := sh_up a2 r ep ha.h2 he
  obtain ⟨l3, g3, L3, G3, e3, bl3, bg3, o3⟩ := sh_up a3 r ep ha.h3 he
  have O1 := (o1 g0 bg0).1
  have O2 := (o2 g1 bg1).1
  have O3 := (o3 g2 bg2).1
  obtain ⟨L, hL, hL1, _, _⟩ := len_holds ha
  have HL := Lib.hid (fun w => hL ▸ len_n ha w)
  have hwL : IntKind.i64.wrap ((L : Int) + (k : Int)) = (L : Int) + (k : Int) := wrap_small _ (by omega) (by omega)
  have hm : max n 0 = (k : Int) := by omega
  have hx : (64 : Int) - (r : Int) = (ep : Int) := by omega
  have hk256 : (k : Int) < 256 := by omega
  have hq : (k : Int).tdiv 64 = 0 := by rw [Int.tdiv_eq_ediv_of_nonneg (by omega)]; omega
  have htm : (k : Int).tmod 64 = (r : Int) := by rw [Int.tmod_eq_emod_of_nonneg (by omega)]; omega
  have hw0 : IntKind.i64.wrap 0 = 0 := by decide
  have hw1 : IntKind.i64.wrap 1 = 1 := by decide
  have hw2 : IntKind.i64.wrap 2 = 2 := by decide
  have hw3 : IntKind.i64.wrap 3 = 3 := by decide
  have hwr : IntKind.i64.wrap (r : Int) = (r : Int) := wrap_small _ (by omega) (by omega)
  have hwe : IntKind.i64.wrap (ep : Int) = (ep : Int) := wrap_small _ (by omega) (by omega)
  have HX : Hid (B4 (l0) (l1 + g0) (l2 + g1) (l3 + g2) ∧ N4 a0 a1 a2 a3 * 2 ^ k = N4 (l0) (l1 + g0) (l2 + g1) (l3 + g2) + WW * (g3)) := by
    have hp := two_pow_pos r
    refine ⟨⟨?_, ?_, ?_, ?_⟩, ?_⟩
    · unfold WI at *; omega
    · unfold WI at *; omega
    · unfold WI at *; omega
    · unfold WI at *; omega
    · rw [pow_split k 0 r hkr, show (2 : Int) ^ (64 * 0) = 1 by decide]
      have h := (up0 a0 a1 a2 a3 (2 ^ r) l0 l1 l2 l3 g0 g1 g2 g3 e0 e1 e2 e3).1
      rw [Int.one_mul]; exact h
  clear o0 o1 o2 o3 ha e0 e1 e2 e3 bl0 bl1 bl2 bl3 bg0 bg1 bg2 bg3 hkr
  have HLk := Lib.hid hL
  clear hL
  go_enter Tryd.func38, Tryd.ntmps38
  go_wp2
  refine wp_loop_rounds 5 ?_
  rw [rounds_succ]
  go_wp2
  rw [rounds_succ]
  go_wp2
  refine wp_plan (fun x => x.cell? ⟨w.heap.size, 0, none⟩ = some (.int .u64 a0)) [2, 14] [0, 1, 3, 4, 5, 6, 7, 8, 9, 10, 11, 2, 12, 13, 14] (by kernel_rfl) (by kernel_rfl) (by go_simp) (fun hHeld => ?_)
  iterate 11 (refine wpT_take rfl (by rfl) (by rfl) (by intro w' hSw; (try dsimp only [Mem, cellsAt] at hSw); go_simp; (try with_reducible rfl)) (by assumption) ?_; (try simp only [Act.put, List.setIfInBounds_toArray, List.set_cons_zero, List.set_cons_succ]))
  (refine wpT_step rfl (by rfl) (fun K hK => ?_); go_simp)
  (refine hK.out _ _ _ (fun _ h => h) (hHeld) (fun hHeld => ?_); clear hK; clear K; (try simp only [Act.put, List.setIfInBounds_toArray, List.set_cons_zero, List.set_cons_succ]))
  iterate 2 (refine wpT_take rfl (by rfl) (by rfl) (by intro w' hSw; (try dsimp only [Mem, cellsAt] at hSw); go_simp; (try with_reducible rfl)) (by assumption) ?_; (try simp only [Act.put, List.setIfInBounds_toArray, List.set_cons_zero, List.set_cons_succ]))
  (refine wpT_step rfl (by rfl) (fun K hK => ?_); go_simp)
  (refine hK.out _ _ _ (fun _ h => h) (by go_simp) (fun hHeld => ?_); clear hK; clear K; (try simp only [Act.put, List.setIfInBounds_toArray, List.set_cons_zero, List.set_cons_succ]))
  (refine wpT_nil ?_)
  clear hHeld
  go_wp2
  rw [rounds_succ]
  go_wp2
  refine wp_plan (fun x => x.cell? ⟨w.heap.size, 1, none⟩ = some (.int .u64 a1)) [2, 14] [0, 1, 3, 4, 5, 6, 7, 8, 9, 10, 11, 2, 12, 13, 14] (by kernel_rfl) (by kernel_rfl) (by go_simp) (fun hHeld => ?_)
  iterate 11 (refine wpT_take rfl (by rfl) (by rfl) (by intro w' hSw; (try dsimp only [Mem, cellsAt] at hSw); go_simp; (try with_reducible rfl)) (by assumption) ?_; (try simp only [Act.put, List.setIfInBounds_toArray, List.set_cons_zero, List.set_cons_succ]))
  (refine wpT_step rfl (by rfl) (fun K hK => ?_); go_simp)
  (refine hK.out _ _ _ (fun _ h => h) (hHeld) (fun hHeld => ?_); clear hK; clear K; (try simp only [Act.put, List.setIfInBounds_toArray, List.set_cons_zero, List.set_cons_succ]))
  iterate 2 (refine wpT_take rfl (by rfl) (by rfl) (by intro w' hSw; (try dsimp only [Mem, cellsAt] at hSw); go_simp; (try with_reducible rfl)) (by assumption) ?_; (try simp only [Act.put, List.setIfInBounds_toArray, List.set_cons_zero, List.set_cons_succ]))
  (refine wpT_step rfl (by rfl) (fun K hK => ?_); go_simp)
  (refine hK.out _ _ _ (fun _ h => h) (by go_simp) (fun hHeld => ?_); clear hK; clear K; (try simp only [Act.put, List.setIfInBounds_toArray, List.set_cons_zero, List.set_cons_succ]))
  (refine wpT_nil ?_)
  clear hHeld
  go_wp2
  rw [rounds_succ]
  go_wp2
  refine wp_plan (fun x => x.cell? ⟨w.heap.size, 2, none⟩ = some (.int .u64 a2)) [2, 14] [0, 1, 3, 4, 5, 6, 7, 8, 9, 10, 11, 2, 12, 13, 14] (by kernel_rfl) (by kernel_rfl) (by go_simp) (fun hHeld => ?_)
  iterate 11 (refine wpT_take rfl (by rfl) (by rfl) (by intro w' hSw; (try dsimp only [Mem, cellsAt] at hSw); go_simp; (try with_reducible rfl)) (by assumption) ?_; (try simp only [Act.put, List.setIfInBounds_toArray, List.set_cons_zero, List.set_cons_succ]))
  (refine wpT_step rfl (by rfl) (fun K hK => ?_); go_simp)
  (refine hK.out _ _ _ (fun _ h => h) (hHeld) (fun hHeld => ?_); clear hK; clear K; (try simp only [Act.put, List.setIfInBounds_toArray, List.set_cons_zero, List.set_cons_succ]))
  iterate 2 (refine wpT_take rfl (by rfl) (by rfl) (by intro w' hSw; (try dsimp only [Mem, cellsAt] at hSw); go_simp; (try with_reducible rfl)) (by assumption) ?_; (try simp only [Act.put, List.setIfInBounds_toArray, List.set_cons_zero, List.set_cons_succ]))
  (refine wpT_step rfl (by rfl) (fun K hK => ?_); go_simp)
  (refine hK.out _ _ _ (fun _ h => h) (by go_simp) (fun hHeld => ?_); clear hK; clear K; (try simp only [Act.put, List.setIfInBounds_toArray, List.set_cons_zero, List.set_cons_succ]))
  (refine wpT_nil ?_)
  clear hHeld
  go_wp2
  rw [rounds_succ]
  go_wp2
  have hB : Below w.heap.size w (((w.alloc (.cells #[.int .u64 a0, .int .u64 a1, .int .u64 a2, .int .u64 a3] 52)).alloc (.cells #[.int .u64 0, .int .u64 0, .int .u64 0, .int .u64 0] 52)).alloc (.cells #[.int .u64 l0, .int .u64 (l1 + g0), .int .u64 (l2 + g1), .int .u64 (l3 + g2)] 52)).drew.drew.drew := by (repeat (first | exact Below.refl _ _ | refine Below.drew ?_ | refine bl_drewN ?_ _ | (refine Below.alloc ?_ (by first | exact Nat.le_refl _ | (simp; done) | (simp; omega)) _)))
  have hM3 : Mem (((w.alloc (.cells #[.int .u64 a0, .int .u64 a1, .int .u64 a2, .int .u64 a3] 52)).alloc (.cells #[.int .u64 0, .int .u64 0, .int .u64 0, .int .u64 0] 52)).alloc (.cells #[.int .u64 l0, .int .u64 (l1 + g0), .int .u64 (l2 + g1), .int .u64 (l3 + g2)] 52)) [(w.heap.size + 1 + 1, [.int .u64 l0, .int .u64 (l1 + g0), .int .u64 (l2 + g1), .int .u64 (l3 + g2)]), (w.heap.size + 1, [.int .u64 0, .int .u64 0, .int .u64 0, .int .u64 0]), (w.heap.size, [.int .u64 a0, .int .u64 a1, .int .u64 a2, .int .u64 a3])] := by
    have h := Mem.al (Mem.al (Mem.al (mem_nil w) [.int .u64 a0, .int .u64 a1, .int .u64 a2, .int .u64 a3] 52) [.int .u64 0, .int .u64 0, .int .u64 0, .int .u64 0] 52) [.int .u64 l0, .int .u64 (l1 + g0), .int .u64 (l2 + g1), .int .u64 (l3 + g2)] 52
    simp only [World.size_alloc] at h
    exact h
  have hM := Lib.hid (show Mem (((w.alloc (.cells #[.int .u64 a0, .int .u64 a1, .int .u64 a2, .int .u64 a3] 52)).alloc (.cells #[.int .u64 0, .int .u64 0, .int .u64 0, .int .u64 0] 52)).alloc (.cells #[.int .u64 l0, .int .u64 (l1 + g0), .int .u64 (l2 + g1), .int .u64 (l3 + g2)] 52)).drew.drew.drew [(w.heap.size + 1 + 1, [.int .u64 l0, .int .u64 (l1 + g0), .int .u64 (l2 + g1), .int .u64 (l3 + g2)]), (w.heap.size + 1, [.int .u64 0, .int .u64 0, .int .u64 0, .int .u64 0]), (w.heap.size, [.int .u64 a0, .int .u64 a1, .int .u64 a2, .int .u64 a3])] from Mem.drew (Mem.drew (Mem.drew (hM3))))
  clear hM3
  generalize (((w.alloc (.cells #[.int .u64 a0, .int .u64 a1, .int .u64 a2, .int .u64 a3] 52)).alloc (.cells #[.int .u64 0, .int .u64 0, .int .u64 0, .int .u64 0] 52)).alloc (.cells #[.int .u64 l0, .int .u64 (l1 + g0), .int .u64 (l2 + g1), .int .u64 (l3 + g2)] 52)).drew.drew.drew = wl at *
  have hF : True := trivial
  refine wp_plan (fun x => Mem x [(w.heap.size + 1 + 1, [.int .u64 l0, .int .u64 (l1 + g0), .int .u64 (l2 + g1), .int .u64 (l3 + g2)]), (w.heap.size, [.int .u64 a0, .int .u64 a1, .int .u64 a2, .int .u64 a3])]) [2, 6] [0, 1, 3, 2, 4, 5, 6, 7] (by kernel_rfl) (by kernel_rfl) (Mem.drew ⟨hM.out.1, hM.out.2.2.1, trivial⟩) (fun hHeld => ?_)
  iterate 3 (refine wpT_take rfl (by rfl) (by rfl) (by intro w' hSw; (try dsimp only [Mem, cellsAt] at hSw); go_simp; (try with_reducible rfl)) (by assumption) ?_; (try simp only [Act.put, List.setIfInBounds_toArray, List.set_cons_zero, List.set_cons_succ]))
  (refine wpT_step rfl (by rfl) (fun K hK => ?_); go_simp)
  (refine (HL.out _).mono ?_; rintro e w1 ⟨rfl, hb⟩; have hB : Below w.heap.size w w1 := (by refine bl_then ?_ hb; (repeat (first | exact hB | refine bl_al ?_ _ | refine Below.setCell ?_ (by first | exact hgs | exact Nat.le_succ_of_le hgs | exact hgs2 | exact hgs3) _ | refine Below.drew ?_ | refine bl_drewN ?_ _))); (first | with_reducible have hM2 := Mem.later hb (hM.out) | with_reducible have hM2 := Mem.later hb (Mem.al (hM.out) _ _) | with_reducible have hM2 := Mem.later hb (Mem.al (Mem.al (hM.out) _ _) _ _) | with_reducible have hM2 := Mem.later hb (Mem.al (Mem.al (Mem.al (hM.out) _ _) _ _) _ _) | with_reducible have hM2 := Mem.later hb (Mem.al (Mem.al (Mem.al (Mem.al (hM.out) _ _) _ _) _ _) _ _) | with_reducible have hM2 := Mem.later hb (Mem.drew (hM.out)) | with_reducible have hM2 := Mem.later hb (Mem.drew (Mem.al (hM.out) _ _)) | with_reducible have hM2 := Mem.later hb (Mem.al (Mem.drew (hM.out)) _ _) | with_reducible have hM2 := Mem.later hb (Mem.al (Mem.drew (Mem.al (hM.out) _ _)) _ _) | with_reducible have hM2 := Mem.later hb (Mem.drew (Mem.al (Mem.al (hM.out) _ _) _ _)) | with_reducible have hM2 := Mem.later hb (Mem.al (Mem.al (Mem.drew (hM.out)) _ _) _ _) | with_reducible have hM2 := Mem.later hb (Mem.drew (Mem.drew (hM.out))) | with_reducible have hM2 := Mem.later hb (Mem.drew (Mem.al (Mem.drew (hM.out)) _ _)) | with_reducible have hM2 := Mem.later hb (Mem.drew (Mem.al (Mem.al (Mem.al (hM.out) _ _) _ _) _ _)) | with_reducible have hM2 := Mem.later hb (Mem.al (Mem.al (Mem.drew (Mem.al (hM.out) _ _)) _ _) _ _) | with_reducible have hM2 := Mem.later hb (Mem.drew (Mem.al (Mem.drew (Mem.al (hM.out) _ _)) _ _)) | with_reducible have hM2 := Mem.later hb (Mem.al (Mem.al (Mem.al (Mem.al (Mem.al (hM.out) _ _) _ _) _ _) _ _) _ _) | with_reducible have hM2 := Mem.later hb (Mem.al (Mem.al (Mem.al (Mem.al (Mem.al (Mem.al (hM.out) _ _) _ _) _ _) _ _) _ _) _ _) | with_reducible have hM2 := Mem.later hb (Mem.al (Mem.al (Mem.al (Mem.al (Mem.al (Mem.al (Mem.al (hM.out) _ _) _ _) _ _) _ _) _ _) _ _) _ _) | with_reducible have hM2 := Mem.later hb (Mem.al (Mem.al (Mem.al (Mem.al (Mem.al (Mem.al (Mem.al (Mem.al (hM.out) _ _) _ _) _ _) _ _) _ _) _ _) _ _) _ _)); (try simp only [World.size_alloc, size_drew] at hM2); clear hM; have hM := Lib.hid hM2; clear hF; have hF := hM2; (try simp only [Mem, cellsAt, World.size_alloc, Nat.zero_add, Nat.reduceAdd, and_true] at hF); clear hM2; clear hb; (refine hK.out _ _ _ (fun _ h => h) (⟨hM.out.1, hM.out.2.2.1, trivial⟩) (fun hHeld => ?_); clear hK; clear K; (try simp only [Act.put, List.setIfInBounds_toArray, List.set_cons_zero, List.set_cons_succ])))
  iterate 2 (refine wpT_take rfl (by rfl) (by rfl) (by intro w' hSw; (try dsimp only [Mem, cellsAt] at hSw); go_simp; (try with_reducible rfl)) (by assumption) ?_; (try simp only [Act.put, List.setIfInBounds_toArray, List.set_cons_zero, List.set_cons_succ]))
  (refine wpT_step rfl (by rfl) (fun K hK => ?_); go_simp)
  have D : Hid (∀ p ∈ [(w.heap.size + 1 + 1, [Value.int .u64 l0, .int .u64 (l1 + g0), .int .u64 (l2 + g1), .int .u64 (l3 + g2)]), (w.heap.size, [.int .u64 a0, .int .u64 a1, .int .u64 a2, .int .u64 a3])], p.1 ≠ w.heap.size + 1) := by
    intro p hp; simp at hp; rcases hp with rfl | rfl <;> (simp)
  have HW1 := Lib.hid (Mem.far (k := 3) (v := .int .u64 (l3 + g2)) D.out (Mem.far (k := 2) (v := .int .u64 (l2 + g1)) D.out (Mem.far (k := 1) (v := .int .u64 (l1 + g0)) D.out (Mem.far (k := 0) (v := .int .u64 (l0)) D.out (show Mem w1 [(w.heap.size + 1 + 1, [.int .u64 l0, .int .u64 (l1 + g0), .int .u64 (l2 + g1), .int .u64 (l3 + g2)]), (w.heap.size, [.int .u64 a0, .int .u64 a1, .int .u64 a2, .int .u64 a3])] from ⟨hM.out.1, hM.out.2.2.1, trivial⟩)))))
  (refine hK.out _ _ _ (fun _ h => h) (HW1.out) (fun hHeld => ?_); clear hK; clear K; (try simp only [Act.put, List.setIfInBounds_toArray, List.set_cons_zero, List.set_cons_succ]))
  iterate 1 (refine wpT_take rfl (by rfl) (by rfl) (by intro w' hSw; (try dsimp only [Mem, cellsAt] at hSw); go_simp; (try with_reducible rfl)) (by assumption) ?_; (try simp only [Act.put, List.setIfInBounds_toArray, List.set_cons_zero, List.set_cons_succ]))
  (refine wpT_nil ?_)
  go_wp2
  have hR : Mem (wset4 w1 (w.heap.size + 1) (l0) (l1 + g0) (l2 + g1) (l3 + g2)) [(w.heap.size + 1, [.int .u64 l0, .int .u64 (l1 + g0), .int .u64 (l2 + g1), .int .u64 (l3 + g2)])] := Mem.set4 (l0) (l1 + g0) (l2 + g1) (l3 + g2) (by intro p hp; cases hp) ⟨hM.out.2.1, trivial⟩
  have hBl : Below w.heap.size w (wset4 w1 (w.heap.size + 1) (l0) (l1 + g0) (l2 + g1) (l3 + g2)) := bl_set4 _ _ _ _ (Nat.le_succ _) hB
  simp only [Mem, cellsAt, Nat.zero_add, Nat.reduceAdd, and_true] at hR
  change bodyPost _ _ _ _ _ (wset4 w1 (w.heap.size + 1) (l0) (l1 + g0) (l2 + g1) (l3 + g2))
  generalize wset4 w1 (w.heap.size + 1) (l0) (l1 + g0) (l2 + g1) (l3 + g2) = wf at *
  have HLo := HLk.out
  refine bodyPost_ret (v := .tuple #[U4 (l0) (l1 + g0) (l2 + g1) (l3 + g2), .bool (decide (256 < (L : Int) + (k : Int)))]) (by simp [results, Tryd.results38, go_sem, hR]) rfl ?_
  exact ⟨_, _, _, _, _, by rw [HLo], HX.out.1, HX.out.2, hBl⟩

set_option maxRecDepth 100000 in
set_option maxHeartbeats 2000000 in
theorem shl_1 {a0 a1 a2 a3 : Int} (ha : B4 a0 a1 a2 a3) (n : Int) (k r : Nat) (hr : r < 64) (hkr : k = 64 * 1 + r) (hn : n = k ∨ (n ≤ 0 ∧ k = 0)) (w : World) :
    Calls Tryd.prog 38 #[U4 a0 a1 a2 a3, .int .i64 n] w fun e w' => ∃ s0 s1 s2 s3 c : Int, e = .returned (.tuple #[U4 s0 s1 s2 s3, .bool (decide (256 < lenN a0 a1 a2 a3 + k))]) ∧ B4 s0 s1 s2 s3 ∧ N4 a0 a1 a2 a3 * 2 ^ k = N4 s0 s1 s2 s3 + WW * c ∧ Below w.heap.size w w' := by
  obtain ⟨ep, he⟩ : ∃ ep, r + ep = 64 := ⟨64 - r, by omega⟩
  obtain ⟨l0, g0, L0, G0, e0, bl0, bg0, o0⟩ := sh_up a0 r ep ha.h0 he
  obtain ⟨l1, g1, L1, G1, e1, bl1, bg1, o1⟩ := sh_up a1 r ep ha.h1 he
  obtain ⟨l2, g2, L2, G2, e2, bl2, bg2, o2⟩ := sh_up a2 r ep ha.h2 he
  obtain ⟨l3, g3, L3, G3, e3, bl3, bg3, o3⟩ := sh_up a3 r ep ha.h3 he
  have O1 := (o1 g0 bg0).1
  have O2 := (o2 g1 bg1).1
  have O3 := (o3 g2 bg2).1
  obtain ⟨L, hL, hL1, _, _⟩ := len_holds ha
  have HL := Lib.hid (fun w => hL ▸ len_n ha w)
  have hwL : IntKind.i64.wrap ((L : Int) + (k : Int)) = (L : Int) + (k : Int) := wrap_small _ (by omega) (by omega)
  have hm : max n 0 = (k : Int) := by omega
  have hx : (64 : Int) - (r : Int) = (ep : Int) := by omega
  have hk256 : (k : Int) < 256 := by omega
  have hq : (k : Int).tdiv 64 = 1 := by rw [Int.tdiv_eq_ediv_of_nonneg (by omega)]; omega
  have htm : (k : Int).tmod 64 = (r : Int) := by rw [Int.tmod_eq_emod_of_nonneg (by omega)]; omega
  have hw0 : IntKind.i64.wrap 0 = 0 := by decide
  have hw1 : IntKind.i64.wrap 1 = 1 := by decide
  have hw2 : IntKind.i64.wrap 2 = 2 := by decide
  have hw3 : IntKind.i64.wrap 3 = 3 := by decide
  have hwr : IntKind.i64.wrap (r : Int) = (r : Int) := wrap_small _ (by omega) (by omega)
  have hwe : IntKind.i64.wrap (ep : Int) = (ep : Int) := wrap_small _ (by omega) (by omega)
  have HX : Hid (B4 (0) (l0) (l1 + g0) (l2 + g1) ∧ N4 a0 a1 a2 a3 * 2 ^ k = N4 (0) (l0) (l1 + g0) (l2 + g1) + WW * (l3 + g2 + WI * g3)) := by
    have hp := two_pow_pos r
    refine ⟨⟨?_, ?_, ?_, ?_⟩, ?_⟩
    · unfold WI at *; omega
    · unfold WI at *; omega
    · unfold WI at *; omega
    · unfold WI at *; omega
    · rw [pow_split k 1 r hkr, show (2 : Int) ^ (64 * 1) = WI by decide]
      have h := (up0 a0 a1 a2 a3 (2 ^ r) l0 l1 l2 l3 g0 g1 g2 g3 e0 e1 e2 e3).2.1
      exact h
  clear o0 o1 o2 o3 ha e0 e1 e2 e3 bl0 bl1 bl2 bl3 bg0 bg1 bg2 bg3 hkr
  have HLk := Lib.hid hL
  clear hL
  go_enter Tryd.func38, Tryd.ntmps38
  go_wp2
  refine wp_loop_rounds 5 ?_
  rw [rounds_succ]
  go_wp2
  rw [rounds_succ]
  go_wp2
  refine wp_plan (fun x => x.cell? ⟨w.heap.size, 0, none⟩ = some (.int .u64 a0)) [2, 14] [0, 1, 3, 4, 5, 6, 7, 8, 9, 10, 11, 2, 12, 13, 14] (by kernel_rfl) (by kernel_rfl) (by go_simp) (fun hHeld => ?_)
  iterate 11 (refine wpT_take rfl (by rfl) (by rfl) (by intro w' hSw; (try dsimp only [Mem, cellsAt] at hSw); go_simp; (try with_reducible rfl)) (by assumption) ?_; (try simp only [Act.put, List.setIfInBounds_toArray, List.set_cons_zero, List.set_cons_succ]))
  (refine wpT_step rfl (by rfl) (fun K hK => ?_); go_simp)
  (refine hK.out _ _ _ (fun _ h => h) (hHeld) (fun hHeld => ?_); clear hK; clear K; (try simp only [Act.put, List.setIfInBounds_toArray, List.set_cons_zero, List.set_cons_succ]))
  iterate 2 (refine wpT_take rfl (by rfl) (by rfl) (by intro w' hSw; (try dsimp only [Mem, cellsAt] at hSw); go_simp; (try with_reducible rfl)) (by assumption) ?_; (try simp only [Act.put, List.setIfInBounds_toArray, List.set_cons_zero, List.set_cons_succ]))
  (refine wpT_step rfl (by rfl) (fun K hK => ?_); go_simp)
  (refine hK.out _ _ _ (fun _ h => h) (by go_simp) (fun hHeld => ?_); clear hK; clear K; (try simp only [Act.put, List.setIfInBounds_toArray, List.set_cons_zero, List.set_cons_succ]))
  (refine wpT_nil ?_)
  clear hHeld
  go_wp2
  rw [rounds_succ]
  go_wp2
  refine wp_plan (fun x => x.cell? ⟨w.heap.size, 1, none⟩ = some (.int .u64 a1)) [2, 14] [0, 1, 3, 4, 5, 6, 7, 8, 9, 10, 11, 2, 12, 13, 14] (by kernel_rfl) (by kernel_rfl) (by go_simp) (fun hHeld => ?_)
  iterate 11 (refine wpT_take rfl (by rfl) (by rfl) (by intro w' hSw; (try dsimp only [Mem, cellsAt] at hSw); go_simp; (try with_reducible rfl)) (by assumption) ?_; (try simp only [Act.put, List.setIfInBounds_toArray, List.set_cons_zero, List.set_cons_succ]))
  (refine wpT_step rfl (by rfl) (fun K hK => ?_); go_simp)
  (refine hK.out _ _ _ (fun _ h => h) (hHeld) (fun hHeld => ?_); clear hK; clear K; (try simp only [Act.put, List.setIfInBounds_toArray, List.set_cons_zero, List.set_cons_succ]))
  iterate 2 (refine wpT_take rfl (by rfl) (by rfl) (by intro w' hSw; (try dsimp only [Mem, cellsAt] at hSw); go_simp; (try with_reducible rfl)) (by assumption) ?_; (try simp only [Act.put, List.setIfInBounds_toArray, List.set_cons_zero, List.set_cons_succ]))
  (refine wpT_step rfl (by rfl) (fun K hK => ?_); go_simp)
  (refine hK.out _ _ _ (fun _ h => h) (by go_simp) (fun hHeld => ?_); clear hK; clear K; (try simp only [Act.put, List.setIfInBounds_toArray, List.set_cons_zero, List.set_cons_succ]))
  (refine wpT_nil ?_)
  clear hHeld
  go_wp2
  rw [rounds_succ]
  go_wp2
  have hB : Below w.heap.size w (((w.alloc (.cells #[.int .u64 a0, .int .u64 a1, .int .u64 a2, .int .u64 a3] 52)).alloc (.cells #[.int .u64 0, .int .u64 0, .int .u64 0, .int .u64 0] 52)).alloc (.cells #[.int .u64 0, .int .u64 l0, .int .u64 (l1 + g0), .int .u64 (l2 + g1)] 52)).drew.drew := by (repeat (first | exact Below.refl _ _ | refine Below.drew ?_ | refine bl_drewN ?_ _ | (refine Below.alloc ?_ (by first | exact Nat.le_refl _ | (simp; done) | (simp; omega)) _)))
  have hM3 : Mem (((w.alloc (.cells #[.int .u64 a0, .int .u64 a1, .int .u64 a2, .int .u64 a3] 52)).alloc (.cells #[.int .u64 0, .int .u64 0, .int .u64 0, .int .u64 0] 52)).alloc (.cells #[.int .u64 0, .int .u64 l0, .int .u64 (l1 + g0), .int .u64 (l2 + g1)] 52)) [(w.heap.size + 1 + 1, [.int .u64 0, .int .u64 l0, .int .u64 (l1 + g0), .int .u64 (l2 + g1)]), (w.heap.size + 1, [.int .u64 0, .int .u64 0, .int .u64 0, .int .u64 0]), (w.heap.size, [.int .u64 a0, .int .u64 a1, .int .u64 a2, .int .u64 a3])] := by
    have h := Mem.al (Mem.al (Mem.al (mem_nil w) [.int .u64 a0, .int .u64 a1, .int .u64 a2, .int .u64 a3] 52) [.int .u64 0, .int .u64 0, .int .u64 0, .int .u64 0] 52) [.int .u64 0, .int .u64 l0, .int .u64 (l1 + g0), .int .u64 (l2 + g1)] 52
    simp only [World.size_alloc] at h
    exact h
  have hM := Lib.hid (show Mem (((w.alloc (.cells #[.int .u64 a0, .int .u64 a1, .int .u64 a2, .int .u64 a3] 52)).alloc (.cells #[.int .u64 0, .int .u64 0, .int .u64 0, .int .u64 0] 52)).alloc (.cells #[.int .u64 0, .int .u64 l0, .int .u64 (l1 + g0), .int .u64 (l2 + g1)] 52)).drew.drew [(w.heap.size + 1 + 1, [.int .u64 0, .int .u64 l0, .int .u64 (l1 + g0), .int .u64 (l2 + g1)]), (w.heap.size + 1, [.int .u64 0, .int .u64 0, .int .u64 0, .int .u64 0]), (w.heap.size, [.int .u64 a0, .int .u64 a1, .int .u64 a2, .int .u64 a3])] from Mem.drew (Mem.drew (hM3)))
  clear hM3
  generalize (((w.alloc (.cells #[.int .u64 a0, .int .u64 a1, .int .u64 a2, .int .u64 a3] 52)).alloc (.cells #[.int .u64 0, .int .u64 0, .int .u64 0, .int .u64 0] 52)).alloc (.cells #[.int .u64 0, .int .u64 l0, .int .u64 (l1 + g0), .int .u64 (l2 + g1)] 52)).drew.drew = wl at *
  have hF : True := trivial
  refine wp_plan (fun x => Mem x [(w.heap.size + 1 + 1, [.int .u64 0, .int .u64 l0, .int .u64 (l1 + g0), .int .u64 (l2 + g1)]), (w.heap.size, [.int .u64 a0, .int .u64 a1, .int .u64 a2, .int .u64 a3])]) [2, 6] [0, 1, 3, 2, 4, 5, 6, 7] (by kernel_rfl) (by kernel_rfl) (Mem.drew ⟨hM.out.1, hM.out.2.2.1, trivial⟩) (fun hHeld => ?_)
  iterate 3 (refine wpT_take rfl (by rfl) (by rfl) (by intro w' hSw; (try dsimp only [Mem, cellsAt] at hSw); go_simp; (try with_reducible rfl)) (by assumption) ?_; (try simp only [Act.put, List.setIfInBounds_toArray, List.set_cons_zero, List.set_cons_succ]))
  (refine wpT_step rfl (by rfl) (fun K hK => ?_); go_simp)
  (refine (HL.out _).mono ?_; rintro e w1 ⟨rfl, hb⟩; have hB : Below w.heap.size w w1 := (by refine bl_then ?_ hb; (repeat (first | exact hB | refine bl_al ?_ _ | refine Below.setCell ?_ (by first | exact hgs | exact Nat.le_succ_of_le hgs | exact hgs2 | exact hgs3) _ | refine Below.drew ?_ | refine bl_drewN ?_ _))); (first | with_reducible have hM2 := Mem.later hb (hM.out) | with_reducible have hM2 := Mem.later hb (Mem.al (hM.out) _ _) | with_reducible have hM2 := Mem.later hb (Mem.al (Mem.al (hM.out) _ _) _ _) | with_reducible have hM2 := Mem.later hb (Mem.al (Mem.al (Mem.al (hM.out) _ _) _ _) _ _) | with_reducible have hM2 := Mem.later hb (Mem.al (Mem.al (Mem.al (Mem.al (hM.out) _ _) _ _) _ _) _ _) | with_reducible have hM2 := Mem.later hb (Mem.drew (hM.out)) | with_reducible have hM2 := Mem.later hb (Mem.drew (Mem.al (hM.out) _ _)) | with_reducible have hM2 := Mem.later hb (Mem.al (Mem.drew (hM.out)) _ _) | with_reducible have hM2 := Mem.later hb (Mem.al (Mem.drew (Mem.al (hM.out) _ _)) _ _) | with_reducible have hM2 := Mem.later hb (Mem.drew (Mem.al (Mem.al (hM.out) _ _) _ _)) | with_reducible have hM2 := Mem.later hb (Mem.al (Mem.al (Mem.drew (hM.out)) _ _) _ _) | with_reducible have hM2 := Mem.later hb (Mem.drew (Mem.drew (hM.out))) | with_reducible have hM2 := Mem.later hb (Mem.drew (Mem.al (Mem.drew (hM.out)) _ _)) | with_reducible have hM2 := Mem.later hb (Mem.drew (Mem.al (Mem.al (Mem.al (hM.out) _ _) _ _) _ _)) | with_reducible have hM2 := Mem.later hb (Mem.al (Mem.al (Mem.drew (Mem.al (hM.out) _ _)) _ _) _ _) | with_reducible have hM2 := Mem.later hb (Mem.drew (Mem.al (Mem.drew (Mem.al (hM.out) _ _)) _ _)) | with_reducible have hM2 := Mem.later hb (Mem.al (Mem.al (Mem.al (Mem.al (Mem.al (hM.out) _ _) _ _) _ _) _ _) _ _) | with_reducible have hM2 := Mem.later hb (Mem.al (Mem.al (Mem.al (Mem.al (Mem.al (Mem.al (hM.out) _ _) _ _) _ _) _ _) _ _) _ _) | with_reducible have hM2 := Mem.later hb (Mem.al (Mem.al (Mem.al (Mem.al (Mem.al (Mem.al (Mem.al (hM.out) _ _) _ _) _ _) _ _) _ _) _ _) _ _) | with_reducible have hM2 := Mem.later hb (Mem.al (Mem.al (Mem.al (Mem.al (Mem.al (Mem.al (Mem.al (Mem.al (hM.out) _ _) _ _) _ _) _ _) _ _) _ _) _ _) _ _)); (try simp only [World.size_alloc, size_drew] at hM2); clear hM; have hM := Lib.hid hM2; clear hF; have hF := hM2; (try simp only [Mem, cellsAt, World.size_alloc, Nat.zero_add, Nat.reduceAdd, and_true] at hF); clear hM2; clear hb; (refine hK.out _ _ _ (fun _ h => h) (⟨hM.out.1, hM.out.2.2.1, trivial⟩) (fun hHeld => ?_); clear hK; clear K; (try simp only [Act.put, List.setIfInBounds_toArray, List.set_cons_zero, List.set_cons_succ])))
  iterate 2 (refine wpT_take rfl (by rfl) (by rfl) (by intro w' hSw; (try dsimp only [Mem, cellsAt] at hSw); go_simp; (try with_reducible rfl)) (by assumption) ?_; (try simp only [Act.put, List.setIfInBounds_toArray, List.set_cons_zero, List.set_cons_succ]))
  (refine wpT_step rfl (by rfl) (fun K hK => ?_); go_simp)
  have D : Hid (∀ p ∈ [(w.heap.size + 1 + 1, [Value.int .u64 0, .int .u64 l0, .int .u64 (l1 + g0), .int .u64 (l2 + g1)]), (w.heap.size, [.int .u64 a0, .int .u64 a1, .int .u64 a2, .int .u64 a3])], p.1 ≠ w.heap.size + 1) := by
    intro p hp; simp at hp; rcases hp with rfl | rfl <;> (simp)
  have HW1 := Lib.hid (Mem.far (k := 3) (v := .int .u64 (l2 + g1)) D.out (Mem.far (k := 2) (v := .int .u64 (l1 + g0)) D.out (Mem.far (k := 1) (v := .int .u64 (l0)) D.out (Mem.far (k := 0) (v := .int .u64 (0)) D.out (show Mem w1 [(w.heap.size + 1 + 1, [.int .u64 0, .int .u64 l0, .int .u64 (l1 + g0), .int .u64 (l2 + g1)]), (w.heap.size, [.int .u64 a0, .int .u64 a1, .int .u64 a2, .int .u64 a3])] from ⟨hM.out.1, hM.out.2.2.1, trivial⟩)))))
  (refine hK.out _ _ _ (fun _ h => h) (HW1.out) (fun hHeld => ?_); clear hK; clear K; (try simp only [Act.put, List.setIfInBounds_toArray, List.set_cons_zero, List.set_cons_succ]))
  iterate 1 (refine wpT_take rfl (by rfl) (by rfl) (by intro w' hSw; (try dsimp only [Mem, cellsAt] at hSw); go_simp; (try with_reducible rfl)) (by assumption) ?_; (try simp only [Act.put, List.setIfInBounds_toArray, List.set_cons_zero, List.set_cons_succ]))
  (refine wpT_nil ?_)
  go_wp2
  have hR : Mem (wset4 w1 (w.heap.size + 1) (0) (l0) (l1 + g0) (l2 + g1)) [(w.heap.size + 1, [.int .u64 0, .int .u64 l0, .int .u64 (l1 + g0), .int .u64 (l2 + g1)])] := Mem.set4 (0) (l0) (l1 + g0) (l2 + g1) (by intro p hp; cases hp) ⟨hM.out.2.1, trivial⟩
  have hBl : Below w.heap.size w (wset4 w1 (w.heap.size + 1) (0) (l0) (l1 + g0) (l2 + g1)) := bl_set4 _ _ _ _ (Nat.le_succ _) hB
  simp only [Mem, cellsAt, Nat.zero_add, Nat.reduceAdd, and_true] at hR
  change bodyPost _ _ _ _ _ (wset4 w1 (w.heap.size + 1) (0) (l0) (l1 + g0) (l2 + g1))
  generalize wset4 w1 (w.heap.size + 1) (0) (l0) (l1 + g0) (l2 + g1) = wf at *
  have HLo := HLk.out
  refine bodyPost_ret (v := .tuple #[U4 (0) (l0) (l1 + g0) (l2 + g1), .bool (decide (256 < (L : Int) + (k : Int)))]) (by simp [results, Tryd.results38, go_sem, hR]) rfl ?_
  exact ⟨_, _, _, _, _, by rw [HLo], HX.out.1, HX.out.2, hBl⟩

set_option maxRecDepth 100000 in
set_option maxHeartbeats 2000000 in
theorem shl_2 {a0 a1 a2 a3 : Int} (ha : B4 a0 a1 a2 a3) (n : Int) (k r : Nat) (hr : r < 64) (hkr : k = 64 * 2 + r) (hn : n = k ∨ (n ≤ 0 ∧ k = 0)) (w : World) :
    Calls Tryd.prog 38 #[U4 a0 a1 a2 a3, .int .i64 n] w fun e w' => ∃ s0 s1 s2 s3 c : Int, e = .returned (.tuple #[U4 s0 s1 s2 s3, .bool (decide (256 < lenN a0 a1 a2 a3 + k))]) ∧ B4 s0 s1 s2 s3 ∧ N4 a0 a1 a2 a3 * 2 ^ k = N4 s0 s1 s2 s3 + WW * c ∧ Below w.heap.size w w' := by
  obtain ⟨ep, he⟩ : ∃ ep, r + ep = 64 := ⟨64 - r, by omega⟩
  obtain ⟨l0, g0, L0, G0, e0, bl0, bg0, o0⟩ := sh_up a0 r ep ha.h0 he
  obtain ⟨l1, g1, L1, G1, e1, bl1, bg1, o1⟩ := sh_up a1 r ep ha.h1 he
  obtain ⟨l2, g2, L2, G2, e2, bl2, bg2, o2⟩ := sh_up a2 r ep ha.h2 he
  obtain ⟨l3, g3, L3, G3, e3, bl3, bg3, o3⟩ := sh_up a3 r ep ha.h3 he
  have O1 := (o1 g0 bg0).1
  have O2 := (o2 g1 bg1).1
  have O3 := (o3 g2 bg2).1
  obtain ⟨L, hL, hL1, _, _⟩ := len_holds ha
  have HL := Lib.hid (fun w => hL ▸ len_n ha w)
  have hwL : IntKind.i64.wrap ((L : Int) + (k : Int)) = (L : Int) + (k : Int) := wrap_small _ (by omega) (by omega)
  have hm : max n 0 = (k : Int) := by omega
  have hx : (64 : Int) - (r : Int) = (ep : Int) := by omega
  have hk256 : (k : Int) < 256 := by omega
  have hq : (k : Int).tdiv 64 = 2 := by rw [Int.tdiv_eq_ediv_of_nonneg (by omega)]; omega
  have htm : (k : Int).tmod 64 = (r : Int) := by rw [Int.tmod_eq_emod_of_nonneg (by omega)]; omega
  have hw0 : IntKind.i64.wrap 0 = 0 := by decide
  have hw1 : IntKind.i64.wrap 1 = 1 := by decide
  have hw2 : IntKind.i64.wrap 2 = 2 := by decide
  have hw3 : IntKind.i64.wrap 3 = 3 := by decide
  have hwr : IntKind.i64.wrap (r : Int) = (r : Int) := wrap_small _ (by omega) (by omega)
  have hwe : IntKind.i64.wrap (ep : Int) = (ep : Int) := wrap_small _ (by omega) (by omega)
  have HX : Hid (B4 (0) (0) (l0) (l1 + g0) ∧ N4 a0 a1 a2 a3 * 2 ^ k = N4 (0) (0) (l0) (l1 + g0) + WW * (l2 + g1 + WI * (l3 + g2 + WI * g3))) := by
    have hp := two_pow_pos r
    refine ⟨⟨?_, ?_, ?_, ?_⟩, ?_⟩
    · unfold WI at *; omega
    · unfold WI at *; omega
    · unfold WI at *; omega
    · unfold WI at *; omega
    · rw [pow_split k 2 r hkr, show (2 : Int) ^ (64 * 2) = WI * WI by decide]
      have h := (up0 a0 a1 a2 a3 (2 ^ r) l0 l1 l2 l3 g0 g1 g2 g3 e0 e1 e2 e3).2.2.1
      exact h
  clear o0 o1 o2 o3 ha e0 e1 e2 e3 bl0 bl1 bl2 bl3 bg0 bg1 bg2 bg3 hkr
  have HLk := Lib.hid hL
  clear hL
  go_enter Tryd.func38, Tryd.ntmps38
  go_wp2
  refine wp_loop_rounds 5 ?_
  rw [rounds_succ]
  go_wp2
  rw [rounds_succ]
  go_wp2
  refine wp_plan (fun x => x.cell? ⟨w.heap.size, 0, none⟩ = some (.int .u64 a0)) [2, 14] [0, 1, 3, 4, 5, 6, 7, 8, 9, 10, 11, 2, 12, 13, 14] (by kernel_rfl) (by kernel_rfl) (by go_simp) (fun hHeld => ?_)
  iterate 11 (refine wpT_take rfl (by rfl) (by rfl) (by intro w' hSw; (try dsimp only [Mem, cellsAt] at hSw); go_simp; (try with_reducible rfl)) (by assumption) ?_; (try simp only [Act.put, List.setIfInBounds_toArray, List.set_cons_zero, List.set_cons_succ]))
  (refine wpT_step rfl (by rfl) (fun K hK => ?_); go_simp)
  (refine hK.out _ _ _ (fun _ h => h) (hHeld) (fun hHeld => ?_); clear hK; clear K; (try simp only [Act.put, List.setIfInBounds_toArray, List.set_cons_zero, List.set_cons_succ]))
  iterate 2 (refine wpT_take rfl (by rfl) (by rfl) (by intro w' hSw; (try dsimp only [Mem, cellsAt] at hSw); go_simp; (try with_reducible rfl)) (by assumption) ?_; (try simp only [Act.put, List.setIfInBounds_toArray, List.set_cons_zero, List.set_cons_succ]))
  (refine wpT_step rfl (by rfl) (fun K hK => ?_); go_simp)
  (refine hK.out _ _ _ (fun _ h => h) (by go_simp) (fun hHeld => ?_); clear hK; clear K; (try simp only [Act.put, List.setIfInBounds_toArray, List.set_cons_zero, List.set_cons_succ]))
  (refine wpT_nil ?_)
  clear hHeld
  go_wp2
  rw [rounds_succ]
  go_wp2
  have hB : Below w.heap.size w (((w.alloc (.cells #[.int .u64 a0, .int .u64 a1, .int .u64 a2, .int .u64 a3] 52)).alloc (.cells #[.int .u64 0, .int .u64 0, .int .u64 0, .int .u64 0] 52)).alloc (.cells #[.int .u64 0, .int .u64 0, .int .u64 l0, .int .u64 (l1 + g0)] 52)).drew := by (repeat (first | exact Below.refl _ _ | refine Below.drew ?_ | refine bl_drewN ?_ _ | (refine Below.alloc ?_ (by first | exact Nat.le_refl _ | (simp; done) | (simp; omega)) _)))
  have hM3 : Mem (((w.alloc (.cells #[.int .u64 a0, .int .u64 a1, .int .u64 a2, .int .u64 a3] 52)).alloc (.cells #[.int .u64 0, .int .u64 0, .int .u64 0, .int .u64 0] 52)).alloc (.cells #[.int .u64 0, .int .u64 0, .int .u64 l0, .int .u64 (l1 + g0)] 52)) [(w.heap.size + 1 + 1, [.int .u64 0, .int .u64 0, .int .u64 l0, .int .u64 (l1 + g0)]), (w.heap.size + 1, [.int .u64 0, .int .u64 0, .int .u64 0, .int .u64 0]), (w.heap.size, [.int .u64 a0, .int .u64 a1, .int .u64 a2, .int .u64 a3])] := by
    have h := Mem.al (Mem.al (Mem.al (mem_nil w) [.int .u64 a0, .int .u64 a1, .int .u64 a2, .int .u64 a3] 52) [.int .u64 0, .int .u64 0, .int .u64 0, .int .u64 0] 52) [.int .u64 0, .int .u64 0, .int .u64 l0, .int .u64 (l1 + g0)] 52
    simp only [World.size_alloc] at h
    exact h
  have hM := Lib.hid (show Mem (((w.alloc (.cells #[.int .u64 a0, .int .u64 a1, .int .u64 a2, .int .u64 a3] 52)).alloc (.cells #[.int .u64 0, .int .u64 0, .int .u64 0, .int .u64 0] 52)).alloc (.cells #[.int .u64 0, .int .u64 0, .int .u64 l0, .int .u64 (l1 + g0)] 52)).drew [(w.heap.size + 1 + 1, [.int .u64 0, .int .u64 0, .int .u64 l0, .int .u64 (l1 + g0)]), (w.heap.size + 1, [.int .u64 0, .int .u64 0, .int .u64 0, .int .u64 0]), (w.heap.size, [.int .u64 a0, .int .u64 a1, .int .u64 a2, .int .u64 a3])] from Mem.drew (hM3))
  clear hM3
  generalize (((w.alloc (.cells #[.int .u64 a0, .int .u64 a1, .int .u64 a2, .int .u64 a3] 52)).alloc (.cells #[.int .u64 0, .int .u64 0, .int .u64 0, .int .u64 0] 52)).alloc (.cells #[.int .u64 0, .int .u64 0, .int .u64 l0, .int .u64 (l1 + g0)] 52)).drew = wl at *
  have hF : True := trivial
  refine wp_plan (fun x => Mem x [(w.heap.size + 1 + 1, [.int .u64 0, .int .u64 0, .int .u64 l0, .int .u64 (l1 + g0)]), (w.heap.size, [.int .u64 a0, .int .u64 a1, .int .u64 a2, .int .u64 a3])]) [2, 6] [0, 1, 3, 2, 4, 5, 6, 7] (by kernel_rfl) (by kernel_rfl) (Mem.drew ⟨hM.out.1, hM.out.2.2.1, trivial⟩) (fun hHeld => ?_)
  iterate 3 (refine wpT_take rfl (by rfl) (by rfl) (by intro w' hSw; (try dsimp only [Mem, cellsAt] at hSw); go_simp; (try with_reducible rfl)) (by assumption) ?_; (try simp only [Act.put, List.setIfInBounds_toArray, List.set_cons_zero, List.set_cons_succ]))
  (refine wpT_step rfl (by rfl) (fun K hK => ?_); go_simp)
  (refine (HL.out _).mono ?_; rintro e w1 ⟨rfl, hb⟩; have hB : Below w.heap.size w w1 := (by refine bl_then ?_ hb; (repeat (first | exact hB | refine bl_al ?_ _ | refine Below.setCell ?_ (by first | exact hgs | exact Nat.le_succ_of_le hgs | exact hgs2 | exact hgs3) _ | refine Below.drew ?_ | refine bl_drewN ?_ _))); (first | with_reducible have hM2 := Mem.later hb (hM.out) | with_reducible have hM2 := Mem.later hb (Mem.al (hM.out) _ _) | with_reducible have hM2 := Mem.later hb (Mem.al (Mem.al (hM.out) _ _) _ _) | with_reducible have hM2 := Mem.later hb (Mem.al (Mem.al (Mem.al (hM.out) _ _) _ _) _ _) | with_reducible have hM2 := Mem.later hb (Mem.al (Mem.al (Mem.al (Mem.al (hM.out) _ _) _ _) _ _) _ _) | with_reducible have hM2 := Mem.later hb (Mem.drew (hM.out)) | with_reducible have hM2 := Mem.later hb (Mem.drew (Mem.al (hM.out) _ _)) | with_reducible have hM2 := Mem.later hb (Mem.al (Mem.drew (hM.out)) _ _) | with_reducible have hM2 := Mem.later hb (Mem.al (Mem.drew (Mem.al (hM.out) _ _)) _ _) | with_reducible have hM2 := Mem.later hb (Mem.drew (Mem.al (Mem.al (hM.out) _ _) _ _)) | with_reducible have hM2 := Mem.later hb (Mem.al (Mem.al (Mem.drew (hM.out)) _ _) _ _) | with_reducible have hM2 := Mem.later hb (Mem.drew (Mem.drew (hM.out))) | with_reducible have hM2 := Mem.later hb (Mem.drew (Mem.al (Mem.drew (hM.out)) _ _)) | with_reducible have hM2 := Mem.later hb (Mem.drew (Mem.al (Mem.al (Mem.al (hM.out) _ _) _ _) _ _)) | with_reducible have hM2 := Mem.later hb (Mem.al (Mem.al (Mem.drew (Mem.al (hM.out) _ _)) _ _) _ _) | with_reducible have hM2 := Mem.later hb (Mem.drew (Mem.al (Mem.drew (Mem.al (hM.out) _ _)) _ _)) | with_reducible have hM2 := Mem.later hb (Mem.al (Mem.al (Mem.al (Mem.al (Mem.al (hM.out) _ _) _ _) _ _) _ _) _ _) | with_reducible have hM2 := Mem.later hb (Mem.al (Mem.al (Mem.al (Mem.al (Mem.al (Mem.al (hM.out) _ _) _ _) _ _) _ _) _ _) _ _) | with_reducible have hM2 := Mem.later hb (Mem.al (Mem.al (Mem.al (Mem.al (Mem.al (Mem.al (Mem.al (hM.out) _ _) _ _) _ _) _ _) _ _) _ _) _ _) | with_reducible have hM2 := Mem.later hb (Mem.al (Mem.al (Mem.al (Mem.al (Mem.al (Mem.al (Mem.al (Mem.al (hM.out) _ _) _ _) _ _) _ _) _ _) _ _) _ _) _ _)); (try simp only [World.size_alloc, size_drew] at hM2); clear hM; have hM := Lib.hid hM2; clear hF; have hF := hM2; (try simp only [Mem, cellsAt, World.size_alloc, Nat.zero_add, Nat.reduceAdd, and_true] at hF); clear hM2; clear hb; (refine hK.out _ _ _ (fun _ h => h) (⟨hM.out.1, hM.out.2.2.1, trivial⟩) (fun hHeld => ?_); clear hK; clear K; (try simp only [Act.put, List.setIfInBounds_toArray, List.set_cons_zero, List.set_cons_succ])))
  iterate 2 (refine wpT_take rfl (by rfl) (by rfl) (by intro w' hSw; (try dsimp only [Mem, cellsAt] at hSw); go_simp; (try with_reducible rfl)) (by assumption) ?_; (try simp only [Act.put, List.setIfInBounds_toArray, List.set_cons_zero, List.set_cons_succ]))
  (refine wpT_step rfl (by rfl) (fun K hK => ?_); go_simp)
  have D : Hid (∀ p ∈ [(w.heap.size + 1 + 1, [Value.int .u64 0, .int .u64 0, .int .u64 l0, .int .u64 (l1 + g0)]), (w.heap.size, [.int .u64 a0, .int .u64 a1, .int .u64 a2, .int .u64 a3])], p.1 ≠ w.heap.size + 1) := by
    intro p hp; simp at hp; rcases hp with rfl | rfl <;> (simp)
  have HW1 := Lib.hid (Mem.far (k := 3) (v := .int .u64 (l1 + g0)) D.out (Mem.far (k := 2) (v := .int .u64 (l0)) D.out (Mem.far (k := 1) (v := .int .u64 (0)) D.out (Mem.far (k := 0) (v := .int .u64 (0)) D.out (show Mem w1 [(w.heap.size + 1 + 1, [.int .u64 0, .int .u64 0, .int .u64 l0, .int .u64 (l1 + g0)]), (w.heap.size, [.int .u64 a0, .int .u64 a1, .int .u64 a2, .int .u64 a3])] from ⟨hM.out.1, hM.out.2.2.1, trivial⟩)))))
  (refine hK.out _ _ _ (fun _ h => h) (HW1.out) (fun hHeld => ?_); clear hK; clear K; (try simp only [Act.put, List.setIfInBounds_toArray, List.set_cons_zero, List.set_cons_succ]))
  iterate 1 (refine wpT_take rfl (by rfl) (by rfl) (by intro w' hSw; (try dsimp only [Mem, cellsAt] at hSw); go_simp; (try with_reducible rfl)) (by assumption) ?_; (try simp only [Act.put, List.setIfInBounds_toArray, List.set_cons_zero, List.set_cons_succ]))
  (refine wpT_nil ?_)
  go_wp2
  have hR : Mem (wset4 w1 (w.heap.size + 1) (0) (0) (l0) (l1 + g0)) [(w.heap.size + 1, [.int .u64 0, .int .u64 0, .int .u64 l0, .int .u64 (l1 + g0)])] := Mem.set4 (0) (0) (l0) (l1 + g0) (by intro p hp; cases hp) ⟨hM.out.2.1, trivial⟩
  have hBl : Below w.heap.size w (wset4 w1 (w.heap.size + 1) (0) (0) (l0) (l1 + g0)) := bl_set4 _ _ _ _ (Nat.le_succ _) hB
  simp only [Mem, cellsAt, Nat.zero_add, Nat.reduceAdd, and_true] at hR
  change bodyPost _ _ _ _ _ (wset4 w1 (w.heap.size + 1) (0) (0) (l0) (l1 + g0))
  generalize wset4 w1 (w.heap.size + 1) (0) (0) (l0) (l1 + g0) = wf at *
  have HLo := HLk.out
  refine bodyPost_ret (v := .tuple #[U4 (0) (0) (l0) (l1 + g0), .bool (decide (256 < (L : Int) + (k : Int)))]) (by simp [results, Tryd.results38, go_sem, hR]) rfl ?_
  exact ⟨_, _, _, _, _, by rw [HLo], HX.out.1, HX.out.2, hBl⟩

set_option maxRecDepth 100000 in
set_option maxHeartbeats 2000000 in
theorem shl_3 {a0 a1 a2 a3 : Int} (ha : B4 a0 a1 a2 a3) (n : Int) (k r : Nat) (hr : r < 64) (hkr : k = 64 * 3 + r) (hn : n = k ∨ (n ≤ 0 ∧ k = 0)) (w : World) :
    Calls Tryd.prog 38 #[U4 a0 a1 a2 a3, .int .i64 n] w fun e w' => ∃ s0 s1 s2 s3 c : Int, e = .returned (.tuple #[U4 s0 s1 s2 s3, .bool (decide (256 < lenN a0 a1 a2 a3 + k))]) ∧ B4 s0 s1 s2 s3 ∧ N4 a0 a1 a2 a3 * 2 ^ k = N4 s0 s1 s2 s3 + WW * c ∧ Below w.heap.size w w' := by
  obtain ⟨ep, he⟩ : ∃ ep, r + ep = 64 := ⟨64 - r, by omega⟩
  obtain ⟨l0, g0, L0, G0, e0, bl0, bg0, o0⟩ := sh_up a0 r ep ha.h0 he
  obtain ⟨l1, g1, L1, G1, e1, bl1, bg1, o1⟩ := sh_up a1 r ep ha.h1 he
  obtain ⟨l2, g2, L2, G2, e2, bl2, bg2, o2⟩ := sh_up a2 r ep ha.h2 he
  obtain ⟨l3, g3, L3, G3, e3, bl3, bg3, o3⟩ := sh_up a3 r ep ha.h3 he
  have O1 := (o1 g0 bg0).1
  have O2 := (o2 g1 bg1).1
  have O3 := (o3 g2 bg2).1
  obtain ⟨L, hL, hL1, _, _⟩ := len_holds ha
  have HL := Lib.hid (fun w => hL ▸ len_n ha w)
  have hwL : IntKind.i64.wrap ((L : Int) + (k : Int)) = (L : Int) + (k : Int) := wrap_small _ (by omega) (by omega)
  have hm : max n 0 = (k : Int) := by omega
  have hx : (64 : Int) - (r : Int) = (ep : Int) := by omega
  have hk256 : (k : Int) < 256 := by omega
  have hq : (k : Int).tdiv 64 = 3 := by rw [Int.tdiv_eq_ediv_of_nonneg (by omega)]; omega
  have htm : (k : Int).tmod 64 = (r : Int) := by rw [Int.tmod_eq_emod_of_nonneg (by omega)]; omega
  have hw0 : IntKind.i64.wrap 0 = 0 := by decide
  have hw1 : IntKind.i64.wrap 1 = 1 := by decide
  have hw2 : IntKind.i64.wrap 2 = 2 := by decide
  have hw3 : IntKind.i64.wrap 3 = 3 := by decide
  have hwr : IntKind.i64.wrap (r : Int) = (r : Int) := wrap_small _ (by omega) (by omega)
  have hwe : IntKind.i64.wrap (ep : Int) = (ep : Int) := wrap_small _ (by omega) (by omega)
  have HX : Hid (B4 (0) (0) (0) (l0) ∧ N4 a0 a1 a2 a3 * 2 ^ k = N4 (0) (0) (0) (l0) + WW * (l1 + g0 + WI * (l2 + g1 + WI * (l3 + g2 + WI * g3)))) := by
    have hp := two_pow_pos r
    refine ⟨⟨?_, ?_, ?_, ?_⟩, ?_⟩
    · unfold WI at *; omega
    · unfold WI at *; omega
    · unfold WI at *; omega
    · unfold WI at *; omega
    · rw [pow_split k 3 r hkr, show (2 : Int) ^ (64 * 3) = WI * WI * WI by decide]
      have h := (up0 a0 a1 a2 a3 (2 ^ r) l0 l1 l2 l3 g0 g1 g2 g3 e0 e1 e2 e3).2.2.2
      exact h
  clear o0 o1 o2 o3 ha e0 e1 e2 e3 bl0 bl1 bl2 bl3 bg0 bg1 bg2 bg3 hkr
  have HLk := Lib.hid hL
  clear hL
  go_enter Tryd.func38, Tryd.ntmps38
  go_wp2
  refine wp_loop_rounds 5 ?_
  rw [rounds_succ]
  go_wp2
  rw [rounds_succ]
  go_wp2
  have hB : Below w.heap.size w (((w.alloc (.cells #[.int .u64 a0, .int .u64 a1, .int .u64 a2, .int .u64 a3] 52)).alloc (.cells #[.int .u64 0, .int .u64 0, .int .u64 0, .int .u64 0] 52)).alloc (.cells #[.int .u64 0, .int .u64 0, .int .u64 0, .int .u64 l0] 52)) := by (repeat (first | exact Below.refl _ _ | refine Below.drew ?_ | refine bl_drewN ?_ _ | (refine Below.alloc ?_ (by first | exact Nat.le_refl _ | (simp; done) | (simp; omega)) _)))
  have hM3 : Mem (((w.alloc (.cells #[.int .u64 a0, .int .u64 a1, .int .u64 a2, .int .u64 a3] 52)).alloc (.cells #[.int .u64 0, .int .u64 0, .int .u64 0, .int .u64 0] 52)).alloc (.cells #[.int .u64 0, .int .u64 0, .int .u64 0, .int .u64 l0] 52)) [(w.heap.size + 1 + 1, [.int .u64 0, .int .u64 0, .int .u64 0, .int .u64 l0]), (w.heap.size + 1, [.int .u64 0, .int .u64 0, .int .u64 0, .int .u64 0]), (w.heap.size, [.int .u64 a0, .int .u64 a1, .int .u64 a2, .int .u64 a3])] := by
    have h := Mem.al (Mem.al (Mem.al (mem_nil w) [.int .u64 a0, .int .u64 a1, .int .u64 a2, .int .u64 a3] 52) [.int .u64 0, .int .u64 0, .int .u64 0, .int .u64 0] 52) [.int .u64 0, .int .u64 0, .int .u64 0, .int .u64 l0] 52
    simp only [World.size_alloc] at h
    exact h
  have hM := Lib.hid (show Mem (((w.alloc (.cells #[.int .u64 a0, .int .u64 a1, .int .u64 a2, .int .u64 a3] 52)).alloc (.cells #[.int .u64 0, .int .u64 0, .int .u64 0, .int .u64 0] 52)).alloc (.cells #[.int .u64 0, .int .u64 0, .int .u64 0, .int .u64 l0] 52)) [(w.heap.size + 1 + 1, [.int .u64 0, .int .u64 0, .int .u64 0, .int .u64 l0]), (w.heap.size + 1, [.int .u64 0, .int .u64 0, .int .u64 0, .int .u64 0]), (w.heap.size, [.int .u64 a0, .int .u64 a1, .int .u64 a2, .int .u64 a3])] from hM3)
  clear hM3
  generalize (((w.alloc (.cells #[.int .u64 a0, .int .u64 a1, .int .u64 a2, .int .u64 a3] 52)).alloc (.cells #[.int .u64 0, .int .u64 0, .int .u64 0, .int .u64 0] 52)).alloc (.cells #[.int .u64 0, .int .u64 0, .int .u64 0, .int .u64 l0] 52)) = wl at *
  have hF : True := trivial
  refine wp_plan (fun x => Mem x [(w.heap.size + 1 + 1, [.int .u64 0, .int .u64 0, .int .u64 0, .int .u64 l0]), (w.heap.size, [.int .u64 a0, .int .u64 a1, .int .u64 a2, .int .u64 a3])]) [2, 6] [0, 1, 3, 2, 4, 5, 6, 7] (by kernel_rfl) (by kernel_rfl) (Mem.drew ⟨hM.out.1, hM.out.2.2.1, trivial⟩) (fun hHeld => ?_)
  iterate 3 (refine wpT_take rfl (by rfl) (by rfl) (by intro w' hSw; (try dsimp only [Mem, cellsAt] at hSw); go_simp; (try with_reducible rfl)) (by assumption) ?_; (try simp only [Act.put, List.setIfInBounds_toArray, List.set_cons_zero, List.set_cons_succ]))
  (refine wpT_step rfl (by rfl) (fun K hK => ?_); go_simp)
  (refine (HL.out _).mono ?_; rintro e w1 ⟨rfl, hb⟩; have hB : Below w.heap.size w w1 := (by refine bl_then ?_ hb; (repeat (first | exact hB | refine bl_al ?_ _ | refine Below.setCell ?_ (by first | exact hgs | exact Nat.le_succ_of_le hgs | exact hgs2 | exact hgs3) _ | refine Below.drew ?_ | refine bl_drewN ?_ _))); (first | with_reducible have hM2 := Mem.later hb (hM.out) | with_reducible have hM2 := Mem.later hb (Mem.al (hM.out) _ _) | with_reducible have hM2 := Mem.later hb (Mem.al (Mem.al (hM.out) _ _) _ _) | with_reducible have hM2 := Mem.later hb (Mem.al (Mem.al (Mem.al (hM.out) _ _) _ _) _ _) | with_reducible have hM2 := Mem.later hb (Mem.al (Mem.al (Mem.al (Mem.al (hM.out) _ _) _ _) _ _) _ _) | with_reducible have hM2 := Mem.later hb (Mem.drew (hM.out)) | with_reducible have hM2 := Mem.later hb (Mem.drew (Mem.al (hM.out) _ _)) | with_reducible have hM2 := Mem.later hb (Mem.al (Mem.drew (hM.out)) _ _) | with_reducible have hM2 := Mem.later hb (Mem.al (Mem.drew (Mem.al (hM.out) _ _)) _ _) | with_reducible have hM2 := Mem.later hb (Mem.drew (Mem.al (Mem.al (hM.out) _ _) _ _)) | with_reducible have hM2 := Mem.later hb (Mem.al (Mem.al (Mem.drew (hM.out)) _ _) _ _) | with_reducible have hM2 := Mem.later hb (Mem.drew (Mem.drew (hM.out))) | with_reducible have hM2 := Mem.later hb (Mem.drew (Mem.al (Mem.drew (hM.out)) _ _)) | with_reducible have hM2 := Mem.later hb (Mem.drew (Mem.al (Mem.al (Mem.al (hM.out) _ _) _ _) _ _)) | with_reducible have hM2 := Mem.later hb (Mem.al (Mem.al (Mem.drew (Mem.al (hM.out) _ _)) _ _) _ _) | with_reducible have hM2 := Mem.later hb (Mem.drew (Mem.al (Mem.drew (Mem.al (hM.out) _ _)) _ _)) | with_reducible have hM2 := Mem.later hb (Mem.al (Mem.al (Mem.al (Mem.al (Mem.al (hM.out) _ _) _ _) _ _) _ _) _ _) | with_reducible have hM2 := Mem.later hb (Mem.al (Mem.al (Mem.al (Mem.al (Mem.al (Mem.al (hM.out) _ _) _ _) _ _) _ _) _ _) _ _) | with_reducible have hM2 := Mem.later hb (Mem.al (Mem.al (Mem.al (Mem.al (Mem.al (Mem.al (Mem.al (hM.out) _ _) _ _) _ _) _ _) _ _) _ _) _ _) | with_reducible have hM2 := Mem.later hb (Mem.al (Mem.al (Mem.al (Mem.al (Mem.al (Mem.al (Mem.al (Mem.al (hM.out) _ _) _ _) _ _) _ _) _ _) _ _) _ _) _ _)); (try simp only [World.size_alloc, size_drew] at hM2); clear hM; have hM := Lib.hid hM2; clear hF; have hF := hM2; (try simp only [Mem, cellsAt, World.size_alloc, Nat.zero_add, Nat.reduceAdd, and_true] at hF); clear hM2; clear hb; (refine hK.out _ _ _ (fun _ h => h) (⟨hM.out.1, hM.out.2.2.1, trivial⟩) (fun hHeld => ?_); clear hK; clear K; (try simp only [Act.put, List.setIfInBounds_toArray, List.set_cons_zero, List.set_cons_succ])))
  iterate 2 (refine wpT_take rfl (by rfl) (by rfl) (by intro w' hSw; (try dsimp only [Mem, cellsAt] at hSw); go_simp; (try with_reducible rfl)) (by assumption) ?_; (try simp only [Act.put, List.setIfInBounds_toArray, List.set_cons_zero, List.set_cons_succ]))
  (refine wpT_step rfl (by rfl) (fun K hK => ?_); go_simp)
  have D : Hid (∀ p ∈ [(w.heap.size + 1 + 1, [Value.int .u64 0, .int .u64 0, .int .u64 0, .int .u64 l0]), (w.heap.size, [.int .u64 a0, .int .u64 a1, .int .u64 a2, .int .u64 a3])], p.1 ≠ w.heap.size + 1) := by
    intro p hp; simp at hp; rcases hp with rfl | rfl <;> (simp)
  have HW1 := Lib.hid (Mem.far (k := 3) (v := .int .u64 (l0)) D.out (Mem.far (k := 2) (v := .int .u64 (0)) D.out (Mem.far (k := 1) (v := .int .u64 (0)) D.out (Mem.far (k := 0) (v := .int .u64 (0)) D.out (show Mem w1 [(w.heap.size + 1 + 1, [.int .u64 0, .int .u64 0, .int .u64 0, .int .u64 l0]), (w.heap.size, [.int .u64 a0, .int .u64 a1, .int .u64 a2, .int .u64 a3])] from ⟨hM.out.1, hM.out.2.2.1, trivial⟩)))))
  (refine hK.out _ _ _ (fun _ h => h) (HW1.out) (fun hHeld => ?_); clear hK; clear K; (try simp only [Act.put, List.setIfInBounds_toArray, List.set_cons_zero, List.set_cons_succ]))
  iterate 1 (refine wpT_take rfl (by rfl) (by rfl) (by intro w' hSw; (try dsimp only [Mem, cellsAt] at hSw); go_simp; (try with_reducible rfl)) (by assumption) ?_; (try simp only [Act.put, List.setIfInBounds_toArray, List.set_cons_zero, List.set_cons_succ]))
  (refine wpT_nil ?_)
  go_wp2
  have hR : Mem (wset4 w1 (w.heap.size + 1) (0) (0) (0) (l0)) [(w.heap.size + 1, [.int .u64 0, .int .u64 0, .int .u64 0, .int .u64 l0])] := Mem.set4 (0) (0) (0) (l0) (by intro p hp; cases hp) ⟨hM.out.2.1, trivial⟩
  have hBl : Below w.heap.size w (wset4 w1 (w.heap.size + 1) (0) (0) (0) (l0)) := bl_set4 _ _ _ _ (Nat.le_succ _) hB
  simp only [Mem, cellsAt, Nat.zero_add, Nat.reduceAdd, and_true] at hR
  change bodyPost _ _ _ _ _ (wset4 w1 (w.heap.size + 1) (0) (0) (0) (l0))
  generalize wset4 w1 (w.heap.size + 1) (0) (0) (0) (l0) = wf at *
  have HLo := HLk.out
  refine bodyPost_ret (v := .tuple #[U4 (0) (0) (0) (l0), .bool (decide (256 < (L : Int) + (k : Int)))]) (by simp [results, Tryd.results38, go_sem, hR]) rfl ?_
  exact ⟨_, _, _, _, _, by rw [HLo], HX.out.1, HX.out.2, hBl⟩
end Go.Proofs.YtlfabchlblgmbaaDoor
