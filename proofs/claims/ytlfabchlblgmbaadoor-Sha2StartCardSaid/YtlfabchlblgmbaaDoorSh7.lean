/- SHA-256: Write of a state that may be, End. (hM) -/
import Derived.Test.YtlfabchlblgmbaaDoorSh6
import Derived.Deep.CutRange
namespace Go.Proofs.YtlfabchlblgmbaaDoor
set_option linter.unusedVariables false
set_option linter.unusedSimpArgs false
open Go.RowKit

theorem write_yes (s : S8) (a1 a2 : Option Addr) (n1 c1 n2 c2 : Nat) (N : Int) (f1 f2 : Nat → Int) (w : World) (hT : Tab w) (hs : (n1 : Int) = N % 64)
    (hr1 : Row w a1 n1 c1 1 (bcells f1 n1)) (hr2 : Row w a2 n2 c2 1 (bcells f2 n2)) (hf1 : ∀ i, 0 ≤ f1 i ∧ f1 i < 256) (hf2 : ∀ i, 0 ≤ f2 i ∧ f2 i < 256) (hn : n2 ≤ 70368744177664) (hN : 0 ≤ N ∧ N < WI) :
    Calls Tryd.prog 20 #[stV s (.slice a1 n1 c1) N, .slice a2 n2 c2] w fun e w' => ∃ ao cap, e = .returned (stV (blks s (catF f1 n1 f2) ((n1 + n2) / 64)) (.slice ao ((n1 + n2) % 64) cap) (IntKind.u64.wrap (N + (n2 : Int)))) ∧
      OwnN w.heap.size 5 1 w' ao ((n1 + n2) % 64) cap (bcells (fun i => catF f1 n1 f2 (64 * ((n1 + n2) / 64) + i)) ((n1 + n2) % 64)) ∧ Below w.heap.size w w' :=
  write_of s a1 n1 c1 N s a1 a2 n1 c1 n2 c2 N f1 f2 w hT (fun x _ => sane_yes s a1 n1 c1 N hN.1 hs x) hr1 hr2 hf1 hf2 (by omega) hN

theorem padF_b (n : Int) (k i : Nat) : 0 ≤ padF n k i ∧ padF n k i < 256 := by
  unfold padF
  split
  · omega
  · split
    · rw [IntKind.wrap_u8]; omega
    · omega
theorem padN_le (n : Nat) : 9 ≤ padN n ∧ padN n ≤ 72 := by unfold padN; omega
theorem padN_whole (n : Nat) : (n % 64 + padN n) % 64 = 0 := by unfold padN; omega
/-- what is laid of the sum -/
def outP (t : S8) (j i : Nat) : Int := if i < 4 * j then outF t i else 0
def EndRel (w : World) (gs : Nat) (t : S8) (i : Value) (wr : World) : Prop :=
  ∃ j : Nat, j ≤ 8 ∧ i = .int .i64 j ∧ Below w.heap.size w wr ∧ Mem wr [(gs, bcells (outP t j) 32), (w.heap.size + 1, bcells (fun _ => 0) 32)]

def EndMid (w : World) (t : S8) (wx : World) : Prop :=
  ∃ (ao : Option Addr) (cap : Nat) (N : Int), Below w.heap.size w wx ∧ Mem wx [(w.heap.size, stL t (.slice ao 0 cap) N), (w.heap.size + 1, bcells (fun _ => 0) 32)]

set_option maxRecDepth 100000 in
set_option maxHeartbeats 4000000 in
theorem end_of (v0 : S8) (vao : Option Addr) (vn vc : Nat) (vN : Int) (s : S8) (a1 : Option Addr) (n1 c1 : Nat) (N : Nat) (f1 : Nat → Int) (w : World) (hT : Tab w)
    (hS : ∀ x, Below w.heap.size w x → Calls Tryd.prog 61 #[stV v0 (.slice vao vn vc) vN] x fun e w' => e = .returned (stV s (.slice a1 n1 c1) N) ∧ Below x.heap.size x w')
    (hr1 : Row w a1 n1 c1 1 (bcells f1 n1)) (hf1 : ∀ i, 0 ≤ f1 i ∧ f1 i < 256) (hn : n1 = N % 64) (hN : N < 18446744073709551616) :
    Calls Tryd.prog 23 #[stV v0 (.slice vao vn vc) vN] w fun e w' => e = .returned (.agg (bcells (outF (blks s (catF f1 n1 (padF N (padN N))) ((n1 + padN N) / 64))) 32).toArray) ∧ Below w.heap.size w w' := by
  have hpl := padN_le N
  have hpw := padN_whole N
  rw [← hn] at hpw
  have hWr := fun (x : World) (hb : Below w.heap.size w x) (a2 : Option Addr) (c2 : Nat) (h2 : Row x a2 (padN N) c2 1 (bcells (padF N (padN N)) (padN N))) =>
    write_yes s a1 a2 n1 c1 (padN N) c2 N f1 (padF N (padN N)) x (hT.later hb) (by omega) (hr1.later hb) h2 hf1 (padF_b _ _) (by omega) ⟨by omega, by unfold WI; omega⟩
  have HPad := Lib.hid (fun w => pad_any N hN w)
  obtain ⟨t, ht⟩ : ∃ t, blks s (catF f1 n1 (padF N (padN N))) ((n1 + padN N) / 64) = t := ⟨_, rfl⟩
  rw [hpw] at hWr
  rw [ht] at hWr ⊢
  obtain ⟨P, hP⟩ : ∃ P, padN N = P := ⟨_, rfl⟩
  rw [hP] at hWr HPad
  have HWr := Lib.hid hWr
  have HS := Lib.hid hS
  clear hWr hS hT hr1 hf1 hn hpw hpl ht hP
  obtain ⟨a0, b0, c0, d0, e0, f0, g0, h0⟩ := s
  obtain ⟨p0, p1, p2, p3, p4, p5, p6, p7⟩ := v0
  have hB := Below.refl w.heap.size w
  have hM := Lib.hid (mem_nil w)
  have hF : True := trivial
  go_enter Tryd.func23, Tryd.ntmps23
  go_wp2_with (first | (go_at_call 61; ((with_reducible refine (HS.out _ (by (repeat (first | exact hB | refine bl_al ?_ _ | refine Below.setCell ?_ (by first | exact hgs | exact Nat.le_succ_of_le hgs | exact hgs2 | exact hgs3) _ | refine Below.drew ?_ | refine bl_drewN ?_ _)))).mono ?_); rintro e w1 ⟨rfl, hb⟩; have hB : Below w.heap.size w w1 := (by refine bl_then ?_ hb; (repeat (first | exact hB | refine bl_al ?_ _ | refine Below.setCell ?_ (by first | exact hgs | exact Nat.le_succ_of_le hgs | exact hgs2 | exact hgs3) _ | refine Below.drew ?_ | refine bl_drewN ?_ _))); (first | with_reducible have hM2 := Mem.later hb (hM.out) | with_reducible have hM2 := Mem.later hb (Mem.al (hM.out) _ _) | with_reducible have hM2 := Mem.later hb (Mem.al (Mem.al (hM.out) _ _) _ _) | with_reducible have hM2 := Mem.later hb (Mem.al (Mem.al (Mem.al (hM.out) _ _) _ _) _ _) | with_reducible have hM2 := Mem.later hb (Mem.al (Mem.al (Mem.al (Mem.al (hM.out) _ _) _ _) _ _) _ _) | with_reducible have hM2 := Mem.later hb (Mem.drew (hM.out)) | with_reducible have hM2 := Mem.later hb (Mem.drew (Mem.al (hM.out) _ _)) | with_reducible have hM2 := Mem.later hb (Mem.al (Mem.drew (hM.out)) _ _) | with_reducible have hM2 := Mem.later hb (Mem.al (Mem.drew (Mem.al (hM.out) _ _)) _ _) | with_reducible have hM2 := Mem.later hb (Mem.drew (Mem.al (Mem.al (hM.out) _ _) _ _)) | with_reducible have hM2 := Mem.later hb (Mem.al (Mem.al (Mem.drew (hM.out)) _ _) _ _) | with_reducible have hM2 := Mem.later hb (Mem.drew (Mem.drew (hM.out))) | with_reducible have hM2 := Mem.later hb (Mem.drew (Mem.al (Mem.drew (hM.out)) _ _)) | with_reducible have hM2 := Mem.later hb (Mem.drew (Mem.al (Mem.al (Mem.al (hM.out) _ _) _ _) _ _)) | with_reducible have hM2 := Mem.later hb (Mem.al (Mem.al (Mem.drew (Mem.al (hM.out) _ _)) _ _) _ _) | with_reducible have hM2 := Mem.later hb (Mem.drew (Mem.al (Mem.drew (Mem.al (hM.out) _ _)) _ _)) | with_reducible have hM2 := Mem.later hb (Mem.al (Mem.al (Mem.al (Mem.al (Mem.al (hM.out) _ _) _ _) _ _) _ _) _ _) | with_reducible have hM2 := Mem.later hb (Mem.al (Mem.al (Mem.al (Mem.al (Mem.al (Mem.al (hM.out) _ _) _ _) _ _) _ _) _ _) _ _) | with_reducible have hM2 := Mem.later hb (Mem.al (Mem.al (Mem.al (Mem.al (Mem.al (Mem.al (Mem.al (hM.out) _ _) _ _) _ _) _ _) _ _) _ _) _ _) | with_reducible have hM2 := Mem.later hb (Mem.al (Mem.al (Mem.al (Mem.al (Mem.al (Mem.al (Mem.al (Mem.al (hM.out) _ _) _ _) _ _) _ _) _ _) _ _) _ _) _ _)); (try simp only [World.size_alloc, size_drew] at hM2); clear hM; have hM := Lib.hid hM2; clear hF; have hF := hM2; (try simp only [Mem, cellsAt, World.size_alloc, Nat.zero_add, Nat.reduceAdd, and_true] at hF); clear hM2; clear hb)))
  have D1 : Hid (∀ p ∈ [(w.heap.size + 1, bcells (fun _ => 0) 32)], p.1 ≠ w.heap.size) := by
    intro p hp; simp at hp; subst hp; simp
  have hMW : Mem (w1.setCells w.heap.size 0 (stL ⟨a0, b0, c0, d0, e0, f0, g0, h0⟩ (.slice a1 n1 c1) N)) [(w.heap.size, stL ⟨a0, b0, c0, d0, e0, f0, g0, h0⟩ (.slice a1 n1 c1) N), (w.heap.size + 1, bcells (fun _ => 0) 32)] := Mem.over D1.out (vs := [.int .u32 p0, .int .u32 p1, .int .u32 p2, .int .u32 p3, .int .u32 p4, .int .u32 p5, .int .u32 p6, .int .u32 p7, .slice vao vn vc, .int .u64 vN]) ⟨hM.out.2.1, hM.out.1, trivial⟩ rfl
  have hBW : Below w.heap.size w (w1.setCells w.heap.size 0 (stL ⟨a0, b0, c0, d0, e0, f0, g0, h0⟩ (.slice a1 n1 c1) N)) := bl_setCellsW (Nat.le_refl _) _ _ _ hB
  clear hB hM hF
  change Code.wp _ _ _ _ (w1.setCells w.heap.size 0 (stL ⟨a0, b0, c0, d0, e0, f0, g0, h0⟩ (.slice a1 n1 c1) N))
  generalize w1.setCells w.heap.size 0 (stL ⟨a0, b0, c0, d0, e0, f0, g0, h0⟩ (.slice a1 n1 c1) N) = W at *
  have HMW := Lib.hid hMW
  have HBW := Lib.hid hBW
  have hF := hMW.1
  simp only [cellsAt, stL, Nat.zero_add, Nat.reduceAdd, and_true] at hF
  clear hMW hBW
  go_cut [] from 9 to 13 (fun wx => EndMid w t wx)
  case first =>
    refine wp_fork (fun _ => True) [0, 2, 3, 4, 5] (nodes [1] (.fork 0 2 (nodes [2, 3, 4, 5] .leaf) (.fork 0 3 (nodes [3, 4, 5] .leaf) (nodes [0, 4, 5] .leaf)))) (by kernel_rfl) (by kernel_rfl) trivial (fun hHeld => ?_)
    iterate 1 (refine wpF_take rfl (by rfl) (by rfl) (by intro w' hSw; (try dsimp only [Mem, cellsAt] at hSw); go_simp; (try with_reducible rfl)) (by assumption) ?_; (try simp only [Act.put, List.setIfInBounds_toArray, List.set_cons_zero, List.set_cons_succ]))
    (refine wpF_fork rfl rfl (fun K hK => ?_) (fun K hK => ?_) <;> go_simp)
    · (refine hK.out _ _ _ (fun _ h => h) (trivial) (fun hHeld => ?_); clear hK; clear K; (try simp only [Act.put, List.setIfInBounds_toArray, List.set_cons_zero, List.set_cons_succ]))
      (refine wpF_step rfl (by rfl) (fun K hK => ?_); go_simp)
      (refine hK.out _ _ _ (fun _ h => h) (trivial) (fun hHeld => ?_); clear hK; clear K; (try simp only [Act.put, List.setIfInBounds_toArray, List.set_cons_zero, List.set_cons_succ]))
      (refine wpF_step rfl (by rfl) (fun K hK => ?_); go_simp)
      refine (HPad.out _).mono ?_
      rintro e w2 ⟨rfl, ho2, hb2⟩
      have HM2 := Lib.hid (Mem.later hb2 (Mem.drew HMW.out))
      have HB2 := Lib.hid (bl_then HBW.out.drew hb2)
      have HO2 := Lib.hid ho2.row
      have hF2 := HM2.out.1
      simp only [cellsAt, stL, Nat.zero_add, Nat.reduceAdd, and_true] at hF2
      clear ho2 hb2
      (refine hK.out _ _ _ (fun _ h => h) (trivial) (fun hHeld => ?_); clear hK; clear K; (try simp only [Act.put, List.setIfInBounds_toArray, List.set_cons_zero, List.set_cons_succ]))
      (refine wpF_step rfl (by rfl) (fun K hK => ?_); go_simp)
      refine (HWr.out _ HB2.out _ _ HO2.out).mono ?_
      rintro e w3 ⟨ao, cap, rfl, _, hb3⟩
      have HM3 := Lib.hid (Mem.later hb3 HM2.out)
      have HB3 := Lib.hid (bl_then HB2.out hb3)
      have hF3 := HM3.out.1
      simp only [cellsAt, stL, Nat.zero_add, Nat.reduceAdd, and_true] at hF3
      clear hb3 hF2
      (refine hK.out _ _ _ (fun _ h => h) (trivial) (fun hHeld => ?_); clear hK; clear K; (try simp only [Act.put, List.setIfInBounds_toArray, List.set_cons_zero, List.set_cons_succ]))
      (refine wpF_step rfl (by rfl) (fun K hK => ?_); go_simp)
      (refine hK.out _ _ _ (fun _ h => h) (trivial) (fun hHeld => ?_); clear hK; clear K; (try simp only [Act.put, List.setIfInBounds_toArray, List.set_cons_zero, List.set_cons_succ]))
      (refine wpF_nil ?_)
      go_wp2
      go_meet
      exact ⟨ao, cap, _, bl_setCellsW (b := w.heap.size) (Nat.le_refl _) (stL t (.slice ao 0 cap) _) 0 w3 HB3.out, Mem.over (us := stL t (.slice ao 0 cap) _) D1.out HM3.out rfl⟩
    · (refine hK.out _ _ _ (fun _ h => h) (trivial) (fun hHeld => ?_); clear hK; clear K; (try simp only [Act.put, List.setIfInBounds_toArray, List.set_cons_zero, List.set_cons_succ]))
      (refine wpF_fork rfl rfl (fun K hK => ?_) (fun K hK => ?_) <;> go_simp)
      · (refine hK.out _ _ _ (fun _ h => h) (trivial) (fun hHeld => ?_); clear hK; clear K; (try simp only [Act.put, List.setIfInBounds_toArray, List.set_cons_zero, List.set_cons_succ]))
        (refine wpF_step rfl (by rfl) (fun K hK => ?_); go_simp)
        refine (HPad.out _).mono ?_
        rintro e w2 ⟨rfl, ho2, hb2⟩
        have HM2 := Lib.hid (Mem.later hb2 (Mem.drew HMW.out))
        have HB2 := Lib.hid (bl_then HBW.out.drew hb2)
        have HO2 := Lib.hid ho2.row
        have hF2 := HM2.out.1
        simp only [cellsAt, stL, Nat.zero_add, Nat.reduceAdd, and_true] at hF2
        clear ho2 hb2
        (refine hK.out _ _ _ (fun _ h => h) (trivial) (fun hHeld => ?_); clear hK; clear K; (try simp only [Act.put, List.setIfInBounds_toArray, List.set_cons_zero, List.set_cons_succ]))
        (refine wpF_step rfl (by rfl) (fun K hK => ?_); go_simp)
        refine (HWr.out _ HB2.out _ _ HO2.out).mono ?_
        rintro e w3 ⟨ao, cap, rfl, _, hb3⟩
        have HM3 := Lib.hid (Mem.later hb3 HM2.out)
        have HB3 := Lib.hid (bl_then HB2.out hb3)
        have hF3 := HM3.out.1
        simp only [cellsAt, stL, Nat.zero_add, Nat.reduceAdd, and_true] at hF3
        clear hb3 hF2
        (refine hK.out _ _ _ (fun _ h => h) (trivial) (fun hHeld => ?_); clear hK; clear K; (try simp only [Act.put, List.setIfInBounds_toArray, List.set_cons_zero, List.set_cons_succ]))
        (refine wpF_step rfl (by rfl) (fun K hK => ?_); go_simp)
        (refine hK.out _ _ _ (fun _ h => h) (trivial) (fun hHeld => ?_); clear hK; clear K; (try simp only [Act.put, List.setIfInBounds_toArray, List.set_cons_zero, List.set_cons_succ]))
        (refine wpF_nil ?_)
        go_wp2
        go_meet
        exact ⟨ao, cap, _, bl_setCellsW (b := w.heap.size) (Nat.le_refl _) (stL t (.slice ao 0 cap) _) 0 w3 HB3.out, Mem.over (us := stL t (.slice ao 0 cap) _) D1.out HM3.out rfl⟩
      · refine (HPad.out _).mono ?_
        rintro e w2 ⟨rfl, ho2, hb2⟩
        have HM2 := Lib.hid (Mem.later hb2 (Mem.drew HMW.out))
        have HB2 := Lib.hid (bl_then HBW.out.drew hb2)
        have HO2 := Lib.hid ho2.row
        have hF2 := HM2.out.1
        simp only [cellsAt, stL, Nat.zero_add, Nat.reduceAdd, and_true] at hF2
        clear ho2 hb2
        (refine hK.out _ _ _ (fun _ h => h) (trivial) (fun hHeld => ?_); clear hK; clear K; (try simp only [Act.put, List.setIfInBounds_toArray, List.set_cons_zero, List.set_cons_succ]))
        (refine wpF_step rfl (by rfl) (fun K hK => ?_); go_simp)
        (refine hK.out _ _ _ (fun _ h => h) (trivial) (fun hHeld => ?_); clear hK; clear K; (try simp only [Act.put, List.setIfInBounds_toArray, List.set_cons_zero, List.set_cons_succ]))
        (refine wpF_step rfl (by rfl) (fun K hK => ?_); go_simp)
        refine (HWr.out _ HB2.out _ _ HO2.out).mono ?_
        rintro e w3 ⟨ao, cap, rfl, _, hb3⟩
        have HM3 := Lib.hid (Mem.later hb3 HM2.out)
        have HB3 := Lib.hid (bl_then HB2.out hb3)
        have hF3 := HM3.out.1
        simp only [cellsAt, stL, Nat.zero_add, Nat.reduceAdd, and_true] at hF3
        clear hb3 hF2
        (refine hK.out _ _ _ (fun _ h => h) (trivial) (fun hHeld => ?_); clear hK; clear K; (try simp only [Act.put, List.setIfInBounds_toArray, List.set_cons_zero, List.set_cons_succ]))
        (refine wpF_step rfl (by rfl) (fun K hK => ?_); go_simp)
        (refine hK.out _ _ _ (fun _ h => h) (trivial) (fun hHeld => ?_); clear hK; clear K; (try simp only [Act.put, List.setIfInBounds_toArray, List.set_cons_zero, List.set_cons_succ]))
        (refine wpF_nil ?_)
        go_wp2
        go_meet
        exact ⟨ao, cap, _, bl_setCellsW (b := w.heap.size) (Nat.le_refl _) (stL t (.slice ao 0 cap) _) 0 w3 HB3.out, Mem.over (us := stL t (.slice ao 0 cap) _) D1.out HM3.out rfl⟩
  case rest =>
    obtain ⟨ao, cap, N', hB, hm⟩ := hcut
    have HM := Lib.hid hm
    have hF := hm.1
    obtain ⟨ta, tb, tc, td, te, tf, tg, th⟩ := t
    simp only [cellsAt, stL, Nat.zero_add, Nat.reduceAdd, and_true] at hF
    have hlt0 := hm.1.1
    clear hm HMW HBW HS HWr HPad
    go_wp2
    obtain ⟨gs, hgs⟩ : ∃ g, wc.heap.size = g := ⟨_, rfl⟩
    have hM2 := Mem.al HM.out (bcells (fun _ => 0) 32) 30
    rw [hgs] at hM2 hF
    simp only [hgs]
    have HM2 := Lib.hid hM2
    have hlt1 : w.heap.size + 1 < gs := by rw [← hgs]; exact HM.out.2.1.1
    have HB2 := Lib.hid (bl_al hB (.cells (bcells (fun _ => 0) 32).toArray 30))
    have HGS := Lib.hid hgs
    clear hM2 hB hgs hF
    go_loopw [16] (fun i wr => EndRel w gs ⟨ta, tb, tc, td, te, tf, tg, th⟩ i wr) (fun i _ => 8 - (intOf i).toNat)
    case atStart =>
      refine ⟨0, Nat.zero_le _, rfl, HB2.out, ?_⟩
      rw [bcells_congr (g := fun _ => 0) (fun i _ => by unfold outP; rw [if_neg (by omega)])]
      exact ⟨HM2.out.1, HM2.out.2.2.1, trivial⟩
    case round =>
      obtain ⟨j, hj, rfl, hB, hm⟩ := hrel
      by_cases hlt : j < 8
      · have hidx : ∀ w : World, (Instr.index 24 (.agg #[.int .u32 ta, .int .u32 tb, .int .u32 tc, .int .u32 td, .int .u32 te, .int .u32 tf, .int .u32 tg, .int .u32 th]) (.int .i64 (j : Int))).run Tryd.prog w = .ok (.int .u32 ((⟨ta, tb, tc, td, te, tf, tg, th⟩ : S8).at j)) w := by
          have hcase : j = 0 ∨ j = 1 ∨ j = 2 ∨ j = 3 ∨ j = 4 ∨ j = 5 ∨ j = 6 ∨ j = 7 := by omega
          rcases hcase with rfl | rfl | rfl | rfl | rfl | rfl | rfl | rfl <;> (intro w; kernel_rfl)
        obtain ⟨x, hx⟩ : ∃ x, (⟨ta, tb, tc, td, te, tf, tg, th⟩ : S8).at j = x := ⟨_, rfl⟩
        rw [hx] at hidx
        obtain ⟨q, hq⟩ : ∃ q, 4 * j = q := ⟨_, rfl⟩
        obtain ⟨q1, hq1⟩ : ∃ p, q + 1 = p := ⟨_, rfl⟩
        obtain ⟨q2, hq2⟩ : ∃ p, q + 2 = p := ⟨_, rfl⟩
        obtain ⟨q3, hq3⟩ : ∃ p, q + 3 = p := ⟨_, rfl⟩
        have t0 : IntKind.i64.wrap (4 * (j : Int)) = (q : Int) := by rw [IntKind.wrap_i64]; omega
        have t1 : IntKind.i64.wrap ((q : Int) + 1) = (q1 : Int) := by rw [IntKind.wrap_i64]; omega
        have t2 : IntKind.i64.wrap ((q : Int) + 2) = (q2 : Int) := by rw [IntKind.wrap_i64]; omega
        have t3 : IntKind.i64.wrap ((q : Int) + 3) = (q3 : Int) := by rw [IntKind.wrap_i64]; omega
        have l0 : (q : Int) < 32 := by omega
        have l1 : (q1 : Int) < 32 := by omega
        have l2 : (q2 : Int) < 32 := by omega
        have l3 : (q3 : Int) < 32 := by omega
        have hc : ∀ k, k < 32 → wr.cell? ⟨gs, k, none⟩ = some (.int .u8 (outP ⟨ta, tb, tc, td, te, tf, tg, th⟩ j k)) := fun k hk => cellsAt_get hm.1.2.2 (bcells_get _ 32 k hk)
        have d0 := hc q (by omega)
        have d1 := hc q1 (by omega)
        have d2 := hc q2 (by omega)
        have d3 := hc q3 (by omega)
        have hz := hm.1.2.1
        have HMr := Lib.hid hm
        have HQ := Lib.hid (And.intro hx (And.intro hq (And.intro hq1 (And.intro hq2 hq3))))
        have n01 : q ≠ q1 := by omega
        have n02 : q ≠ q2 := by omega
        have n03 : q ≠ q3 := by omega
        have n12 : q1 ≠ q2 := by omega
        have n13 : q1 ≠ q3 := by omega
        have n23 : q2 ≠ q3 := by omega
        clear hm hc hx hq hq1 hq2 hq3
        go_wp2
        refine wp_loop_rounds 5 ?_
        rw [rounds_succ]
        go_wp2
        rw [rounds_succ]
        go_wp2
        rw [rounds_succ]
        go_wp2
        rw [rounds_succ]
        go_wp2
        rw [rounds_succ]
        go_wp2
        obtain ⟨hx, hq, hq1, hq2, hq3⟩ := HQ.out
        have o0 : outF ⟨ta, tb, tc, td, te, tf, tg, th⟩ q = x / 16777216 % 256 := by
          unfold outF
          rw [show q / 4 = j by omega, show q % 4 = 0 by omega, hx]
          exact IntKind.wrap_u8 _
        have o1 : outF ⟨ta, tb, tc, td, te, tf, tg, th⟩ q1 = x / 65536 % 256 := by
          unfold outF
          rw [show q1 / 4 = j by omega, show q1 % 4 = 1 by omega, hx]
          exact IntKind.wrap_u8 _
        have o2 : outF ⟨ta, tb, tc, td, te, tf, tg, th⟩ q2 = x / 256 % 256 := by
          unfold outF
          rw [show q2 / 4 = j by omega, show q2 % 4 = 2 by omega, hx]
          exact IntKind.wrap_u8 _
        have o3 : outF ⟨ta, tb, tc, td, te, tf, tg, th⟩ q3 = x % 256 := by
          unfold outF
          rw [show q3 / 4 = j by omega, show q3 % 4 = 3 by omega, hx]
          rw [show (2 : Int) ^ (24 - 8 * 3) = 1 by decide, Int.ediv_one]
          exact IntKind.wrap_u8 _
        have D4 : ∀ p ∈ [(w.heap.size + 1, bcells (fun _ => 0) 32)], p.1 ≠ gs := by
          intro p hp; simp at hp; subst hp; dsimp only; omega
        have hR := Mem.setN (k := q3) (v := .int .u8 (x % 256)) D4 (Mem.setN (k := q2) (v := .int .u8 (x / 256 % 256)) D4 (Mem.setN (k := q1) (v := .int .u8 (x / 65536 % 256)) D4 (Mem.setN (k := q) (v := .int .u8 (x / 16777216 % 256)) D4 HMr.out)))
        rw [bcells_set, bcells_set, bcells_set, bcells_set] at hR
        have e : bcells (setF (setF (setF (setF (outP ⟨ta, tb, tc, td, te, tf, tg, th⟩ j) q (x / 16777216 % 256)) q1 (x / 65536 % 256)) q2 (x / 256 % 256)) q3 (x % 256)) 32 = bcells (outP ⟨ta, tb, tc, td, te, tf, tg, th⟩ (j + 1)) 32 := by
          refine bcells_congr fun i _ => ?_
          unfold setF
          by_cases h3 : i = q3
          · rw [if_pos h3, h3, ← o3]; unfold outP; rw [if_pos (by omega)]
          rw [if_neg h3]
          by_cases h2 : i = q2
          · rw [if_pos h2, h2, ← o2]; unfold outP; rw [if_pos (by omega)]
          rw [if_neg h2]
          by_cases h1 : i = q1
          · rw [if_pos h1, h1, ← o1]; unfold outP; rw [if_pos (by omega)]
          rw [if_neg h1]
          by_cases h0 : i = q
          · rw [if_pos h0, h0, ← o0]; unfold outP; rw [if_pos (by omega)]
          rw [if_neg h0]
          unfold outP
          by_cases hi : i < 4 * j
          · rw [if_pos hi, if_pos (by omega)]
          · rw [if_neg hi, if_neg (by omega)]
        rw [e] at hR
        have hgw : w.heap.size ≤ gs := by omega
        exact ⟨⟨j + 1, by omega, by go_num, (((hB.setCell hgw _).setCell hgw _).setCell hgw _).setCell hgw _, hR⟩, by simp [intOf]; omega⟩
      · have hje : j = 8 := by omega
        subst hje
        have h8 : ((8 : Nat) : Int) = 8 := rfl
        rw [h8]
        rw [bcells_congr (g := outF ⟨ta, tb, tc, td, te, tf, tg, th⟩) (fun i hi => by unfold outP; rw [if_pos (by omega)])] at hm
        have HMr := Lib.hid hm
        have HTh := Lib.hid (thereW (n := 32) hm.2.1 (by rw [bcells_len]; exact Nat.le_refl _))
        clear hm
        go_wp2_with (first | (refine Go.wpList_load_mid rfl 30 (.tmp 3) rfl gs 0 rfl (bcells (outF ⟨ta, tb, tc, td, te, tf, tg, th⟩) 32) _ (rangeAt_of HMr.out.1.2.2) Tryd.underlying30 rfl (by rw [bcells_len]; kernel_rfl) ?_) | (refine Go.wpList_store_mid rfl 30 (.tmp 2) (.tmp 36) rfl (w.heap.size + 1) 0 (bcells (outF ⟨ta, tb, tc, td, te, tf, tg, th⟩) 32).toArray rfl rfl (by simpa [bcells_len] using HTh.out) (by simp only [List.size_toArray, bcells_len]; kernel_rfl) (Go.all_oneCell_toArray (bcells_one _ 32)) ?_))
        have hl := Go.run_loadVar_mid (P := Tryd.prog) (wr.setCells (w.heap.size + 1) 0 (bcells (outF ⟨ta, tb, tc, td, te, tf, tg, th⟩) 32)) (w.heap.size + 1) 0 30 (bcells (outF ⟨ta, tb, tc, td, te, tf, tg, th⟩) 32) _ (World.rangeAt_setCells_same wr (w.heap.size + 1) 0 _ (by rw [bcells_len]; exact HTh.out)) Tryd.underlying30 rfl (by rw [bcells_len]; kernel_rfl)
        refine bodyPost_ret (v := .agg (bcells (outF ⟨ta, tb, tc, td, te, tf, tg, th⟩) 32).toArray) (by simp [results, Tryd.results23, asAddr, hl, Act.put]) rfl ⟨rfl, bl_setCellsW (Nat.le_succ _) _ _ _ hB⟩
end Go.Proofs.YtlfabchlblgmbaaDoor
