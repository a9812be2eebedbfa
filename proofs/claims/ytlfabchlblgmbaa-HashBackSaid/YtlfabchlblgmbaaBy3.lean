/- slices.Reverse of 32 bytes in a box. (hM) -/
import Derived.Test.YtlfabchlblgmbaaBy2
namespace Go.Proofs.Ytlfabchlblgmbaa
set_option linter.unusedVariables false
set_option linter.unusedSimpArgs false
open Go.RowKit

/-- turned as far as i from both ends -/
def revF (f : Nat → Int) (i : Nat) : Nat → Int := fun k => if k < i ∨ 31 - i < k then f (31 - k) else f k
theorem revF_step (f : Nat → Int) (i : Nat) (hi : i < 16) : b8l (setF (setF (revF f i) i (revF f i (31 - i))) (31 - i) (revF f i i)) 32 = b8l (revF f (i + 1)) 32 := by
  refine b8l_congr fun k hk => ?_
  unfold setF revF
  by_cases h1 : k = 31 - i
  · rw [if_pos h1, if_neg (by omega), if_pos (by omega)]
    congr 1
    omega
  · rw [if_neg h1]
    by_cases h2 : k = i
    · rw [if_pos h2, if_neg (by omega), if_pos (by omega)]
      congr 1
      omega
    · rw [if_neg h2]
      by_cases h3 : k < i ∨ 31 - i < k
      · rw [if_pos h3, if_pos (by omega)]
      · rw [if_neg h3, if_neg (by omega)]
theorem revF_end (f : Nat → Int) : b8l (revF f 16) 32 = b8l (fun k => f (31 - k)) 32 := b8l_congr fun k hk => by
  unfold revF
  rw [if_pos (by omega)]

def RevRel (B g : Nat) (f : Nat → Int) (L : List (Nat × List Value)) (w : World) (i j : Value) (wr : World) : Prop :=
  ∃ m : Nat, m ≤ 16 ∧ i = .int .i64 m ∧ j = .int .i64 ((31 : Int) - m) ∧ Mem wr ((g, b8l (revF f m) 32) :: L) ∧ Below B w wr

set_option maxRecDepth 100000 in
set_option maxHeartbeats 2000000 in
theorem rev_any (B g : Nat) (hBg : B ≤ g) (f : Nat → Int) (L : List (Nat × List Value)) (hL : ∀ p ∈ L, p.1 ≠ g) (w : World) (hm : Mem w ((g, b8l f 32) :: L)) :
    Calls Try.prog 54 #[.slice (some ⟨g, 0, none⟩) 32 32] w fun e w' => e = .returned (.tuple #[]) ∧ Mem w' ((g, b8l (fun k => f (31 - k)) 32) :: L) ∧ Below B w w' := by
  have HM := Lib.hid hm
  have HL := Lib.hid hL
  have HBg := Lib.hid hBg
  clear hm hL hBg
  go_enter Try.func54, Try.ntmps54
  go_wp2
  go_loopw [2, 3] (fun i j wr => RevRel B g f L w i j wr) (fun i _ _ => 32 - (intOf i).toNat)
  case atStart =>
    refine ⟨0, by omega, rfl, rfl, ?_, Below.refl _ _⟩
    have : b8l (revF f 0) 32 = b8l f 32 := b8l_congr fun k hk => by unfold revF; rw [if_neg (by omega)]
    rw [this]
    exact HM.out
  case round =>
    obtain ⟨m, hm16, rfl, rfl, hm, hB⟩ := hrel
    by_cases hlt : m < 16
    · obtain ⟨h, hh⟩ : ∃ h, revF f m = h := ⟨_, rfl⟩
      obtain ⟨t, ht⟩ : ∃ t, 31 - m = t := ⟨_, rfl⟩
      have htm : (31 : Int) - (m : Int) = (t : Int) := by omega
      have hmt : (m : Int) < (t : Int) := by omega
      have hne : m ≠ t := by omega
      have hm32 : (m : Int) < 32 := by omega
      have ht32 : (t : Int) < 32 := by omega
      have hw1 : IntKind.i64.wrap ((m : Int) + 1) = (m : Int) + 1 := by rw [IntKind.wrap_i64]; omega
      have hw2 : IntKind.i64.wrap ((t : Int) - 1) = (t : Int) - 1 := by rw [IntKind.wrap_i64]; omega
      rw [hh] at hm
      rw [htm]
      have HT := Lib.hid (show revF f m = h ∧ 31 - m = t from ⟨hh, ht⟩)
      have HMm := Lib.hid hm
      have HB := Lib.hid hB
      clear hh ht hm hB
      go_wp2
      have c1 := cellsAt_get HMm.out.1.2.2 (b8l_get h 32 m (by omega))
      have c2 := cellsAt_get HMm.out.1.2.2 (b8l_get h 32 t (by omega))
      have z1 := HMm.out.1.2.1 m
      have z2 := HMm.out.1.2.1 t
      refine wp_fork (fun _ => True) [7, 11, 13, 15] (nodes [0, 1, 2, 3, 4, 5, 6, 8, 9, 10] (.fork 7 11 (nodes [11, 12, 13, 14, 15] .leaf) (nodes [7, 12, 13, 14, 15] .leaf))) (by kernel_rfl) (by kernel_rfl) trivial (fun hHeld => ?_)
      iterate 10 (refine wpF_take rfl (by rfl) (by rfl) (by intro w' hSw; (try dsimp only [Mem, cellsAt] at hSw); go_simp; (try with_reducible rfl)) (by assumption) ?_; (try simp only [Act.put, List.setIfInBounds_toArray, List.set_cons_zero, List.set_cons_succ]))
      (refine wpF_fork rfl rfl (fun K hK => ?_) (fun K hK => ?_) <;> go_simp)
      all_goals
        (refine hK.out _ _ _ (fun _ h => h) (trivial) (fun hHeld => ?_); clear hK; clear K; (try simp only [Act.put, List.setIfInBounds_toArray, List.set_cons_zero, List.set_cons_succ]))
        (refine wpF_step rfl (by rfl) (fun K hK => ?_); go_simp)
        (refine hK.out _ _ _ (fun _ h => h) (trivial) (fun hHeld => ?_); clear hK; clear K; (try simp only [Act.put, List.setIfInBounds_toArray, List.set_cons_zero, List.set_cons_succ]))
        iterate 1 (refine wpF_take rfl (by rfl) (by rfl) (by intro w' hSw; (try dsimp only [Mem, cellsAt] at hSw); go_simp; (try with_reducible rfl)) (by assumption) ?_; (try simp only [Act.put, List.setIfInBounds_toArray, List.set_cons_zero, List.set_cons_succ]))
        (refine wpF_step rfl (by rfl) (fun K hK => ?_); go_simp)
        (refine hK.out _ _ _ (fun _ h => h) (trivial) (fun hHeld => ?_); clear hK; clear K; (try simp only [Act.put, List.setIfInBounds_toArray, List.set_cons_zero, List.set_cons_succ]))
        iterate 1 (refine wpF_take rfl (by rfl) (by rfl) (by intro w' hSw; (try dsimp only [Mem, cellsAt] at hSw); go_simp; (try with_reducible rfl)) (by assumption) ?_; (try simp only [Act.put, List.setIfInBounds_toArray, List.set_cons_zero, List.set_cons_succ]))
        (refine wpF_step rfl (by rfl) (fun K hK => ?_); go_simp)
        (refine hK.out _ _ _ (fun _ h => h) (trivial) (fun hHeld => ?_); clear hK; clear K; (try simp only [Act.put, List.setIfInBounds_toArray, List.set_cons_zero, List.set_cons_succ]))
        (refine wpF_nil ?_)
        go_wp2
        have h1 := Mem.setN (k := t) (v := .int .u8 (h m)) HL.out (Mem.setN (k := m) (v := .int .u8 (h t)) HL.out HMm.out)
        rw [b8l_set, b8l_set, ← HT.out.1, ← HT.out.2, revF_step f m hlt] at h1
        rw [HT.out.1, HT.out.2] at h1
        refine ⟨⟨m + 1, by omega, by go_num, ?_, Mem.drew h1, ((HB.out.setCell HBg.out _).setCell HBg.out _).drew⟩, by simp [intOf]; omega⟩
        have : (31 : Int) - ((m + 1 : Nat) : Int) = (t : Int) - 1 := by omega
        rw [this]
    · have hme : m = 16 := by omega
      subst hme
      rw [revF_end] at hm
      have h16 : (31 : Int) - ((16 : Nat) : Int) = 15 := by decide
      have h16' : ((16 : Nat) : Int) = 16 := rfl
      rw [h16, h16']
      go_wp2
      exact bodyPost_end (v := .tuple #[]) (by simp [results, Try.results54, go_sem]) rfl ⟨rfl, hm, hB⟩
end Go.Proofs.Ytlfabchlblgmbaa
