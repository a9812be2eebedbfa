/- Clock: the document's Median, Check. -/
import Derived.Test.YtppbnanhippdaaaCkI
namespace Go.Proofs.Ytppbnanhippdaaa
set_option linter.unusedVariables false
set_option linter.unusedSimpArgs false
open Go.RowKit

set_option maxHeartbeats 400000 in
theorem rmedian_any (ao : Option Addr) (n c : Nat) (l : List Int) (w : World) (hr : Row w ao n c 1 (c32 l)) (hn : n ≤ 1000000) :
    Calls Try.prog 13 #[.slice ao n c] w fun e w' => e = .returned (.int .u32 (med l)) ∧ Below w.heap.size w w' := by
  have hl := hr.len32
  have HR := Lib.hid hr
  clear hr
  have HL := Lib.hid (fun w' (h : Below w.heap.size w w') => rlast_any ao n c l w' (HR.out.later h) hn)
  have hs := srt_len l
  by_cases h0 : n = 0
  · subst h0
    have HM := Lib.hid (show med l = 0 by unfold med; have : srt l = [] := List.eq_nil_of_length_eq_zero (by omega); rw [this]; rfl)
    clear hl hs
    go_enter Try.func13, Try.ntmps13
    go_wp2_with (go_at_call 11; (with_reducible refine (HL.out _ (Below.refl _ _)).mono ?_); rintro e w1 ⟨ao1, m, c1, rfl, rfl, hr1, hb1⟩; replace hr1 := Lib.hid hr1; simp only [Nat.zero_min])
    go_ret
    rw [HM.out]
    exact ⟨rfl, hb1⟩
  · obtain ⟨m, hm⟩ : ∃ m, m = min n 11 := ⟨_, rfl⟩
    have hm1 : 1 ≤ m ∧ m ≤ 11 := by omega
    have HM := Lib.hid (show med l = (srt l).getD (m / 2) 0 by unfold med; rw [hs, ← hl, ← hm])
    have HS := Lib.hid hm
    clear hl hs hm
    go_enter Try.func13, Try.ntmps13
    go_wp2_with (go_at_call 11; (with_reducible refine (HL.out _ (Below.refl _ _)).mono ?_); rintro e w1 ⟨ao1, m1, c1, hm1e, rfl, hr1, hb1⟩; rw [← HS.out] at hm1e; subst hm1e; obtain ⟨b, off, rfl⟩ := row_addr hr1 (by intro h; have := hr1.len; rw [h] at this; simp at this; omega); have hc := hr1.cell32 (m1 / 2) (by omega); replace hr1 := Lib.hid hr1)
    go_ret
    rw [HM.out]
    exact ⟨by simp [List.getD], hb1⟩

set_option maxHeartbeats 2000000 in
theorem rcheck_any (t : Int) (ao : Option Addr) (n c : Nat) (l : List Int) (now future : Int) (w : World) (hr : Row w ao n c 1 (c32 l)) (hn : n ≤ 1000000) (ht : 0 ≤ t ∧ t < 4294967296) :
    Calls Try.prog 15 #[.int .u32 t, .slice ao n c, .int .i64 now, .int .i64 future] w fun e w' => e = .returned (.int .i64 (checkN t l now future)) ∧ Below w.heap.size w w' := by
  have hl := hr.len32
  have HR := Lib.hid hr
  clear hr
  have HM := Lib.hid (fun w' (h : Below w.heap.size w w') => rmedian_any ao n c l w' (HR.out.later h) hn)
  obtain ⟨m, hm⟩ : ∃ m, med l = m := ⟨_, rfl⟩
  rw [hm] at HM
  by_cases hA0 : now < 0
  · have hba : bndN now = 0 := by unfold bndN; omega
    by_cases hB0 : future < 0
    · have hbb : bndN future = 0 := by unfold bndN; omega
      have HE := Lib.hid (show checkN t l now future = if (0 < l.length ∧ t ≤ m) ∨ 0 + 0 < t then 8 else 0 by unfold checkN; rw [hba, hbb, hm])
      clear hba hbb hm
      by_cases h0 : n = 0
      · have hl0 : ¬ 0 < l.length := by omega
        subst h0
        by_cases h2 : 0 + 0 < t
        · have HE2 := Lib.hid (show checkN t l now future = 8 by rw [HE.out]; exact if_pos (.inr h2))
          clear hl
          go_enter Try.func15, Try.ntmps15
          go_wp2_with (go_at_call 13; (with_reducible refine (HM.out _ (by (repeat (first | exact Below.refl _ _ | refine Below.drew ?_ | refine bl_drewN ?_ _ | (refine Below.alloc ?_ (by first | exact Nat.le_refl _ | (simp; done) | (simp; omega)) _))))).mono ?_); rintro e w1 ⟨rfl, hb1⟩)
          all_goals first | omega | (go_ret; rw [HE2.out]; exact ⟨rfl, by (repeat (first | exact Below.refl _ _ | refine Below.drew ?_ | refine bl_drewN ?_ _ | (refine Below.alloc ?_ (by first | exact Nat.le_refl _ | (simp; done) | (simp; omega)) _)))⟩)
        · have HE2 := Lib.hid (show checkN t l now future = 0 by rw [HE.out]; exact if_neg (by omega))
          clear hl
          go_enter Try.func15, Try.ntmps15
          go_wp2_with (go_at_call 13; (with_reducible refine (HM.out _ (by (repeat (first | exact Below.refl _ _ | refine Below.drew ?_ | refine bl_drewN ?_ _ | (refine Below.alloc ?_ (by first | exact Nat.le_refl _ | (simp; done) | (simp; omega)) _))))).mono ?_); rintro e w1 ⟨rfl, hb1⟩)
          all_goals first | omega | (go_ret; rw [HE2.out]; exact ⟨rfl, by (repeat (first | exact Below.refl _ _ | refine Below.drew ?_ | refine bl_drewN ?_ _ | (refine Below.alloc ?_ (by first | exact Nat.le_refl _ | (simp; done) | (simp; omega)) _)))⟩)
      have h0' : (0 : Int) < (n : Int) := by omega
      by_cases h1 : t ≤ m
      · have HE2 := Lib.hid (show checkN t l now future = 8 by rw [HE.out]; exact if_pos (.inl ⟨by omega, h1⟩))
        clear hl
        go_enter Try.func15, Try.ntmps15
        go_wp2_with (go_at_call 13; (with_reducible refine (HM.out _ (by (repeat (first | exact Below.refl _ _ | refine Below.drew ?_ | refine bl_drewN ?_ _ | (refine Below.alloc ?_ (by first | exact Nat.le_refl _ | (simp; done) | (simp; omega)) _))))).mono ?_); rintro e w1 ⟨rfl, hb1⟩)
        all_goals first | omega | (go_ret; rw [HE2.out]; exact ⟨rfl, hb1⟩)
      by_cases h2 : 0 + 0 < t
      · have HE2 := Lib.hid (show checkN t l now future = 8 by rw [HE.out]; exact if_pos (.inr h2))
        clear hl
        go_enter Try.func15, Try.ntmps15
        go_wp2_with (go_at_call 13; (with_reducible refine (HM.out _ (by (repeat (first | exact Below.refl _ _ | refine Below.drew ?_ | refine bl_drewN ?_ _ | (refine Below.alloc ?_ (by first | exact Nat.le_refl _ | (simp; done) | (simp; omega)) _))))).mono ?_); rintro e w1 ⟨rfl, hb1⟩)
        all_goals first | omega | (go_ret; rw [HE2.out]; exact ⟨rfl, hb1⟩)
      · have HE2 := Lib.hid (show checkN t l now future = 0 by rw [HE.out]; exact if_neg (by omega))
        clear hl
        go_enter Try.func15, Try.ntmps15
        go_wp2_with (go_at_call 13; (with_reducible refine (HM.out _ (by (repeat (first | exact Below.refl _ _ | refine Below.drew ?_ | refine bl_drewN ?_ _ | (refine Below.alloc ?_ (by first | exact Nat.le_refl _ | (simp; done) | (simp; omega)) _))))).mono ?_); rintro e w1 ⟨rfl, hb1⟩)
        all_goals first | omega | (go_ret; rw [HE2.out]; exact ⟨rfl, hb1⟩)
    by_cases hB1 : 1099511627776 < future
    · have hbb : bndN future = 1099511627776 := by unfold bndN; omega
      have HE := Lib.hid (show checkN t l now future = if (0 < l.length ∧ t ≤ m) ∨ 0 + 1099511627776 < t then 8 else 0 by unfold checkN; rw [hba, hbb, hm])
      clear hba hbb hm
      by_cases h0 : n = 0
      · have hl0 : ¬ 0 < l.length := by omega
        subst h0
        by_cases h2 : 0 + 1099511627776 < t
        · have HE2 := Lib.hid (show checkN t l now future = 8 by rw [HE.out]; exact if_pos (.inr h2))
          clear hl
          go_enter Try.func15, Try.ntmps15
          go_wp2_with (go_at_call 13; (with_reducible refine (HM.out _ (by (repeat (first | exact Below.refl _ _ | refine Below.drew ?_ | refine bl_drewN ?_ _ | (refine Below.alloc ?_ (by first | exact Nat.le_refl _ | (simp; done) | (simp; omega)) _))))).mono ?_); rintro e w1 ⟨rfl, hb1⟩)
          all_goals first | omega | (go_ret; rw [HE2.out]; exact ⟨rfl, by (repeat (first | exact Below.refl _ _ | refine Below.drew ?_ | refine bl_drewN ?_ _ | (refine Below.alloc ?_ (by first | exact Nat.le_refl _ | (simp; done) | (simp; omega)) _)))⟩)
        · have HE2 := Lib.hid (show checkN t l now future = 0 by rw [HE.out]; exact if_neg (by omega))
          clear hl
          go_enter Try.func15, Try.ntmps15
          go_wp2_with (go_at_call 13; (with_reducible refine (HM.out _ (by (repeat (first | exact Below.refl _ _ | refine Below.drew ?_ | refine bl_drewN ?_ _ | (refine Below.alloc ?_ (by first | exact Nat.le_refl _ | (simp; done) | (simp; omega)) _))))).mono ?_); rintro e w1 ⟨rfl, hb1⟩)
          all_goals first | omega | (go_ret; rw [HE2.out]; exact ⟨rfl, by (repeat (first | exact Below.refl _ _ | refine Below.drew ?_ | refine bl_drewN ?_ _ | (refine Below.alloc ?_ (by first | exact Nat.le_refl _ | (simp; done) | (simp; omega)) _)))⟩)
      have h0' : (0 : Int) < (n : Int) := by omega
      by_cases h1 : t ≤ m
      · have HE2 := Lib.hid (show checkN t l now future = 8 by rw [HE.out]; exact if_pos (.inl ⟨by omega, h1⟩))
        clear hl
        go_enter Try.func15, Try.ntmps15
        go_wp2_with (go_at_call 13; (with_reducible refine (HM.out _ (by (repeat (first | exact Below.refl _ _ | refine Below.drew ?_ | refine bl_drewN ?_ _ | (refine Below.alloc ?_ (by first | exact Nat.le_refl _ | (simp; done) | (simp; omega)) _))))).mono ?_); rintro e w1 ⟨rfl, hb1⟩)
        all_goals first | omega | (go_ret; rw [HE2.out]; exact ⟨rfl, hb1⟩)
      by_cases h2 : 0 + 1099511627776 < t
      · have HE2 := Lib.hid (show checkN t l now future = 8 by rw [HE.out]; exact if_pos (.inr h2))
        clear hl
        go_enter Try.func15, Try.ntmps15
        go_wp2_with (go_at_call 13; (with_reducible refine (HM.out _ (by (repeat (first | exact Below.refl _ _ | refine Below.drew ?_ | refine bl_drewN ?_ _ | (refine Below.alloc ?_ (by first | exact Nat.le_refl _ | (simp; done) | (simp; omega)) _))))).mono ?_); rintro e w1 ⟨rfl, hb1⟩)
        all_goals first | omega | (go_ret; rw [HE2.out]; exact ⟨rfl, hb1⟩)
      · have HE2 := Lib.hid (show checkN t l now future = 0 by rw [HE.out]; exact if_neg (by omega))
        clear hl
        go_enter Try.func15, Try.ntmps15
        go_wp2_with (go_at_call 13; (with_reducible refine (HM.out _ (by (repeat (first | exact Below.refl _ _ | refine Below.drew ?_ | refine bl_drewN ?_ _ | (refine Below.alloc ?_ (by first | exact Nat.le_refl _ | (simp; done) | (simp; omega)) _))))).mono ?_); rintro e w1 ⟨rfl, hb1⟩)
        all_goals first | omega | (go_ret; rw [HE2.out]; exact ⟨rfl, hb1⟩)
    · have hbb : bndN future = future := by unfold bndN; omega
      have HE := Lib.hid (show checkN t l now future = if (0 < l.length ∧ t ≤ m) ∨ 0 + future < t then 8 else 0 by unfold checkN; rw [hba, hbb, hm])
      clear hba hbb hm
      by_cases h0 : n = 0
      · have hl0 : ¬ 0 < l.length := by omega
        subst h0
        by_cases h2 : 0 + future < t
        · have HE2 := Lib.hid (show checkN t l now future = 8 by rw [HE.out]; exact if_pos (.inr h2))
          clear hl
          go_enter Try.func15, Try.ntmps15
          go_wp2_with (go_at_call 13; (with_reducible refine (HM.out _ (by (repeat (first | exact Below.refl _ _ | refine Below.drew ?_ | refine bl_drewN ?_ _ | (refine Below.alloc ?_ (by first | exact Nat.le_refl _ | (simp; done) | (simp; omega)) _))))).mono ?_); rintro e w1 ⟨rfl, hb1⟩)
          all_goals first | omega | (go_ret; rw [HE2.out]; exact ⟨rfl, by (repeat (first | exact Below.refl _ _ | refine Below.drew ?_ | refine bl_drewN ?_ _ | (refine Below.alloc ?_ (by first | exact Nat.le_refl _ | (simp; done) | (simp; omega)) _)))⟩)
        · have HE2 := Lib.hid (show checkN t l now future = 0 by rw [HE.out]; exact if_neg (by omega))
          clear hl
          go_enter Try.func15, Try.ntmps15
          go_wp2_with (go_at_call 13; (with_reducible refine (HM.out _ (by (repeat (first | exact Below.refl _ _ | refine Below.drew ?_ | refine bl_drewN ?_ _ | (refine Below.alloc ?_ (by first | exact Nat.le_refl _ | (simp; done) | (simp; omega)) _))))).mono ?_); rintro e w1 ⟨rfl, hb1⟩)
          all_goals first | omega | (go_ret; rw [HE2.out]; exact ⟨rfl, by (repeat (first | exact Below.refl _ _ | refine Below.drew ?_ | refine bl_drewN ?_ _ | (refine Below.alloc ?_ (by first | exact Nat.le_refl _ | (simp; done) | (simp; omega)) _)))⟩)
      have h0' : (0 : Int) < (n : Int) := by omega
      by_cases h1 : t ≤ m
      · have HE2 := Lib.hid (show checkN t l now future = 8 by rw [HE.out]; exact if_pos (.inl ⟨by omega, h1⟩))
        clear hl
        go_enter Try.func15, Try.ntmps15
        go_wp2_with (go_at_call 13; (with_reducible refine (HM.out _ (by (repeat (first | exact Below.refl _ _ | refine Below.drew ?_ | refine bl_drewN ?_ _ | (refine Below.alloc ?_ (by first | exact Nat.le_refl _ | (simp; done) | (simp; omega)) _))))).mono ?_); rintro e w1 ⟨rfl, hb1⟩)
        all_goals first | omega | (go_ret; rw [HE2.out]; exact ⟨rfl, hb1⟩)
      by_cases h2 : 0 + future < t
      · have HE2 := Lib.hid (show checkN t l now future = 8 by rw [HE.out]; exact if_pos (.inr h2))
        clear hl
        go_enter Try.func15, Try.ntmps15
        go_wp2_with (go_at_call 13; (with_reducible refine (HM.out _ (by (repeat (first | exact Below.refl _ _ | refine Below.drew ?_ | refine bl_drewN ?_ _ | (refine Below.alloc ?_ (by first | exact Nat.le_refl _ | (simp; done) | (simp; omega)) _))))).mono ?_); rintro e w1 ⟨rfl, hb1⟩)
        all_goals first | omega | (go_ret; rw [HE2.out]; exact ⟨rfl, hb1⟩)
      · have HE2 := Lib.hid (show checkN t l now future = 0 by rw [HE.out]; exact if_neg (by omega))
        clear hl
        go_enter Try.func15, Try.ntmps15
        go_wp2_with (go_at_call 13; (with_reducible refine (HM.out _ (by (repeat (first | exact Below.refl _ _ | refine Below.drew ?_ | refine bl_drewN ?_ _ | (refine Below.alloc ?_ (by first | exact Nat.le_refl _ | (simp; done) | (simp; omega)) _))))).mono ?_); rintro e w1 ⟨rfl, hb1⟩)
        all_goals first | omega | (go_ret; rw [HE2.out]; exact ⟨rfl, hb1⟩)
  by_cases hA1 : 1099511627776 < now
  · have hba : bndN now = 1099511627776 := by unfold bndN; omega
    by_cases hB0 : future < 0
    · have hbb : bndN future = 0 := by unfold bndN; omega
      have HE := Lib.hid (show checkN t l now future = if (0 < l.length ∧ t ≤ m) ∨ 1099511627776 + 0 < t then 8 else 0 by unfold checkN; rw [hba, hbb, hm])
      clear hba hbb hm
      by_cases h0 : n = 0
      · have hl0 : ¬ 0 < l.length := by omega
        subst h0
        by_cases h2 : 1099511627776 + 0 < t
        · have HE2 := Lib.hid (show checkN t l now future = 8 by rw [HE.out]; exact if_pos (.inr h2))
          clear hl
          go_enter Try.func15, Try.ntmps15
          go_wp2_with (go_at_call 13; (with_reducible refine (HM.out _ (by (repeat (first | exact Below.refl _ _ | refine Below.drew ?_ | refine bl_drewN ?_ _ | (refine Below.alloc ?_ (by first | exact Nat.le_refl _ | (simp; done) | (simp; omega)) _))))).mono ?_); rintro e w1 ⟨rfl, hb1⟩)
          all_goals first | omega | (go_ret; rw [HE2.out]; exact ⟨rfl, by (repeat (first | exact Below.refl _ _ | refine Below.drew ?_ | refine bl_drewN ?_ _ | (refine Below.alloc ?_ (by first | exact Nat.le_refl _ | (simp; done) | (simp; omega)) _)))⟩)
        · have HE2 := Lib.hid (show checkN t l now future = 0 by rw [HE.out]; exact if_neg (by omega))
          clear hl
          go_enter Try.func15, Try.ntmps15
          go_wp2_with (go_at_call 13; (with_reducible refine (HM.out _ (by (repeat (first | exact Below.refl _ _ | refine Below.drew ?_ | refine bl_drewN ?_ _ | (refine Below.alloc ?_ (by first | exact Nat.le_refl _ | (simp; done) | (simp; omega)) _))))).mono ?_); rintro e w1 ⟨rfl, hb1⟩)
          all_goals first | omega | (go_ret; rw [HE2.out]; exact ⟨rfl, by (repeat (first | exact Below.refl _ _ | refine Below.drew ?_ | refine bl_drewN ?_ _ | (refine Below.alloc ?_ (by first | exact Nat.le_refl _ | (simp; done) | (simp; omega)) _)))⟩)
      have h0' : (0 : Int) < (n : Int) := by omega
      by_cases h1 : t ≤ m
      · have HE2 := Lib.hid (show checkN t l now future = 8 by rw [HE.out]; exact if_pos (.inl ⟨by omega, h1⟩))
        clear hl
        go_enter Try.func15, Try.ntmps15
        go_wp2_with (go_at_call 13; (with_reducible refine (HM.out _ (by (repeat (first | exact Below.refl _ _ | refine Below.drew ?_ | refine bl_drewN ?_ _ | (refine Below.alloc ?_ (by first | exact Nat.le_refl _ | (simp; done) | (simp; omega)) _))))).mono ?_); rintro e w1 ⟨rfl, hb1⟩)
        all_goals first | omega | (go_ret; rw [HE2.out]; exact ⟨rfl, hb1⟩)
      by_cases h2 : 1099511627776 + 0 < t
      · have HE2 := Lib.hid (show checkN t l now future = 8 by rw [HE.out]; exact if_pos (.inr h2))
        clear hl
        go_enter Try.func15, Try.ntmps15
        go_wp2_with (go_at_call 13; (with_reducible refine (HM.out _ (by (repeat (first | exact Below.refl _ _ | refine Below.drew ?_ | refine bl_drewN ?_ _ | (refine Below.alloc ?_ (by first | exact Nat.le_refl _ | (simp; done) | (simp; omega)) _))))).mono ?_); rintro e w1 ⟨rfl, hb1⟩)
        all_goals first | omega | (go_ret; rw [HE2.out]; exact ⟨rfl, hb1⟩)
      · have HE2 := Lib.hid (show checkN t l now future = 0 by rw [HE.out]; exact if_neg (by omega))
        clear hl
        go_enter Try.func15, Try.ntmps15
        go_wp2_with (go_at_call 13; (with_reducible refine (HM.out _ (by (repeat (first | exact Below.refl _ _ | refine Below.drew ?_ | refine bl_drewN ?_ _ | (refine Below.alloc ?_ (by first | exact Nat.le_refl _ | (simp; done) | (simp; omega)) _))))).mono ?_); rintro e w1 ⟨rfl, hb1⟩)
        all_goals first | omega | (go_ret; rw [HE2.out]; exact ⟨rfl, hb1⟩)
    by_cases hB1 : 1099511627776 < future
    · have hbb : bndN future = 1099511627776 := by unfold bndN; omega
      have HE := Lib.hid (show checkN t l now future = if (0 < l.length ∧ t ≤ m) ∨ 1099511627776 + 1099511627776 < t then 8 else 0 by unfold checkN; rw [hba, hbb, hm])
      clear hba hbb hm
      by_cases h0 : n = 0
      · have hl0 : ¬ 0 < l.length := by omega
        subst h0
        by_cases h2 : 1099511627776 + 1099511627776 < t
        · have HE2 := Lib.hid (show checkN t l now future = 8 by rw [HE.out]; exact if_pos (.inr h2))
          clear hl
          go_enter Try.func15, Try.ntmps15
          go_wp2_with (go_at_call 13; (with_reducible refine (HM.out _ (by (repeat (first | exact Below.refl _ _ | refine Below.drew ?_ | refine bl_drewN ?_ _ | (refine Below.alloc ?_ (by first | exact Nat.le_refl _ | (simp; done) | (simp; omega)) _))))).mono ?_); rintro e w1 ⟨rfl, hb1⟩)
          all_goals first | omega | (go_ret; rw [HE2.out]; exact ⟨rfl, by (repeat (first | exact Below.refl _ _ | refine Below.drew ?_ | refine bl_drewN ?_ _ | (refine Below.alloc ?_ (by first | exact Nat.le_refl _ | (simp; done) | (simp; omega)) _)))⟩)
        · have HE2 := Lib.hid (show checkN t l now future = 0 by rw [HE.out]; exact if_neg (by omega))
          clear hl
          go_enter Try.func15, Try.ntmps15
          go_wp2_with (go_at_call 13; (with_reducible refine (HM.out _ (by (repeat (first | exact Below.refl _ _ | refine Below.drew ?_ | refine bl_drewN ?_ _ | (refine Below.alloc ?_ (by first | exact Nat.le_refl _ | (simp; done) | (simp; omega)) _))))).mono ?_); rintro e w1 ⟨rfl, hb1⟩)
          all_goals first | omega | (go_ret; rw [HE2.out]; exact ⟨rfl, by (repeat (first | exact Below.refl _ _ | refine Below.drew ?_ | refine bl_drewN ?_ _ | (refine Below.alloc ?_ (by first | exact Nat.le_refl _ | (simp; done) | (simp; omega)) _)))⟩)
      have h0' : (0 : Int) < (n : Int) := by omega
      by_cases h1 : t ≤ m
      · have HE2 := Lib.hid (show checkN t l now future = 8 by rw [HE.out]; exact if_pos (.inl ⟨by omega, h1⟩))
        clear hl
        go_enter Try.func15, Try.ntmps15
        go_wp2_with (go_at_call 13; (with_reducible refine (HM.out _ (by (repeat (first | exact Below.refl _ _ | refine Below.drew ?_ | refine bl_drewN ?_ _ | (refine Below.alloc ?_ (by first | exact Nat.le_refl _ | (simp; done) | (simp; omega)) _))))).mono ?_); rintro e w1 ⟨rfl, hb1⟩)
        all_goals first | omega | (go_ret; rw [HE2.out]; exact ⟨rfl, hb1⟩)
      by_cases h2 : 1099511627776 + 1099511627776 < t
      · have HE2 := Lib.hid (show checkN t l now future = 8 by rw [HE.out]; exact if_pos (.inr h2))
        clear hl
        go_enter Try.func15, Try.ntmps15
        go_wp2_with (go_at_call 13; (with_reducible refine (HM.out _ (by (repeat (first | exact Below.refl _ _ | refine Below.drew ?_ | refine bl_drewN ?_ _ | (refine Below.alloc ?_ (by first | exact Nat.le_refl _ | (simp; done) | (simp; omega)) _))))).mono ?_); rintro e w1 ⟨rfl, hb1⟩)
        all_goals first | omega | (go_ret; rw [HE2.out]; exact ⟨rfl, hb1⟩)
      · have HE2 := Lib.hid (show checkN t l now future = 0 by rw [HE.out]; exact if_neg (by omega))
        clear hl
        go_enter Try.func15, Try.ntmps15
        go_wp2_with (go_at_call 13; (with_reducible refine (HM.out _ (by (repeat (first | exact Below.refl _ _ | refine Below.drew ?_ | refine bl_drewN ?_ _ | (refine Below.alloc ?_ (by first | exact Nat.le_refl _ | (simp; done) | (simp; omega)) _))))).mono ?_); rintro e w1 ⟨rfl, hb1⟩)
        all_goals first | omega | (go_ret; rw [HE2.out]; exact ⟨rfl, hb1⟩)
    · have hbb : bndN future = future := by unfold bndN; omega
      have HE := Lib.hid (show checkN t l now future = if (0 < l.length ∧ t ≤ m) ∨ 1099511627776 + future < t then 8 else 0 by unfold checkN; rw [hba, hbb, hm])
      clear hba hbb hm
      by_cases h0 : n = 0
      · have hl0 : ¬ 0 < l.length := by omega
        subst h0
        by_cases h2 : 1099511627776 + future < t
        · have HE2 := Lib.hid (show checkN t l now future = 8 by rw [HE.out]; exact if_pos (.inr h2))
          clear hl
          go_enter Try.func15, Try.ntmps15
          go_wp2_with (go_at_call 13; (with_reducible refine (HM.out _ (by (repeat (first | exact Below.refl _ _ | refine Below.drew ?_ | refine bl_drewN ?_ _ | (refine Below.alloc ?_ (by first | exact Nat.le_refl _ | (simp; done) | (simp; omega)) _))))).mono ?_); rintro e w1 ⟨rfl, hb1⟩)
          all_goals first | omega | (go_ret; rw [HE2.out]; exact ⟨rfl, by (repeat (first | exact Below.refl _ _ | refine Below.drew ?_ | refine bl_drewN ?_ _ | (refine Below.alloc ?_ (by first | exact Nat.le_refl _ | (simp; done) | (simp; omega)) _)))⟩)
        · have HE2 := Lib.hid (show checkN t l now future = 0 by rw [HE.out]; exact if_neg (by omega))
          clear hl
          go_enter Try.func15, Try.ntmps15
          go_wp2_with (go_at_call 13; (with_reducible refine (HM.out _ (by (repeat (first | exact Below.refl _ _ | refine Below.drew ?_ | refine bl_drewN ?_ _ | (refine Below.alloc ?_ (by first | exact Nat.le_refl _ | (simp; done) | (simp; omega)) _))))).mono ?_); rintro e w1 ⟨rfl, hb1⟩)
          all_goals first | omega | (go_ret; rw [HE2.out]; exact ⟨rfl, by (repeat (first | exact Below.refl _ _ | refine Below.drew ?_ | refine bl_drewN ?_ _ | (refine Below.alloc ?_ (by first | exact Nat.le_refl _ | (simp; done) | (simp; omega)) _)))⟩)
      have h0' : (0 : Int) < (n : Int) := by omega
      by_cases h1 : t ≤ m
      · have HE2 := Lib.hid (show checkN t l now future = 8 by rw [HE.out]; exact if_pos (.inl ⟨by omega, h1⟩))
        clear hl
        go_enter Try.func15, Try.ntmps15
        go_wp2_with (go_at_call 13; (with_reducible refine (HM.out _ (by (repeat (first | exact Below.refl _ _ | refine Below.drew ?_ | refine bl_drewN ?_ _ | (refine Below.alloc ?_ (by first | exact Nat.le_refl _ | (simp; done) | (simp; omega)) _))))).mono ?_); rintro e w1 ⟨rfl, hb1⟩)
        all_goals first | omega | (go_ret; rw [HE2.out]; exact ⟨rfl, hb1⟩)
      by_cases h2 : 1099511627776 + future < t
      · have HE2 := Lib.hid (show checkN t l now future = 8 by rw [HE.out]; exact if_pos (.inr h2))
        clear hl
        go_enter Try.func15, Try.ntmps15
        go_wp2_with (go_at_call 13; (with_reducible refine (HM.out _ (by (repeat (first | exact Below.refl _ _ | refine Below.drew ?_ | refine bl_drewN ?_ _ | (refine Below.alloc ?_ (by first | exact Nat.le_refl _ | (simp; done) | (simp; omega)) _))))).mono ?_); rintro e w1 ⟨rfl, hb1⟩)
        all_goals first | omega | (go_ret; rw [HE2.out]; exact ⟨rfl, hb1⟩)
      · have HE2 := Lib.hid (show checkN t l now future = 0 by rw [HE.out]; exact if_neg (by omega))
        clear hl
        go_enter Try.func15, Try.ntmps15
        go_wp2_with (go_at_call 13; (with_reducible refine (HM.out _ (by (repeat (first | exact Below.refl _ _ | refine Below.drew ?_ | refine bl_drewN ?_ _ | (refine Below.alloc ?_ (by first | exact Nat.le_refl _ | (simp; done) | (simp; omega)) _))))).mono ?_); rintro e w1 ⟨rfl, hb1⟩)
        all_goals first | omega | (go_ret; rw [HE2.out]; exact ⟨rfl, hb1⟩)
  · have hba : bndN now = now := by unfold bndN; omega
    by_cases hB0 : future < 0
    · have hbb : bndN future = 0 := by unfold bndN; omega
      have HE := Lib.hid (show checkN t l now future = if (0 < l.length ∧ t ≤ m) ∨ now + 0 < t then 8 else 0 by unfold checkN; rw [hba, hbb, hm])
      clear hba hbb hm
      by_cases h0 : n = 0
      · have hl0 : ¬ 0 < l.length := by omega
        subst h0
        by_cases h2 : now + 0 < t
        · have HE2 := Lib.hid (show checkN t l now future = 8 by rw [HE.out]; exact if_pos (.inr h2))
          clear hl
          go_enter Try.func15, Try.ntmps15
          go_wp2_with (go_at_call 13; (with_reducible refine (HM.out _ (by (repeat (first | exact Below.refl _ _ | refine Below.drew ?_ | refine bl_drewN ?_ _ | (refine Below.alloc ?_ (by first | exact Nat.le_refl _ | (simp; done) | (simp; omega)) _))))).mono ?_); rintro e w1 ⟨rfl, hb1⟩)
          all_goals first | omega | (go_ret; rw [HE2.out]; exact ⟨rfl, by (repeat (first | exact Below.refl _ _ | refine Below.drew ?_ | refine bl_drewN ?_ _ | (refine Below.alloc ?_ (by first | exact Nat.le_refl _ | (simp; done) | (simp; omega)) _)))⟩)
        · have HE2 := Lib.hid (show checkN t l now future = 0 by rw [HE.out]; exact if_neg (by omega))
          clear hl
          go_enter Try.func15, Try.ntmps15
          go_wp2_with (go_at_call 13; (with_reducible refine (HM.out _ (by (repeat (first | exact Below.refl _ _ | refine Below.drew ?_ | refine bl_drewN ?_ _ | (refine Below.alloc ?_ (by first | exact Nat.le_refl _ | (simp; done) | (simp; omega)) _))))).mono ?_); rintro e w1 ⟨rfl, hb1⟩)
          all_goals first | omega | (go_ret; rw [HE2.out]; exact ⟨rfl, by (repeat (first | exact Below.refl _ _ | refine Below.drew ?_ | refine bl_drewN ?_ _ | (refine Below.alloc ?_ (by first | exact Nat.le_refl _ | (simp; done) | (simp; omega)) _)))⟩)
      have h0' : (0 : Int) < (n : Int) := by omega
      by_cases h1 : t ≤ m
      · have HE2 := Lib.hid (show checkN t l now future = 8 by rw [HE.out]; exact if_pos (.inl ⟨by omega, h1⟩))
        clear hl
        go_enter Try.func15, Try.ntmps15
        go_wp2_with (go_at_call 13; (with_reducible refine (HM.out _ (by (repeat (first | exact Below.refl _ _ | refine Below.drew ?_ | refine bl_drewN ?_ _ | (refine Below.alloc ?_ (by first | exact Nat.le_refl _ | (simp; done) | (simp; omega)) _))))).mono ?_); rintro e w1 ⟨rfl, hb1⟩)
        all_goals first | omega | (go_ret; rw [HE2.out]; exact ⟨rfl, hb1⟩)
      by_cases h2 : now + 0 < t
      · have HE2 := Lib.hid (show checkN t l now future = 8 by rw [HE.out]; exact if_pos (.inr h2))
        clear hl
        go_enter Try.func15, Try.ntmps15
        go_wp2_with (go_at_call 13; (with_reducible refine (HM.out _ (by (repeat (first | exact Below.refl _ _ | refine Below.drew ?_ | refine bl_drewN ?_ _ | (refine Below.alloc ?_ (by first | exact Nat.le_refl _ | (simp; done) | (simp; omega)) _))))).mono ?_); rintro e w1 ⟨rfl, hb1⟩)
        all_goals first | omega | (go_ret; rw [HE2.out]; exact ⟨rfl, hb1⟩)
      · have HE2 := Lib.hid (show checkN t l now future = 0 by rw [HE.out]; exact if_neg (by omega))
        clear hl
        go_enter Try.func15, Try.ntmps15
        go_wp2_with (go_at_call 13; (with_reducible refine (HM.out _ (by (repeat (first | exact Below.refl _ _ | refine Below.drew ?_ | refine bl_drewN ?_ _ | (refine Below.alloc ?_ (by first | exact Nat.le_refl _ | (simp; done) | (simp; omega)) _))))).mono ?_); rintro e w1 ⟨rfl, hb1⟩)
        all_goals first | omega | (go_ret; rw [HE2.out]; exact ⟨rfl, hb1⟩)
    by_cases hB1 : 1099511627776 < future
    · have hbb : bndN future = 1099511627776 := by unfold bndN; omega
      have HE := Lib.hid (show checkN t l now future = if (0 < l.length ∧ t ≤ m) ∨ now + 1099511627776 < t then 8 else 0 by unfold checkN; rw [hba, hbb, hm])
      clear hba hbb hm
      by_cases h0 : n = 0
      · have hl0 : ¬ 0 < l.length := by omega
        subst h0
        by_cases h2 : now + 1099511627776 < t
        · have HE2 := Lib.hid (show checkN t l now future = 8 by rw [HE.out]; exact if_pos (.inr h2))
          clear hl
          go_enter Try.func15, Try.ntmps15
          go_wp2_with (go_at_call 13; (with_reducible refine (HM.out _ (by (repeat (first | exact Below.refl _ _ | refine Below.drew ?_ | refine bl_drewN ?_ _ | (refine Below.alloc ?_ (by first | exact Nat.le_refl _ | (simp; done) | (simp; omega)) _))))).mono ?_); rintro e w1 ⟨rfl, hb1⟩)
          all_goals first | omega | (go_ret; rw [HE2.out]; exact ⟨rfl, by (repeat (first | exact Below.refl _ _ | refine Below.drew ?_ | refine bl_drewN ?_ _ | (refine Below.alloc ?_ (by first | exact Nat.le_refl _ | (simp; done) | (simp; omega)) _)))⟩)
        · have HE2 := Lib.hid (show checkN t l now future = 0 by rw [HE.out]; exact if_neg (by omega))
          clear hl
          go_enter Try.func15, Try.ntmps15
          go_wp2_with (go_at_call 13; (with_reducible refine (HM.out _ (by (repeat (first | exact Below.refl _ _ | refine Below.drew ?_ | refine bl_drewN ?_ _ | (refine Below.alloc ?_ (by first | exact Nat.le_refl _ | (simp; done) | (simp; omega)) _))))).mono ?_); rintro e w1 ⟨rfl, hb1⟩)
          all_goals first | omega | (go_ret; rw [HE2.out]; exact ⟨rfl, by (repeat (first | exact Below.refl _ _ | refine Below.drew ?_ | refine bl_drewN ?_ _ | (refine Below.alloc ?_ (by first | exact Nat.le_refl _ | (simp; done) | (simp; omega)) _)))⟩)
      have h0' : (0 : Int) < (n : Int) := by omega
      by_cases h1 : t ≤ m
      · have HE2 := Lib.hid (show checkN t l now future = 8 by rw [HE.out]; exact if_pos (.inl ⟨by omega, h1⟩))
        clear hl
        go_enter Try.func15, Try.ntmps15
        go_wp2_with (go_at_call 13; (with_reducible refine (HM.out _ (by (repeat (first | exact Below.refl _ _ | refine Below.drew ?_ | refine bl_drewN ?_ _ | (refine Below.alloc ?_ (by first | exact Nat.le_refl _ | (simp; done) | (simp; omega)) _))))).mono ?_); rintro e w1 ⟨rfl, hb1⟩)
        all_goals first | omega | (go_ret; rw [HE2.out]; exact ⟨rfl, hb1⟩)
      by_cases h2 : now + 1099511627776 < t
      · have HE2 := Lib.hid (show checkN t l now future = 8 by rw [HE.out]; exact if_pos (.inr h2))
        clear hl
        go_enter Try.func15, Try.ntmps15
        go_wp2_with (go_at_call 13; (with_reducible refine (HM.out _ (by (repeat (first | exact Below.refl _ _ | refine Below.drew ?_ | refine bl_drewN ?_ _ | (refine Below.alloc ?_ (by first | exact Nat.le_refl _ | (simp; done) | (simp; omega)) _))))).mono ?_); rintro e w1 ⟨rfl, hb1⟩)
        all_goals first | omega | (go_ret; rw [HE2.out]; exact ⟨rfl, hb1⟩)
      · have HE2 := Lib.hid (show checkN t l now future = 0 by rw [HE.out]; exact if_neg (by omega))
        clear hl
        go_enter Try.func15, Try.ntmps15
        go_wp2_with (go_at_call 13; (with_reducible refine (HM.out _ (by (repeat (first | exact Below.refl _ _ | refine Below.drew ?_ | refine bl_drewN ?_ _ | (refine Below.alloc ?_ (by first | exact Nat.le_refl _ | (simp; done) | (simp; omega)) _))))).mono ?_); rintro e w1 ⟨rfl, hb1⟩)
        all_goals first | omega | (go_ret; rw [HE2.out]; exact ⟨rfl, hb1⟩)
    · have hbb : bndN future = future := by unfold bndN; omega
      have HE := Lib.hid (show checkN t l now future = if (0 < l.length ∧ t ≤ m) ∨ now + future < t then 8 else 0 by unfold checkN; rw [hba, hbb, hm])
      clear hba hbb hm
      by_cases h0 : n = 0
      · have hl0 : ¬ 0 < l.length := by omega
        subst h0
        by_cases h2 : now + future < t
        · have HE2 := Lib.hid (show checkN t l now future = 8 by rw [HE.out]; exact if_pos (.inr h2))
          clear hl
          go_enter Try.func15, Try.ntmps15
          go_wp2_with (go_at_call 13; (with_reducible refine (HM.out _ (by (repeat (first | exact Below.refl _ _ | refine Below.drew ?_ | refine bl_drewN ?_ _ | (refine Below.alloc ?_ (by first | exact Nat.le_refl _ | (simp; done) | (simp; omega)) _))))).mono ?_); rintro e w1 ⟨rfl, hb1⟩)
          all_goals first | omega | (go_ret; rw [HE2.out]; exact ⟨rfl, by (repeat (first | exact Below.refl _ _ | refine Below.drew ?_ | refine bl_drewN ?_ _ | (refine Below.alloc ?_ (by first | exact Nat.le_refl _ | (simp; done) | (simp; omega)) _)))⟩)
        · have HE2 := Lib.hid (show checkN t l now future = 0 by rw [HE.out]; exact if_neg (by omega))
          clear hl
          go_enter Try.func15, Try.ntmps15
          go_wp2_with (go_at_call 13; (with_reducible refine (HM.out _ (by (repeat (first | exact Below.refl _ _ | refine Below.drew ?_ | refine bl_drewN ?_ _ | (refine Below.alloc ?_ (by first | exact Nat.le_refl _ | (simp; done) | (simp; omega)) _))))).mono ?_); rintro e w1 ⟨rfl, hb1⟩)
          all_goals first | omega | (go_ret; rw [HE2.out]; exact ⟨rfl, by (repeat (first | exact Below.refl _ _ | refine Below.drew ?_ | refine bl_drewN ?_ _ | (refine Below.alloc ?_ (by first | exact Nat.le_refl _ | (simp; done) | (simp; omega)) _)))⟩)
      have h0' : (0 : Int) < (n : Int) := by omega
      by_cases h1 : t ≤ m
      · have HE2 := Lib.hid (show checkN t l now future = 8 by rw [HE.out]; exact if_pos (.inl ⟨by omega, h1⟩))
        clear hl
        go_enter Try.func15, Try.ntmps15
        go_wp2_with (go_at_call 13; (with_reducible refine (HM.out _ (by (repeat (first | exact Below.refl _ _ | refine Below.drew ?_ | refine bl_drewN ?_ _ | (refine Below.alloc ?_ (by first | exact Nat.le_refl _ | (simp; done) | (simp; omega)) _))))).mono ?_); rintro e w1 ⟨rfl, hb1⟩)
        all_goals first | omega | (go_ret; rw [HE2.out]; exact ⟨rfl, hb1⟩)
      by_cases h2 : now + future < t
      · have HE2 := Lib.hid (show checkN t l now future = 8 by rw [HE.out]; exact if_pos (.inr h2))
        clear hl
        go_enter Try.func15, Try.ntmps15
        go_wp2_with (go_at_call 13; (with_reducible refine (HM.out _ (by (repeat (first | exact Below.refl _ _ | refine Below.drew ?_ | refine bl_drewN ?_ _ | (refine Below.alloc ?_ (by first | exact Nat.le_refl _ | (simp; done) | (simp; omega)) _))))).mono ?_); rintro e w1 ⟨rfl, hb1⟩)
        all_goals first | omega | (go_ret; rw [HE2.out]; exact ⟨rfl, hb1⟩)
      · have HE2 := Lib.hid (show checkN t l now future = 0 by rw [HE.out]; exact if_neg (by omega))
        clear hl
        go_enter Try.func15, Try.ntmps15
        go_wp2_with (go_at_call 13; (with_reducible refine (HM.out _ (by (repeat (first | exact Below.refl _ _ | refine Below.drew ?_ | refine bl_drewN ?_ _ | (refine Below.alloc ?_ (by first | exact Nat.le_refl _ | (simp; done) | (simp; omega)) _))))).mono ?_); rintro e w1 ⟨rfl, hb1⟩)
        all_goals first | omega | (go_ret; rw [HE2.out]; exact ⟨rfl, hb1⟩)

end Go.Proofs.Ytppbnanhippdaaa
