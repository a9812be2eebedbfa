/- Clock: contracts of Median, Check. -/
import Derived.Test.YtppbnanhippdaaaCk2
namespace Go.Proofs.Ytppbnanhippdaaa
set_option linter.unusedVariables false
set_option linter.unusedSimpArgs false
open Go.RowKit

set_option maxHeartbeats 400000 in
theorem median_any (ao : Option Addr) (n c : Nat) (l : List Int) (w : World) (hr : Row w ao n c 1 (c32 l)) (hn : n ≤ 1000000) :
    Calls Try.prog 12 #[.slice ao n c] w fun e w' => e = .returned (.int .u32 (med l)) ∧ Below w.heap.size w w' := by
  have hl := hr.len32
  have HR := Lib.hid hr
  clear hr
  have HL := Lib.hid (fun w' (h : Below w.heap.size w w') => last_any ao n c l w' (HR.out.later h) hn)
  have hs := srt_len l
  by_cases h0 : n = 0
  · subst h0
    have HM := Lib.hid (show med l = 0 by unfold med; have : srt l = [] := List.eq_nil_of_length_eq_zero (by omega); rw [this]; rfl)
    clear hl hs
    go_enter Try.func12, Try.ntmps12
    go_wp2_with (go_at_call 10; (with_reducible refine (HL.out _ (Below.refl _ _)).mono ?_); rintro e w1 ⟨ao1, m, c1, rfl, rfl, hr1, hb1⟩; replace hr1 := Lib.hid hr1; simp only [Nat.zero_min])
    go_ret
    rw [HM.out]
    exact ⟨rfl, hb1⟩
  · obtain ⟨m, hm⟩ : ∃ m, m = min n 11 := ⟨_, rfl⟩
    have hm1 : 1 ≤ m ∧ m ≤ 11 := by omega
    have HM := Lib.hid (show med l = (srt l).getD (m / 2) 0 by unfold med; rw [hs, ← hl, ← hm])
    have HS := Lib.hid hm
    clear hl hs hm
    go_enter Try.func12, Try.ntmps12
    go_wp2_with (go_at_call 10; (with_reducible refine (HL.out _ (Below.refl _ _)).mono ?_); rintro e w1 ⟨ao1, m1, c1, hm1e, rfl, hr1, hb1⟩; rw [← HS.out] at hm1e; subst hm1e; obtain ⟨b, off, rfl⟩ := row_addr hr1 (by intro h; have := hr1.len; rw [h] at this; simp at this; omega); have hc := hr1.cell32 (m1 / 2) (by omega); replace hr1 := Lib.hid hr1)
    go_ret
    rw [HM.out]
    exact ⟨by simp [List.getD], hb1⟩

def checkN (t : Int) (l : List Int) (now future : Int) : Int := if (0 < l.length ∧ t ≤ med l) ∨ bndN now + bndN future < t then 8 else 0

set_option maxHeartbeats 400000 in
theorem check_any (t : Int) (ao : Option Addr) (n c : Nat) (l : List Int) (now future : Int) (w : World) (hr : Row w ao n c 1 (c32 l)) (hn : n ≤ 1000000) (ht : 0 ≤ t ∧ t < 4294967296) :
    Calls Try.prog 14 #[.int .u32 t, .slice ao n c, .int .i64 now, .int .i64 future] w fun e w' => e = .returned (.int .i64 (checkN t l now future)) ∧ Below w.heap.size w w' := by
  have hl := hr.len32
  have HR := Lib.hid hr
  clear hr
  have HM := Lib.hid (fun w' (h : Below w.heap.size w w') => median_any ao n c l w' (HR.out.later h) hn)
  obtain ⟨a, ha⟩ : ∃ a, bndN now = a := ⟨_, rfl⟩
  obtain ⟨b, hb⟩ : ∃ b, bndN future = b := ⟨_, rfl⟩
  have ra := bndN_range now
  have rb := bndN_range future
  rw [ha] at ra
  rw [hb] at rb
  have HA := Lib.hid (fun w' => by have := bounded_any now w'; rwa [ha] at this)
  have HB := Lib.hid (fun w' => by have := bounded_any future w'; rwa [hb] at this)
  obtain ⟨m, hm⟩ : ∃ m, med l = m := ⟨_, rfl⟩
  have HE := Lib.hid (show checkN t l now future = if (0 < l.length ∧ t ≤ m) ∨ a + b < t then 8 else 0 by unfold checkN; rw [ha, hb, hm])
  rw [hm] at HM
  clear ha hb hm
  by_cases h0 : n = 0
  · subst h0
    by_cases h2 : a + b < t
    · have HE2 := Lib.hid (show checkN t l now future = 8 by rw [HE.out, if_pos (.inr h2)])
      clear hl
      go_enter Try.func14, Try.ntmps14
      go_wp2_with (first | (go_at_call 12; (with_reducible refine (HM.out _ (Below.refl _ _)).mono ?_); rintro e w1 ⟨rfl, hb1⟩) | (go_at_call 21; (with_reducible refine (HA.out _).mono ?_); rintro e w2 ⟨rfl, rfl⟩) | (go_at_call 21; (with_reducible refine (HB.out _).mono ?_); rintro e w2 ⟨rfl, rfl⟩))
      go_ret
      rw [HE2.out]
      exact ⟨rfl, Below.refl _ _⟩
    · have HE2 := Lib.hid (show checkN t l now future = 0 by rw [HE.out, if_neg (by omega)])
      clear hl
      go_enter Try.func14, Try.ntmps14
      go_wp2_with (first | (go_at_call 12; (with_reducible refine (HM.out _ (Below.refl _ _)).mono ?_); rintro e w1 ⟨rfl, hb1⟩) | (go_at_call 21; (with_reducible refine (HA.out _).mono ?_); rintro e w2 ⟨rfl, rfl⟩) | (go_at_call 21; (with_reducible refine (HB.out _).mono ?_); rintro e w2 ⟨rfl, rfl⟩))
      go_ret
      rw [HE2.out]
      exact ⟨rfl, Below.refl _ _⟩
  have h0' : (0 : Int) < (n : Int) := by omega
  by_cases h1 : t ≤ m
  · have HE2 := Lib.hid (show checkN t l now future = 8 by rw [HE.out, if_pos (.inl ⟨by omega, h1⟩)])
    clear hl
    go_enter Try.func14, Try.ntmps14
    go_wp2_with (first | (go_at_call 12; (with_reducible refine (HM.out _ (Below.refl _ _)).mono ?_); rintro e w1 ⟨rfl, hb1⟩) | (go_at_call 21; (with_reducible refine (HA.out _).mono ?_); rintro e w2 ⟨rfl, rfl⟩) | (go_at_call 21; (with_reducible refine (HB.out _).mono ?_); rintro e w2 ⟨rfl, rfl⟩))
    go_ret
    rw [HE2.out]
    exact ⟨rfl, hb1⟩
  by_cases h2 : a + b < t
  · have HE2 := Lib.hid (show checkN t l now future = 8 by rw [HE.out, if_pos (.inr h2)])
    clear hl
    go_enter Try.func14, Try.ntmps14
    go_wp2_with (first | (go_at_call 12; (with_reducible refine (HM.out _ (Below.refl _ _)).mono ?_); rintro e w1 ⟨rfl, hb1⟩) | (go_at_call 21; (with_reducible refine (HA.out _).mono ?_); rintro e w2 ⟨rfl, rfl⟩) | (go_at_call 21; (with_reducible refine (HB.out _).mono ?_); rintro e w2 ⟨rfl, rfl⟩))
    go_ret
    rw [HE2.out]
    exact ⟨rfl, hb1⟩
  · have HE2 := Lib.hid (show checkN t l now future = 0 by rw [HE.out, if_neg (by omega)])
    clear hl
    go_enter Try.func14, Try.ntmps14
    go_wp2_with (first | (go_at_call 12; (with_reducible refine (HM.out _ (Below.refl _ _)).mono ?_); rintro e w1 ⟨rfl, hb1⟩) | (go_at_call 21; (with_reducible refine (HA.out _).mono ?_); rintro e w2 ⟨rfl, rfl⟩) | (go_at_call 21; (with_reducible refine (HB.out _).mono ?_); rintro e w2 ⟨rfl, rfl⟩))
    go_ret
    rw [HE2.out]
    exact ⟨rfl, hb1⟩
end Go.Proofs.Ytppbnanhippdaaa
