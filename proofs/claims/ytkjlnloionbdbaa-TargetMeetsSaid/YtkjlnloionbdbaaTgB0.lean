/- TargetBack: the numbers. -/
import Derived.Test.YtkjlnloionbdbaaTg4
namespace Go.Proofs.Ytkjlnloionbdbaa
set_option linter.unusedVariables false
set_option linter.unusedSimpArgs false
open Go.RowKit

theorem pow2_lt {a b : Nat} (h : (2 : Int) ^ a < 2 ^ b) : a < b := by
  rcases Nat.lt_or_ge a b with h1 | h1
  · exact h1
  · have := pow2_le h1; omega
theorem size_of {Y : Int} {s L : Nat} (hs : 1 ≤ s) (h1 : 2 ^ (8 * (s - 1)) ≤ Y) (h2 : Y < 2 ^ (8 * s)) (h3 : 2 ^ (L - 1) ≤ Y) (h4 : Y < 2 ^ L) : (L + 7) / 8 = s := by
  have a1 := pow2_lt (Int.lt_of_le_of_lt h1 h4)
  have a2 := pow2_lt (Int.lt_of_le_of_lt h3 h2)
  omega
/-- bits from size and upper bytes -/
def mk3 (s : Nat) (M : Int) : Int := if M / 8388608 % 2 = 1 then ((s : Int) + 1) * 16777216 + M / 256 else (s : Int) * 16777216 + M
theorem shr_mk (A : Int) (L s : Nat) (h : (L + 7) / 8 = s) : shrV A L = mk3 s (upV A s) := by
  unfold shrV mk3
  rw [h]
theorem exp_mk (B m : Int) (z : Int) (hm : 0 ≤ m ∧ m < 8388608) (hB : B = z * 16777216 + m) : expV B = m / 2 ^ (-(8 * (z - 3))).toNat * 2 ^ (8 * (z - 3)).toNat ∧ B / 8388608 % 2 = 0 := by
  subst hB
  have h1 : (z * 16777216 + m) % 8388608 = m := by omega
  have h2 : (z * 16777216 + m) / 16777216 = z := by omega
  refine ⟨?_, by omega⟩
  unfold expV
  rw [h1, h2]

theorem back_num (A : Int) (L : Nat) (hA : 1 ≤ A) (hL : L ≤ 256) (h3 : 2 ^ (L - 1) ≤ A) (h4 : A < 2 ^ L) (hW : A < WW) :
    (0 ≤ shrV A L ∧ shrV A L < 4294967296) ∧ expOk (shrV A L) = true ∧ expV (shrV A L) ≤ A ∧ A - expV (shrV A L) ≤ A / 2 ^ 14 ∧ shrV A L / 8388608 % 2 = 0 ∧
      ∀ L', 2 ^ (L' - 1) ≤ expV (shrV A L) → expV (shrV A L) < 2 ^ L' → shrV (expV (shrV A L)) L' = shrV A L := by
  have hL0 : 1 ≤ L := by
    rcases Nat.eq_zero_or_pos L with h | h
    · subst h; simp at h4; omega
    · exact h
  obtain ⟨s, hs⟩ : ∃ s, (L + 7) / 8 = s := ⟨_, rfl⟩
  have hlo : 2 ^ (8 * (s - 1)) ≤ A := Int.le_trans (pow2_le (by omega)) h3
  have hhi : A < 2 ^ (8 * s) := Int.lt_of_lt_of_le h4 (pow2_le (by omega))
  rw [shr_mk A L s hs]
  -- it is enough to know what the bits tell
  have fin : ∀ (M m Y : Int) (z : Nat), upV A s = M → mk3 s M = (z : Int) * 16777216 + m → (0 ≤ m ∧ m < 8388608) → z ≤ 33 → m / 2 ^ (-(8 * ((z : Int) - 3))).toNat * 2 ^ (8 * ((z : Int) - 3)).toNat = Y → 2 ^ (8 * (s - 1)) ≤ Y → Y ≤ A → A - Y ≤ A / 2 ^ 14 → mk3 s (upV Y s) = mk3 s M →
      (0 ≤ mk3 s (upV A s) ∧ mk3 s (upV A s) < 4294967296) ∧ expOk (mk3 s (upV A s)) = true ∧ expV (mk3 s (upV A s)) ≤ A ∧ A - expV (mk3 s (upV A s)) ≤ A / 2 ^ 14 ∧ mk3 s (upV A s) / 8388608 % 2 = 0 ∧
      ∀ L', 2 ^ (L' - 1) ≤ expV (mk3 s (upV A s)) → expV (mk3 s (upV A s)) < 2 ^ L' → shrV (expV (mk3 s (upV A s))) L' = mk3 s (upV A s) := by
    intro M m Y z hM hB hm hz hY hY1 hY2 hY3 hY4
    rw [hM]
    obtain ⟨e1, e2⟩ := exp_mk (mk3 s M) m z hm hB
    rw [hY] at e1
    have hp := two_pow_pos (8 * (s - 1))
    rw [e1]
    refine ⟨by omega, ?_, hY2, hY3, e2, fun L' a b => ?_⟩
    · unfold expOk
      rw [e1, decide_eq_true e2, decide_eq_true (by omega), decide_eq_true (by omega)]
      rfl
    · rw [shr_mk Y L' s (size_of (by omega) hY1 (by omega) a b)]
      exact hY4
  have hsc : s = 1 ∨ s = 2 ∨ 3 ≤ s := by omega
  rcases hsc with rfl | rfl | h3s
  · have hup : ∀ Y : Int, upV Y 1 = Y * 65536 := fun Y => by unfold upV; simp
    simp at hlo hhi
    by_cases hb : A * 65536 / 8388608 % 2 = 1
    · refine fin (A * 65536) (A * 256) A 2 (hup A) (by unfold mk3; rw [if_pos hb]; omega) (by omega) (by omega) ?_ (by simpa using hlo) (Int.le_refl _) (by omega) (by rw [hup])
      simp
    · refine fin (A * 65536) (A * 65536) A 1 (hup A) (by unfold mk3; rw [if_neg hb]) (by omega) (by omega) ?_ (by simpa using hlo) (Int.le_refl _) (by omega) (by rw [hup])
      simp
  · have hup : ∀ Y : Int, upV Y 2 = Y * 256 := fun Y => by unfold upV; simp
    simp at hlo hhi
    by_cases hb : A * 256 / 8388608 % 2 = 1
    · refine fin (A * 256) A A 3 (hup A) (by unfold mk3; rw [if_pos hb]; omega) (by omega) (by omega) ?_ (by simpa using hlo) (Int.le_refl _) (by omega) (by rw [hup])
      simp
    · refine fin (A * 256) (A * 256) A 2 (hup A) (by unfold mk3; rw [if_neg hb]) (by omega) (by omega) ?_ (by simpa using hlo) (Int.le_refl _) (by omega) (by rw [hup])
      simp
  · obtain ⟨k, hk⟩ : ∃ k, k + 3 = s := ⟨s - 3, by omega⟩
    have hup : ∀ Y : Int, upV Y s = Y / 2 ^ (8 * k) := fun Y => by
      unfold upV
      rw [show (8 * (3 - (s : Int))).toNat = 0 by omega, show (8 * ((s : Int) - 3)).toNat = 8 * k by omega]
      simp
    have hp := two_pow_pos (8 * k)
    rw [show 8 * (s - 1) = 8 * k + 16 by omega, Int.pow_add] at hlo
    rw [show 8 * s = 8 * k + 24 by omega, Int.pow_add] at hhi
    have hq1 := Int.mul_ediv_add_emod A (2 ^ (8 * k))
    have hq2 := Int.emod_nonneg A (Int.ne_of_gt hp)
    have hq3 := Int.emod_lt_of_pos A hp
    obtain ⟨q, hq⟩ : ∃ q, A / 2 ^ (8 * k) = q := ⟨_, rfl⟩
    obtain ⟨P, hP⟩ : ∃ P : Int, 2 ^ (8 * k) = P := ⟨_, rfl⟩
    rw [hq, hP] at hq1
    rw [hP] at hlo hhi hq2 hq3 hp
    have hqlo : 65536 ≤ q := by
      rw [← hq, hP, Int.le_ediv_iff_mul_le hp]
      rw [Int.mul_comm]
      simpa using hlo
    have hqhi : q < 16777216 := by
      rw [← hq, hP, Int.ediv_lt_iff_lt_mul hp]
      rw [Int.mul_comm]
      simpa using hhi
    have hs1 : (8 * ((s : Int) - 3)).toNat = 8 * k := by omega
    have hs2 : (-(8 * ((s : Int) - 3))).toNat = 0 := by omega
    by_cases hb : q / 8388608 % 2 = 1
    · have hPq : q / 256 * 256 ≤ q ∧ q < q / 256 * 256 + 256 := by omega
      have e1 : P * (q / 256 * 256) ≤ P * q := Int.mul_le_mul_of_nonneg_left hPq.1 (Int.le_of_lt hp)
      have e2 : P * q ≤ P * (q / 256 * 256 + 255) := Int.mul_le_mul_of_nonneg_left (by omega) (Int.le_of_lt hp)
      have e3 : P * 8388608 ≤ P * q := Int.mul_le_mul_of_nonneg_left (by omega) (Int.le_of_lt hp)
      rw [Int.mul_add] at e2
      have e4 : q / 256 * (P * 256) = P * (q / 256 * 256) := by ac_rfl
      have e5 : P * 65536 ≤ P * (q / 256 * 256) := Int.mul_le_mul_of_nonneg_left (by omega) (Int.le_of_lt hp)
      refine fin q (q / 256) (q / 256 * (P * 256)) (s + 1) ((hup A).trans hq) (by unfold mk3; rw [if_pos hb]; simp) (by omega) (by omega) ?_ ?_ ?_ ?_ ?_
      · rw [show (8 * (((s + 1 : Nat) : Int) - 3)).toNat = 8 * k + 8 by omega, show (-(8 * (((s + 1 : Nat) : Int) - 3))).toNat = 0 by omega, Int.pow_add, hP]
        simp
      · rw [show 8 * (s - 1) = 8 * k + 16 by omega, Int.pow_add, hP, e4]
        simpa using e5
      · rw [e4]; omega
      · rw [e4, Int.le_ediv_iff_mul_le (by decide)]
        simp only [Int.reducePow]
        generalize P * (q / 256 * 256) = X at *
        omega
      · rw [hup, hP, e4, Int.mul_ediv_cancel_left _ (Int.ne_of_gt hp)]
        unfold mk3
        rw [if_pos hb, if_pos (by omega)]
        omega
    · have e3 : P * 65536 ≤ P * q := Int.mul_le_mul_of_nonneg_left (by omega) (Int.le_of_lt hp)
      refine fin q q (q * P) s ((hup A).trans hq) (by unfold mk3; rw [if_neg hb]) (by omega) (by omega) ?_ ?_ ?_ ?_ ?_
      · rw [hs1, hs2, hP]
        simp
      · rw [show 8 * (s - 1) = 8 * k + 16 by omega, Int.pow_add, hP, Int.mul_comm q]
        simpa using e3
      · rw [Int.mul_comm q]; omega
      · rw [Int.mul_comm q, Int.le_ediv_iff_mul_le (by decide)]
        simp only [Int.reducePow]
        omega
      · rw [hup, hP, Int.mul_ediv_cancel _ (Int.ne_of_gt hp)]
end Go.Proofs.Ytkjlnloionbdbaa
