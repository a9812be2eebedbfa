/- Package u256: Div, the numbers. -/
import Derived.Test.YtfbhpkhpkaeagaaDoorU7
namespace Go.Proofs.YtfbhpkhpkaeagaaDoor
set_option linter.unusedVariables false
set_option linter.unusedSimpArgs false
open Go.RowKit

/-- parts by their number, and the value without the lower ones -/
theorem limb_split {a0 a1 a2 a3 : Int} (ha : B4 a0 a1 a2 a3) (q : Nat) (hq : q < 4) : ∃ rest : Int, 0 ≤ rest ∧ N4 a0 a1 a2 a3 / 2 ^ (64 * q) = limbN a0 a1 a2 a3 q + WI * rest := by
  obtain ⟨h0, h1, h2, h3⟩ := ha
  have : q = 0 ∨ q = 1 ∨ q = 2 ∨ q = 3 := by omega
  rcases this with rfl | rfl | rfl | rfl
  · exact ⟨a1 + WI * (a2 + WI * a3), by unfold WI at *; omega, by simp [limbN, N4]⟩
  · exact ⟨a2 + WI * a3, by unfold WI at *; omega, by
      rw [show (2 : Int) ^ (64 * 1) = WI by decide]
      simp only [limbN]
      unfold N4 WI at *
      omega⟩
  · exact ⟨a3, by unfold WI at *; omega, by
      rw [show (2 : Int) ^ (64 * 2) = WI * WI by decide]
      simp only [limbN]
      unfold N4 WI at *
      omega⟩
  · exact ⟨0, by omega, by
      rw [show (2 : Int) ^ (64 * 3) = WI * WI * WI by decide]
      simp only [limbN]
      unfold N4 WI at *
      omega⟩

theorem limb_b {a0 a1 a2 a3 : Int} (ha : B4 a0 a1 a2 a3) (q : Nat) : 0 ≤ limbN a0 a1 a2 a3 q ∧ limbN a0 a1 a2 a3 q < WI :=
  limb_le ⟨ha.h0.1, ha.h0.2, ha.h1.1, ha.h1.2, ha.h2.1, ha.h2.2, ha.h3.1, ha.h3.2⟩ q

theorem two_pow_pos (k : Nat) : (0 : Int) < 2 ^ k := Int.pow_pos (by decide)

/-- the digit of two at k -/
theorem bit_of {a0 a1 a2 a3 : Int} (ha : B4 a0 a1 a2 a3) (k : Nat) (hk : k < 256) : N4 a0 a1 a2 a3 / 2 ^ k % 2 = limbN a0 a1 a2 a3 (k / 64) / 2 ^ (k % 64) % 2 := by
  obtain ⟨rest, hr, he⟩ := limb_split ha (k / 64) (by omega)
  have hk2 : k = 64 * (k / 64) + k % 64 := by omega
  have e1 : (2 : Int) ^ k = 2 ^ (64 * (k / 64)) * 2 ^ (k % 64) := by rw [← Int.pow_add, ← hk2]
  rw [e1, ← Int.ediv_ediv_of_nonneg (Int.le_of_lt (two_pow_pos _)), he]
  obtain ⟨m, hm⟩ : ∃ m, 64 = k % 64 + 1 + m := ⟨63 - k % 64, by omega⟩
  have e2 : WI = 2 ^ (k % 64) * (2 * 2 ^ m) := by
    rw [WI_eq, show (18446744073709551616 : Int) = 2 ^ 64 by decide]
    rw [← Int.pow_succ', ← Int.pow_add]
    congr 1
    omega
  rw [e2]
  have e3 : limbN a0 a1 a2 a3 (k / 64) + 2 ^ (k % 64) * (2 * 2 ^ m) * rest = limbN a0 a1 a2 a3 (k / 64) + 2 ^ (k % 64) * (2 * (2 ^ m * rest)) := by
    simp only [Int.mul_assoc]
  rw [e3, Int.add_mul_ediv_left _ _ (Int.ne_of_gt (two_pow_pos _))]
  omega

/-- what stands at and above a digit, when the digits up to it are 0 -/
theorem limb_even {t0 t1 t2 t3 : Int} (ht : B4 t0 t1 t2 t3) (k : Nat) (hk : k < 256) (M : Int) (he : N4 t0 t1 t2 t3 = M * 2 ^ (k + 1)) : ∃ m, limbN t0 t1 t2 t3 (k / 64) = 2 ^ (k % 64 + 1) * m := by
  obtain ⟨rest, hr, h2⟩ := limb_split ht (k / 64) (by omega)
  obtain ⟨m, hm⟩ : ∃ m, 64 = k % 64 + 1 + m := ⟨63 - k % 64, by omega⟩
  have e2 : WI = 2 ^ (k % 64 + 1) * 2 ^ m := by
    rw [WI_eq, show (18446744073709551616 : Int) = 2 ^ 64 by decide, ← Int.pow_add]
    congr 1
  have e1 : (2 : Int) ^ (k + 1) = 2 ^ (64 * (k / 64)) * 2 ^ (k % 64 + 1) := by
    rw [← Int.pow_add]
    congr 1
    omega
  rw [he, e1, show M * (2 ^ (64 * (k / 64)) * 2 ^ (k % 64 + 1)) = 2 ^ (64 * (k / 64)) * (M * 2 ^ (k % 64 + 1)) by ac_rfl, Int.mul_ediv_cancel_left _ (Int.ne_of_gt (two_pow_pos _)), e2] at h2
  refine ⟨M - 2 ^ m * rest, ?_⟩
  rw [Int.mul_sub]
  have e4 : 2 ^ (k % 64 + 1) * (2 ^ m * rest) = 2 ^ (k % 64 + 1) * 2 ^ m * rest := by simp only [Int.mul_assoc]
  rw [e4, Int.mul_comm (2 ^ (k % 64 + 1)) M]
  omega

theorem or_add (m : Int) (r : Nat) (b : Int) (hb : 0 ≤ b ∧ b < 2 ^ r) (hm : 0 ≤ 2 ^ r * m ∧ 2 ^ r * m < WI) (hr : r ≤ 64) : bits .or .u64 (2 ^ r * m) b = 2 ^ r * m + b := by
  have hm0 : 0 ≤ m := by
    rcases Int.lt_or_le m 0 with h | h
    · have := Int.mul_neg_of_pos_of_neg (two_pow_pos r) h
      omega
    · exact h
  obtain ⟨Mn, rfl⟩ := Int.eq_ofNat_of_zero_le hm0
  obtain ⟨Bn, rfl⟩ := Int.eq_ofNat_of_zero_le hb.1
  have e : (2 : Int) ^ r * (Mn : Int) = ((2 ^ r * Mn : Nat) : Int) := by simp
  have hB : Bn < 2 ^ r := by have h2 := hb.2; have e2 : (2 : Int) ^ r = ((2 ^ r : Nat) : Int) := by simp
                             rw [e2] at h2; omega
  have h64 : 2 ^ r ≤ 2 ^ 64 := Nat.pow_le_pow_right (by decide) hr
  rw [e] at hm ⊢
  rw [u64_or_nat (2 ^ r * Mn) Bn (by unfold WI at hm; omega) (by omega), ← Nat.two_pow_add_eq_or_of_lt hB]
  simp

theorem and_one (x : Int) (h : 0 ≤ x ∧ x < WI) : bits .and .u64 x 1 = x % 2 := by
  obtain ⟨X, rfl⟩ := Int.eq_ofNat_of_zero_le h.1
  have e := u64_and_nat X 1 (by unfold WI at h; omega) (by decide)
  have e2 : X &&& 1 = X % 2 := Nat.and_two_pow_sub_one_eq_mod X 1
  rw [e2] at e
  exact e
end Go.Proofs.YtfbhpkhpkaeagaaDoor
