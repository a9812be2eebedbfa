/- Package u256: Div. -/
import Derived.Test.YtfbhpkhpkaeagaaDoorU8
import Derived.Lib.ItoaNum
namespace Go.Proofs.YtfbhpkhpkaeagaaDoor
set_option linter.unusedVariables false
set_option linter.unusedSimpArgs false
open Go.RowKit

/-- a length holds the number -/
theorem len_holds {a0 a1 a2 a3 : Int} (ha : B4 a0 a1 a2 a3) : ∃ L : Nat, lenN a0 a1 a2 a3 = (L : Int) ∧ L ≤ 256 ∧ N4 a0 a1 a2 a3 < 2 ^ L ∧ (0 < L → 2 ^ (L - 1) ≤ N4 a0 a1 a2 a3) := by
  have key : ∀ x : Int, 0 ≤ x → x < WI → x ≠ 0 → 1 ≤ Lib.bitLen x.toNat ∧ Lib.bitLen x.toNat ≤ 64 ∧ (2 : Int) ^ (Lib.bitLen x.toNat - 1) ≤ x ∧ x < 2 ^ Lib.bitLen x.toNat := by
    intro x h0 h1 h2
    obtain ⟨X, rfl⟩ := Int.eq_ofNat_of_zero_le h0
    have := Lib.bitLenAux_bounds 64 X (by unfold WI at h1; omega) (by omega)
    have h3 := bitLen64 (X : Int) ⟨h0, h1⟩
    simp only [Int.toNat_natCast] at *
    unfold Lib.bitLen at *
    refine ⟨this.1, by omega, ?_, ?_⟩
    · have h4 := this.2.1
      have : (((2 ^ (Lib.bitLenAux 64 X - 1) : Nat)) : Int) ≤ (X : Int) := by exact_mod_cast h4
      simpa using this
    · have h4 := this.2.2
      have : (X : Int) < ((2 ^ Lib.bitLenAux 64 X : Nat) : Int) := by exact_mod_cast h4
      simpa using this
  have step : ∀ (x lo U : Int) (e m : Nat), (2 : Int) ^ e = U → 0 ≤ lo → lo < U → 1 ≤ m → (2 : Int) ^ (m - 1) ≤ x → x < 2 ^ m → lo + U * x < 2 ^ (e + m) ∧ (2 : Int) ^ (e + m - 1) ≤ lo + U * x := by
    intro x lo U e m hU h0 h1 hm h2 h3
    have hp : 0 < U := by rw [← hU]; exact two_pow_pos e
    rw [Int.pow_add, hU, show e + m - 1 = e + (m - 1) by omega, Int.pow_add, hU]
    have h5 := Int.mul_le_mul_of_nonneg_left (show x + 1 ≤ 2 ^ m by omega) (Int.le_of_lt hp)
    have h6 := Int.mul_le_mul_of_nonneg_left h2 (Int.le_of_lt hp)
    rw [Int.mul_add] at h5
    omega
  obtain ⟨h0, h1, h2, h3⟩ := ha
  unfold lenN
  by_cases z3 : a3 ≠ 0
  · obtain ⟨k1, k2, k3, k4⟩ := key a3 h3.1 h3.2 z3
    have := step a3 (a0 + WI * (a1 + WI * a2)) (WI * WI * WI) 192 (Lib.bitLen a3.toNat) (by decide) (by unfold WI at *; omega) (by unfold WI at *; omega) k1 k3 k4
    rw [show a0 + WI * (a1 + WI * a2) + WI * WI * WI * a3 = N4 a0 a1 a2 a3 by unfold N4 WI; omega] at this
    exact ⟨192 + Lib.bitLen a3.toNat, by rw [if_pos z3]; omega, by omega, this.1, fun _ => this.2⟩
  · by_cases z2 : a2 ≠ 0
    · obtain ⟨k1, k2, k3, k4⟩ := key a2 h2.1 h2.2 z2
      have := step a2 (a0 + WI * a1) (WI * WI) 128 (Lib.bitLen a2.toNat) (by decide) (by unfold WI at *; omega) (by unfold WI at *; omega) k1 k3 k4
      rw [show a0 + WI * a1 + WI * WI * a2 = N4 a0 a1 a2 a3 by unfold N4 WI; omega] at this
      exact ⟨128 + Lib.bitLen a2.toNat, by rw [if_neg z3, if_pos z2]; omega, by omega, this.1, fun _ => this.2⟩
    · by_cases z1 : a1 ≠ 0
      · obtain ⟨k1, k2, k3, k4⟩ := key a1 h1.1 h1.2 z1
        have := step a1 a0 WI 64 (Lib.bitLen a1.toNat) (by decide) (by unfold WI at *; omega) (by unfold WI at *; omega) k1 k3 k4
        rw [show a0 + WI * a1 = N4 a0 a1 a2 a3 by unfold N4 WI; omega] at this
        exact ⟨64 + Lib.bitLen a1.toNat, by rw [if_neg z3, if_neg z2, if_pos z1]; omega, by omega, this.1, fun _ => this.2⟩
      · by_cases z0 : a0 ≠ 0
        · obtain ⟨k1, k2, k3, k4⟩ := key a0 h0.1 h0.2 z0
          have e : N4 a0 a1 a2 a3 = a0 := by unfold N4 WI; omega
          rw [e]
          exact ⟨Lib.bitLen a0.toNat, by rw [if_neg z3, if_neg z2, if_neg z1, if_pos z0], by omega, k4, fun _ => k3⟩
        · have e : N4 a0 a1 a2 a3 = 0 := by unfold N4 WI; omega
          rw [e]
          exact ⟨0, by rw [if_neg z3, if_neg z2, if_neg z1, if_neg z0]; rfl, by omega, by decide, fun h => by omega⟩

theorem or_digit (t m : Int) (r : Nat) (hr : r < 64) (ht : t = 2 ^ (r + 1) * m) (hb : 0 ≤ t ∧ t < WI) : bits .or .u64 t (IntKind.u64.wrap (2 ^ r)) = t + 2 ^ r ∧ t + 2 ^ r < WI := by
  have hp := two_pow_pos r
  obtain ⟨e, he⟩ : ∃ e, 64 = r + 1 + e := ⟨63 - r, by omega⟩
  have hW : WI = 2 ^ (r + 1) * 2 ^ e := by rw [WI_eq, show (18446744073709551616 : Int) = 2 ^ 64 by decide, ← Int.pow_add, ← he]
  have h2 : (2 : Int) ^ (r + 1) = 2 * 2 ^ r := by rw [Int.pow_succ, Int.mul_comm]
  have hm : m + 1 ≤ 2 ^ e := by
    have := hb.2
    rw [ht, hW] at this
    have := Int.lt_of_mul_lt_mul_left this (Int.le_of_lt (two_pow_pos (r + 1)))
    omega
  have hup : t + 2 ^ (r + 1) ≤ WI := by
    have := Int.mul_le_mul_of_nonneg_left hm (Int.le_of_lt (two_pow_pos (r + 1)))
    rw [Int.mul_add, Int.mul_one, ← ht, ← hW] at this
    exact this
  have hlt : t + 2 ^ r < WI := by omega
  have hw : IntKind.u64.wrap (2 ^ r) = 2 ^ r := by
    have e1 : IntKind.u64.wrap (2 ^ r) = 2 ^ r % 18446744073709551616 := by rfl
    rw [e1]
    exact Int.emod_eq_of_lt (Int.le_of_lt hp) (by have := hb.1; unfold WI at hlt; omega)
  refine ⟨?_, hlt⟩
  rw [hw, ht]
  exact or_add m (r + 1) (2 ^ r) ⟨Int.le_of_lt hp, by omega⟩ (by rw [← ht]; exact hb) (by omega)

/-- long division, one digit on -/
theorem div_num (A b l bit : Int) (hb : 0 < b) (hbit : A % 2 = bit) (hl : l = A / 2 % b) :
    (2 * l + bit < b → A / b = 2 * (A / 2 / b) ∧ A % b = 2 * l + bit) ∧ (b ≤ 2 * l + bit → A / b = 2 * (A / 2 / b) + 1 ∧ A % b = 2 * l + bit - b) := by
  have h1 := Int.mul_ediv_add_emod (A / 2) b
  have hl0 := Int.emod_nonneg (A / 2) (Int.ne_of_gt hb)
  have hl1 := Int.emod_lt_of_pos (A / 2) hb
  rw [← hl] at h1 hl0 hl1
  generalize A / 2 / b = Q at *
  constructor
  · intro h
    refine (Int.ediv_emod_unique hb).2 ⟨?_, by omega, h⟩
    rw [show b * (2 * Q) = 2 * (b * Q) by ac_rfl]
    omega
  · intro h
    refine (Int.ediv_emod_unique hb).2 ⟨?_, by omega, by omega⟩
    rw [Int.mul_add, show b * (2 * Q) = 2 * (b * Q) by ac_rfl]
    omega

theorem pow_split (k q r : Nat) (h : k = 64 * q + r) : (2 : Int) ^ k = 2 ^ (64 * q) * 2 ^ r := by rw [h, Int.pow_add]
theorem n4_dig0 (t0 t1 t2 t3 P : Int) : N4 (t0 + P) t1 t2 t3 = N4 t0 t1 t2 t3 + P := by unfold N4; omega
theorem n4_dig1 (t0 t1 t2 t3 P : Int) : N4 t0 (t1 + P) t2 t3 = N4 t0 t1 t2 t3 + WI * P := by unfold N4 WI; omega
theorem n4_dig2 (t0 t1 t2 t3 P : Int) : N4 t0 t1 (t2 + P) t3 = N4 t0 t1 t2 t3 + WI * WI * P := by unfold N4 WI; omega
theorem n4_dig3 (t0 t1 t2 t3 P : Int) : N4 t0 t1 t2 (t3 + P) = N4 t0 t1 t2 t3 + WI * WI * WI * P := by unfold N4 WI; omega
end Go.Proofs.YtfbhpkhpkaeagaaDoor
