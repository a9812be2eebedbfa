/- Package u256: numbers moved up and down. -/
import Derived.Test.YtlfabchlblgmbaaDoorUDiv0
namespace Go.Proofs.YtlfabchlblgmbaaDoor
set_option linter.unusedVariables false
set_option linter.unusedSimpArgs false
open Go.RowKit

/-- a part moved up: what stays, a multiple of the power, and what goes on, below it -/
theorem part_up (x : Int) (r e : Nat) (hx : 0 ≤ x ∧ x < WI) (he : r + e = 64) :
    ∃ m : Int, x * 2 ^ r % WI = 2 ^ r * m ∧ 0 ≤ m ∧ 2 ^ r * m + 2 ^ r ≤ WI ∧ 0 ≤ x / 2 ^ e ∧ x / 2 ^ e < 2 ^ r ∧ x * 2 ^ r = 2 ^ r * m + WI * (x / 2 ^ e) := by
  have hp := two_pow_pos r
  have hs := two_pow_pos e
  have hW : WI = 2 ^ r * 2 ^ e := by rw [← Int.pow_add, he]; rfl
  have h1 := Int.mul_ediv_add_emod x (2 ^ e)
  have h2 := Int.emod_nonneg x (Int.ne_of_gt hs)
  have h3 := Int.emod_lt_of_pos x hs
  have h4 : x * 2 ^ r = 2 ^ r * (x % 2 ^ e) + WI * (x / 2 ^ e) := by
    rw [hW, show 2 ^ r * 2 ^ e * (x / 2 ^ e) = 2 ^ r * (2 ^ e * (x / 2 ^ e)) by ac_rfl, ← Int.mul_add, Int.mul_comm x]
    congr 1
    omega
  have h5 : 2 ^ r * (x % 2 ^ e) + 2 ^ r ≤ WI := by
    have := Int.mul_le_mul_of_nonneg_left (show x % 2 ^ e + 1 ≤ 2 ^ e by omega) (Int.le_of_lt hp)
    rw [Int.mul_add, Int.mul_one, ← hW] at this
    exact this
  have h6 : 0 ≤ 2 ^ r * (x % 2 ^ e) := Int.mul_nonneg (Int.le_of_lt hp) h2
  refine ⟨x % 2 ^ e, ?_, h2, h5, Int.ediv_nonneg hx.1 (Int.le_of_lt hs), ?_, h4⟩
  · rw [h4, Int.add_mul_emod_self_left]
    exact Int.emod_eq_of_lt h6 (by omega)
  · rw [Int.ediv_lt_iff_lt_mul hs, ← hW]
    exact hx.2

theorem up0 (a0 a1 a2 a3 p l0 l1 l2 l3 g0 g1 g2 g3 : Int) (e0 : a0 * p = l0 + WI * g0) (e1 : a1 * p = l1 + WI * g1) (e2 : a2 * p = l2 + WI * g2) (e3 : a3 * p = l3 + WI * g3) :
    N4 a0 a1 a2 a3 * p = N4 l0 (l1 + g0) (l2 + g1) (l3 + g2) + WW * g3 ∧ N4 a0 a1 a2 a3 * (WI * p) = N4 0 l0 (l1 + g0) (l2 + g1) + WW * (l3 + g2 + WI * g3) ∧
    N4 a0 a1 a2 a3 * (WI * WI * p) = N4 0 0 l0 (l1 + g0) + WW * (l2 + g1 + WI * (l3 + g2 + WI * g3)) ∧ N4 a0 a1 a2 a3 * (WI * WI * WI * p) = N4 0 0 0 l0 + WW * (l1 + g0 + WI * (l2 + g1 + WI * (l3 + g2 + WI * g3))) := by
  have x : N4 a0 a1 a2 a3 * p = a0 * p + WI * (a1 * p + WI * (a2 * p + WI * (a3 * p))) := by unfold N4; simp only [Int.add_mul, Int.mul_assoc]
  have x1 : ∀ Q : Int, N4 a0 a1 a2 a3 * (Q * p) = Q * (N4 a0 a1 a2 a3 * p) := fun Q => by ac_rfl
  have y : N4 a0 a1 a2 a3 * p = N4 l0 (l1 + g0) (l2 + g1) (l3 + g2) + WW * g3 := by
    rw [x, e0, e1, e2, e3]; unfold N4 WW WI; omega
  refine ⟨y, ?_, ?_, ?_⟩ <;> rw [x1, y] <;> unfold N4 WW WI <;> omega

/-- a part moved down -/
theorem part_down (x : Int) (r e : Nat) (hx : 0 ≤ x ∧ x < WI) (he : r + e = 64) :
    ∃ m : Int, x * 2 ^ e % WI = 2 ^ e * m ∧ 0 ≤ m ∧ 2 ^ e * m + 2 ^ e ≤ WI ∧ 0 ≤ x / 2 ^ r ∧ x / 2 ^ r < 2 ^ e ∧ x * 2 ^ e = 2 ^ e * m + WI * (x / 2 ^ r) := part_up x e r hx (by omega)

theorem down0 (a0 a1 a2 a3 : Int) (r e : Nat) (he : r + e = 64) (l0 l1 l2 l3 g0 g1 g2 g3 : Int) (b0 : 0 ≤ l0) (c0 : l0 < WI) (e0 : a0 * 2 ^ e = l0 + WI * g0) (e1 : a1 * 2 ^ e = l1 + WI * g1) (e2 : a2 * 2 ^ e = l2 + WI * g2) (e3 : a3 * 2 ^ e = l3 + WI * g3)
    : N4 a0 a1 a2 a3 / 2 ^ r = N4 (g0 + l1) (g1 + l2) (g2 + l3) g3 := by
  have hp := two_pow_pos r
  have hs := two_pow_pos e
  have hW : WI = 2 ^ r * 2 ^ e := by rw [← Int.pow_add, he]; rfl
  have x : N4 a0 a1 a2 a3 * 2 ^ e = a0 * 2 ^ e + WI * (a1 * 2 ^ e + WI * (a2 * 2 ^ e + WI * (a3 * 2 ^ e))) := by unfold N4; simp only [Int.add_mul, Int.mul_assoc]
  have y : N4 a0 a1 a2 a3 * 2 ^ e = l0 + WI * N4 (g0 + l1) (g1 + l2) (g2 + l3) g3 := by
    rw [x, e0, e1, e2, e3]; unfold N4 WI; omega
  have z : N4 a0 a1 a2 a3 * 2 ^ e / (2 ^ r * 2 ^ e) = N4 a0 a1 a2 a3 / 2 ^ r := Int.mul_ediv_mul_of_pos_left _ _ hs
  rw [← z, y, ← hW, Int.add_mul_ediv_left _ _ (by unfold WI; decide), Int.ediv_eq_zero_of_lt b0 c0]
  omega
theorem down_next (a0 a1 a2 a3 : Int) (h0 : 0 ≤ a0 ∧ a0 < WI) : N4 a0 a1 a2 a3 / WI = N4 a1 a2 a3 0 := by
  unfold N4 WI at *; omega

theorem or_swap (x y : Int) (hx : 0 ≤ x ∧ x < WI) (hy : 0 ≤ y ∧ y < WI) : bits .or .u64 x y = bits .or .u64 y x := by
  obtain ⟨X, rfl⟩ := Int.eq_ofNat_of_zero_le hx.1
  obtain ⟨Y, rfl⟩ := Int.eq_ofNat_of_zero_le hy.1
  rw [u64_or_nat X Y (by unfold WI at hx; omega) (by unfold WI at hy; omega), u64_or_nat Y X (by unfold WI at hy; omega) (by unfold WI at hx; omega), Nat.or_comm]

/-- what Shl makes of two parts -/
theorem sh_up (x : Int) (r e : Nat) (hx : 0 ≤ x ∧ x < WI) (he : r + e = 64) :
    ∃ lo hi : Int, IntKind.u64.wrap (x * 2 ^ r) = lo ∧ x / 2 ^ e = hi ∧ x * 2 ^ r = lo + WI * hi ∧ (0 ≤ lo ∧ lo + 2 ^ r ≤ WI) ∧ (0 ≤ hi ∧ hi < 2 ^ r) ∧ (∀ y, 0 ≤ y ∧ y < 2 ^ r → bits .or .u64 lo y = lo + y ∧ bits .or .u64 y lo = lo + y) := by
  obtain ⟨m, h1, h2, h3, h4, h5, h6⟩ := part_up x r e hx he
  have hp := two_pow_pos r
  have h0 : 0 ≤ 2 ^ r * m := Int.mul_nonneg (Int.le_of_lt hp) h2
  refine ⟨2 ^ r * m, x / 2 ^ e, ?_, rfl, h6, ⟨h0, h3⟩, ⟨h4, h5⟩, fun y hy => ?_⟩
  · rw [← h1]; rfl
  · have h := or_add m r y hy ⟨h0, by omega⟩ (by omega)
    exact ⟨h, by rw [or_swap y _ (by omega) (by omega)]; exact h⟩
end Go.Proofs.YtlfabchlblgmbaaDoor
