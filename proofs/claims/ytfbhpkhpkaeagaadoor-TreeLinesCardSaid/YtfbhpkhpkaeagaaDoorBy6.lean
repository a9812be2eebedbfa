/- Package hash: FromNumber (made by gen_by7.py). (hM) -/
import Derived.Test.YtfbhpkhpkaeagaaDoorBy5
namespace Go.Proofs.YtfbhpkhpkaeagaaDoor
set_option linter.unusedVariables false
set_option linter.unusedSimpArgs false
open Go.RowKit

/-- a number's bytes told are the number -/
theorem acc_bytes (N : Int) (hN : 0 ≤ N) : ∀ j, j ≤ 32 → accV (fun k => byteN N (31 - k)) 32 j = N % 256 ^ j
  | 0, _ => by simp [accV, Int.emod_one]
  | j + 1, h => by
    have ih := acc_bytes N hN j (by omega)
    have hp : (0 : Int) < 256 ^ j := Int.pow_pos (by decide)
    unfold accV
    rw [ih]
    show N % 256 ^ j + byteN N (31 - (32 - 1 - j)) * 256 ^ j = N % 256 ^ (j + 1)
    rw [show 31 - (32 - 1 - j) = j by omega]
    unfold byteN
    rw [Int.pow_succ]
    obtain ⟨P, hP⟩ : ∃ P : Int, 256 ^ j = P := ⟨_, rfl⟩
    rw [hP] at hp ⊢
    obtain ⟨A, rfl⟩ := Int.eq_ofNat_of_zero_le hN
    obtain ⟨B, rfl⟩ := Int.eq_ofNat_of_zero_le (Int.le_of_lt hp)
    have e1 : A % (B * 256) = A % B + A / B % 256 * B := by rw [Nat.mod_mul, Nat.mul_comm B]
    have e2 := congrArg (fun n : Nat => (n : Int)) e1
    simp only [Int.natCast_add, Int.natCast_mul, Int.natCast_emod, Int.natCast_ediv] at e2
    exact e2.symm
theorem hash_bytes (N : Int) (hN : 0 ≤ N ∧ N < WW) : hashN (byteN N) = N := by
  unfold hashN
  have h := acc_bytes N hN.1 32 (by omega)
  rw [show (256 : Int) ^ 32 = WW by decide, Int.emod_eq_of_lt hN.1 hN.2] at h
  exact h
theorem byteN_b (N : Int) (i : Nat) : 0 ≤ byteN N i ∧ byteN N i < 256 := ⟨Int.emod_nonneg _ (by decide), Int.emod_lt_of_pos _ (by decide)⟩

end Go.Proofs.YtfbhpkhpkaeagaaDoor
