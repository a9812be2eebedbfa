/- The bits of a number that a mask keeps (moved here from CkMay). -/
import Derived.Test.YtfbhpkhpkaeagaaDoorBase
namespace Go.Proofs.YtfbhpkhpkaeagaaDoor
set_option linter.unusedVariables false
set_option linter.unusedSimpArgs false
open Go.RowKit

theorem and_i64 (x : Int) (M : Nat) (hM : M < 9223372036854775808) : 0 ≤ bits .and .i64 x (M : Int) ∧ bits .and .i64 x (M : Int) ≤ (M : Int) := by
  have h2 : (BitVec.ofInt 64 (M : Int)).toNat = M := by
    rw [BitVec.ofInt_natCast, BitVec.toNat_ofNat]; exact Nat.mod_eq_of_lt (by omega)
  have e : bits .and .i64 x (M : Int) = IntKind.i64.wrap ((BitVec.ofInt 64 x &&& BitVec.ofInt 64 (M : Int)).toNat : Int) := rfl
  rw [e, BitVec.toNat_and, h2]
  have h3 : (BitVec.ofInt 64 x).toNat &&& M ≤ M := Nat.and_le_right
  generalize (BitVec.ofInt 64 x).toNat &&& M = y at h3
  rw [IntKind.wrap_i64]
  omega

/-- the bits of 31 -/
theorem and_31 (x : Int) : ∃ n : Nat, bits .and .i64 x 31 = (n : Int) ∧ n ≤ 31 := by
  have h : 0 ≤ bits .and .i64 x 31 ∧ bits .and .i64 x 31 ≤ 31 := and_i64 x 31 (by omega)
  exact ⟨(bits .and .i64 x 31).toNat, by omega, by omega⟩
/-- the bits of 65535 -/
theorem and_64k (x : Int) : ∃ n : Nat, bits .and .i64 x 65535 = (n : Int) ∧ n ≤ 65535 := by
  have h : 0 ≤ bits .and .i64 x 65535 ∧ bits .and .i64 x 65535 ≤ 65535 := and_i64 x 65535 (by omega)
  exact ⟨(bits .and .i64 x 65535).toNat, by omega, by omega⟩
end Go.Proofs.YtfbhpkhpkaeagaaDoor
