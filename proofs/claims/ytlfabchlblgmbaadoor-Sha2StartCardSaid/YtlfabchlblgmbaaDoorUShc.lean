/- Package u256: & 255; the number one. -/
import Derived.Test.YtlfabchlblgmbaaDoorUSh2
namespace Go.Proofs.YtlfabchlblgmbaaDoor
set_option linter.unusedVariables false
set_option linter.unusedSimpArgs false
open Go.RowKit

theorem and255 (n : Int) : ∃ k : Nat, k < 256 ∧ bits .and .i64 n 255 = (k : Int) := by
  have hx : (BitVec.ofInt 64 n).toNat &&& 255 < 256 := Nat.lt_of_le_of_lt Nat.and_le_right (by decide)
  refine ⟨(BitVec.ofInt 64 n).toNat &&& 255, hx, ?_⟩
  show IntKind.i64.wrap ((BitVec.ofInt 64 n &&& BitVec.ofInt 64 255).toNat : Int) = _
  rw [BitVec.toNat_and, show (BitVec.ofInt 64 255).toNat = 255 by decide]
  exact wrap_small _ (by omega) (by omega)
theorem b4_one : B4 1 0 0 0 ∧ N4 1 0 0 0 = 1 := by refine ⟨⟨?_, ?_, ?_, ?_⟩, ?_⟩ <;> simp only [N4, WI] <;> omega
end Go.Proofs.YtlfabchlblgmbaaDoor
