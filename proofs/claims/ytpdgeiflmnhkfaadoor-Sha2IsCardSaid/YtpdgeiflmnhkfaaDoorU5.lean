/- The statements' beginning: awake; ours and theirs. -/
import Derived.Test.YtpdgeiflmnhkfaaDoorU4
namespace Go.Proofs.YtpdgeiflmnhkfaaDoor
set_option linter.unusedVariables false
set_option linter.unusedSimpArgs false
open Go.RowKit

theorem n4_inj {a0 a1 a2 a3 b0 b1 b2 b3 : Int} (ha0 : 0 ≤ a0 ∧ a0 < WI) (ha1 : 0 ≤ a1 ∧ a1 < WI) (ha2 : 0 ≤ a2 ∧ a2 < WI) (ha3 : 0 ≤ a3 ∧ a3 < WI)
    (hb0 : 0 ≤ b0 ∧ b0 < WI) (hb1 : 0 ≤ b1 ∧ b1 < WI) (hb2 : 0 ≤ b2 ∧ b2 < WI) (hb3 : 0 ≤ b3 ∧ b3 < WI) (h : N4 a0 a1 a2 a3 = N4 b0 b1 b2 b3) : a0 = b0 ∧ a1 = b1 ∧ a2 = b2 ∧ a3 = b3 := by
  unfold N4 WI at *
  omega

/-- == on the numbers' type -/
theorem eq_parts (a0 a1 a2 a3 b0 b1 b2 b3 : Int) (w : World) :
    (binOp .eql 49 (.agg #[.int .u64 a0, .int .u64 a1, .int .u64 a2, .int .u64 a3]) (.agg #[.int .u64 b0, .int .u64 b1, .int .u64 b2, .int .u64 b3])).run Tryd.prog w = .ok (.bool ([a0, a1, a2, a3] == [b0, b1, b2, b3])) w :=
  eqlArr Tryd.prog 4 49 25 .u64 Tryd.underlying49 Tryd.underlying25 (by kernel_rfl) [a0, a1, a2, a3] [b0, b1, b2, b3] rfl rfl w

end Go.Proofs.YtpdgeiflmnhkfaaDoor
