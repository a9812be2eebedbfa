/- A drawn region: an operation that yields, taken as it stands in the plan. -/
import Derived.Test.YtfbhpkhpkaeagaaDoorUnd
import Derived.Deep.MidRow
namespace Go.Proofs.YtfbhpkhpkaeagaaDoor
set_option linter.unusedVariables false
set_option linter.unusedSimpArgs false
open Go.RowKit

theorem wpT_yield {P : Program} {ops : List Oper} {Q : Exit → Act → World → Prop} {S : World → Prop} {bad rest : List Nat} {a : Act} {w : World} {i : Nat} {o : Oper} {v : Value} (ho : ops[i]? = some o) (hb : bad.contains i = false) (hy : YieldsIf P ops.toArray S o v a) (hS : S w)
    (h : wpT P ops.toArray Q bad rest S (a.put o.dst v) w) : wpT P ops.toArray Q bad (i :: rest) S a w := by
  unfold wpT
  rw [if_neg (by rw [hb]; decide)]
  exact ⟨o, v, by simpa using ho, hy, hS, h⟩
end Go.Proofs.YtfbhpkhpkaeagaaDoor
