/- At: quick looks at the operation that a walk has come to (with_reducible refine (at_store 4 ?_)): an arm that does not fit is passed over at once. -/
import Derived.Test.YtfbhpkhpkaeagaaDoorUnd
namespace Go.Proofs.YtfbhpkhpkaeagaaDoor
set_option linter.unusedVariables false
set_option linter.unusedSimpArgs false
open Go.RowKit
section
variable {P : Program} {ops : Array Oper} {rest : List Oper} {a : Act} {w : World} {Q : Exit → Act → World → Prop} {d : Option Tmp} {T t n : Nat} {y : Operand} {p : String} {af : Array Edge} {g : Option (Nat × Bool)} {xs : Array (Nat × Operand)}
theorem at_store (k : Nat) (h : wpList P ops Q (⟨d, .store T (.tmp k) y, t, p, af, g⟩ :: rest) a w) : wpList P ops Q (⟨d, .store T (.tmp k) y, t, p, af, g⟩ :: rest) a w := h
theorem at_load (k : Nat) (h : wpList P ops Q (⟨d, .load T (.tmp k), t, p, af, g⟩ :: rest) a w) : wpList P ops Q (⟨d, .load T (.tmp k), t, p, af, g⟩ :: rest) a w := h
theorem at_bslice (h : wpList P ops Q (⟨d, .buildSlice T n xs, t, p, af, g⟩ :: rest) a w) : wpList P ops Q (⟨d, .buildSlice T n xs, t, p, af, g⟩ :: rest) a w := h
theorem at_app {x : Operand} {T2 : TypeId} (k : Nat) (h : wpList P ops Q (⟨d, .call { callee := .builtin .append, args := #[.tmp k, x], argTypes := #[T, T2] }, t, p, af, g⟩ :: rest) a w) : wpList P ops Q (⟨d, .call { callee := .builtin .append, args := #[.tmp k, x], argTypes := #[T, T2] }, t, p, af, g⟩ :: rest) a w := h
theorem at_build (h : wpList P ops Q (⟨d, .build T xs, t, p, af, g⟩ :: rest) a w) : wpList P ops Q (⟨d, .build T xs, t, p, af, g⟩ :: rest) a w := h
end
end Go.Proofs.YtfbhpkhpkaeagaaDoor
