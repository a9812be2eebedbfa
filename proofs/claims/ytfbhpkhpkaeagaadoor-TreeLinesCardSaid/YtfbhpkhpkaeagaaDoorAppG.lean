/- AppG: append and what lies beside it: boxes behind an append, where one's own row lies. (hM) -/
import Derived.Test.YtfbhpkhpkaeagaaDoorApp2
import Derived.Test.YtfbhpkhpkaeagaaDoorMem
namespace Go.Proofs.YtfbhpkhpkaeagaaDoor
set_option linter.unusedVariables false
set_option linter.unusedSimpArgs false
open Go.RowKit

section
variable {P : Program} {T E : TypeId} {z : Value} {sz wd : Nat}
theorem wpList_appG (he : Elt P T E z sz wd) (w : World) {ops : Array Oper} {rest : List Oper} {o : Oper} {a : Act} {Q : Exit → Act → World → Prop} (hgd : o.guard = none) (s x : Operand)
    (ho : o.op = .call { callee := .builtin .append, args := #[s, x], argTypes := #[T, T] })
    (B : Nat) (hB : B ≤ w.heap.size) (ao : Option Addr) (n c : Nat) (xs : List Value) (hs : a.eval s = .slice ao n c) (hr : OwnN B E sz w ao n c xs)
    (ax : Option Addr) (m cx : Nat) (ys : List Value) (hx : a.eval x = .slice ax m cx) (hy : Row w ax m cx sz ys) (hm : ao = none → 0 < m) (hb : (n + m) * wd ≤ 140737488355328)
    (h : ∀ g cap w' row, w'.ownsRow B E sz (.slice (some ⟨g, 0, none⟩) (n + m) cap) (n + m) (xs ++ ys) → w.grownBy w' row → (∀ k, row = some k → ao = some ⟨k, 0, none⟩) →
      wpList P ops Q rest (a.put o.dst (.slice (some ⟨g, 0, none⟩) (n + m) cap)) w') : wpList P ops Q (o :: rest) a w := by
  refine wpList_plain hgd fun K hK => ?_
  obtain ⟨g, cap, w', row, hrun, h1, h2, h3⟩ := run_appN he w o.type B hB ao n c xs hr ax m cx ys hy hm hb
  unfold Oper.wp
  simp [execOp, ho, resolve, invoke, builtin, hs, hx, hrun, Result.andThen]
  exact hK _ _ (h g cap w' row h1 h2 h3)
end
theorem Mem.grown {w w' : World} {row : Option Nat} (h : w.grownBy w' row) : ∀ {l : List (Nat × List Value)}, (∀ p ∈ l, ∀ k, row = some k → p.1 ≠ k) → Mem w l → Mem w' l
  | [], _, _ => trivial
  | (b, vs) :: l, hd, hm => ⟨⟨Nat.lt_of_lt_of_le hm.1.1 h.size, fun i => grown_frozen h hm.1.1 (hm.1.2.1 i) (fun k hk => hd (b, vs) (by simp) k hk),
      cellsAt.map (fun i u hu => grown_cell h hu (fun k hk => hd (b, vs) (by simp) k hk)) vs 0 hm.1.2.2⟩, Mem.grown h (fun p hp => hd p (by simp [hp])) hm.2⟩
theorem OwnN.lt {B : Nat} {E : TypeId} {sz : Nat} {w : World} {n c : Nat} {xs : List Value} {k : Nat} (h : OwnN B E sz w (some ⟨k, 0, none⟩) n c xs) : B ≤ k ∧ k < w.heap.size := by
  rcases h with ⟨h, _⟩ | ⟨g, h1, h2⟩
  · cases h
  · cases h1; exact h2.lt k rfl
theorem own_row_lt {B : Nat} {E : TypeId} {sz : Nat} {w : World} {ao : Option Addr} {n c : Nat} {xs : List Value} {row : Option Nat} (h : OwnN B E sz w ao n c xs) (hr : ∀ k, row = some k → ao = some ⟨k, 0, none⟩) : ∀ k, row = some k → B ≤ k ∧ k < w.heap.size := by
  intro k hk
  have e := hr k hk
  subst e
  exact h.lt
end Go.Proofs.YtfbhpkhpkaeagaaDoor
