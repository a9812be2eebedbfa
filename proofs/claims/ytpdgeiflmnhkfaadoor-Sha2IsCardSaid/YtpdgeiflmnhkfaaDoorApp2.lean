/- App2: append as one step of a region that draws its order. -/
import Derived.Test.YtpdgeiflmnhkfaaDoorApp
namespace Go.Proofs.YtpdgeiflmnhkfaaDoor
set_option linter.unusedVariables false
set_option linter.unusedSimpArgs false
open Go.RowKit

section
variable {P : Program} {T E : TypeId} {z : Value} {sz wd : Nat}
theorem run_appN (he : Elt P T E z sz wd) (w : World) (ty : TypeId) (B : Nat) (hB : B ≤ w.heap.size) (ao : Option Addr) (n c : Nat) (xs : List Value) (hr : OwnN B E sz w ao n c xs)
    (ax : Option Addr) (m cx : Nat) (ys : List Value) (hy : Row w ax m cx sz ys) (hm : ao = none → 0 < m) (hb : (n + m) * wd ≤ 140737488355328) :
    ∃ g cap w' row, (Builtin.append_ #[T, T] ty #[.slice ao n c, .slice ax m cx]).run P w = .ok (.slice (some ⟨g, 0, none⟩) (n + m) cap) w' ∧
      w'.ownsRow B E sz (.slice (some ⟨g, 0, none⟩) (n + m) cap) (n + m) (xs ++ ys) ∧ w.grownBy w' row ∧ (∀ k, row = some k → ao = some ⟨k, 0, none⟩) := by
  rcases hr with ⟨rfl, rfl, rfl, rfl⟩ | ⟨g, rfl, hr⟩
  · have hm' := hm rfl
    obtain ⟨g, cap, w', h1, h2, h3, _⟩ := run_appF he w ty none 0 0 [] (row_nil w sz) ax m cx ys hy (by omega) hb
    exact ⟨g, cap, w', none, h1, ownsRow_base h2 hB, h3, fun k h => by cases h⟩
  · obtain ⟨g', cap, w', h1, h2, h3, _⟩ := run_appO he w ty B g n c xs hr ax m cx ys hy hb hB
    exact ⟨g', cap, w', some g, h1, h2, h3, fun k h => by cases h; rfl⟩

theorem step_appN (he : Elt P T E z sz wd) (w : World) {ops : Array Oper} {o : Oper} {a : Act} {K : Act → World → Prop} {Q : Exit → Act → World → Prop} {E' : Prop} (hgd : o.guard = none) (s x : Operand)
    (ho : o.op = .call { callee := .builtin .append, args := #[s, x], argTypes := #[T, T] })
    (B : Nat) (hB : B ≤ w.heap.size) (ao : Option Addr) (n c : Nat) (xs : List Value) (hs : a.eval s = .slice ao n c) (hr : OwnN B E sz w ao n c xs)
    (ax : Option Addr) (m cx : Nat) (ys : List Value) (hx : a.eval x = .slice ax m cx) (hy : Row w ax m cx sz ys) (hm : ao = none → 0 < m) (hb : (n + m) * wd ≤ 140737488355328)
    (h : ∀ g cap w' row, w'.ownsRow B E sz (.slice (some ⟨g, 0, none⟩) (n + m) cap) (n + m) (xs ++ ys) → w.grownBy w' row → (∀ k, row = some k → ao = some ⟨k, 0, none⟩) → K (a.put o.dst (.slice (some ⟨g, 0, none⟩) (n + m) cap)) w') :
    if Region.wanted o (yielded ops a.tmps) = true then Oper.wp P o a w K Q else E' := by
  have hw : Region.wanted o (yielded ops a.tmps) = true := by simp [Region.wanted, hgd]
  rw [if_pos hw]
  obtain ⟨g, cap, w', row, hrun, h1, h2, h3⟩ := run_appN he w o.type B hB ao n c xs hr ax m cx ys hy hm hb
  unfold Oper.wp
  simp [execOp, ho, resolve, invoke, builtin, hs, hx, hrun, Result.andThen]
  exact h g cap w' row h1 h2 h3
end
/-- what lies in a block that is neither new nor the row's, is as it was -/
theorem grown_cell {w w' : World} {row : Option Nat} (h : w.grownBy w' row) {b i : Nat} {u : Value} (hc : w.cell? ⟨b, i, none⟩ = some u) (hne : ∀ k, row = some k → b ≠ k) : w'.cell? ⟨b, i, none⟩ = some u :=
  (h.cell_far ⟨b, i, none⟩ (World.block_lt_of_cell? w ⟨b, i, none⟩ hc) (by
    first
      | (intro e; exact hne _ e.symm rfl)
      | (intro e; exact hne _ e rfl)
      | (cases row with
         | none => simp
         | some k => have := hne k rfl; simp; omega))).trans hc
theorem grown_frozen {w w' : World} {row : Option Nat} (h : w.grownBy w' row) {b i : Nat} (hlt : b < w.heap.size) (hf : w.frozen? ⟨b, i, none⟩ = false) (hne : ∀ k, row = some k → b ≠ k) : w'.frozen? ⟨b, i, none⟩ = false :=
  (h.frozen_far ⟨b, i, none⟩ hlt (by
    first
      | (intro e; exact hne _ e.symm rfl)
      | (intro e; exact hne _ e rfl)
      | (cases row with
         | none => simp
         | some k => have := hne k rfl; simp; omega))).trans hf
end Go.Proofs.YtpdgeiflmnhkfaaDoor
