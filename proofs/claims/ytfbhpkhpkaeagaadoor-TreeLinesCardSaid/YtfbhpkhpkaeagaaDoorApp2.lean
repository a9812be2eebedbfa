/- App: a slice of the call's own, nil or not, that grows by append. Merged: App, App2. -/
import Derived.Test.YtfbhpkhpkaeagaaDoorBase
import Derived.Laws.OwnMore
/- App: a slice of the call's own, nil or not, that grows by append. -/
namespace Go.Proofs.YtfbhpkhpkaeagaaDoor
set_option linter.unusedVariables false
set_option linter.unusedSimpArgs false
open Go.RowKit

/-- In w the slice is nil, or a row that was made behind the world w0 (of which so many blocks, B, are not touched). -/
def OwnN (B : Nat) (E : TypeId) (sz : Nat) (w : World) (ao : Option Addr) (n c : Nat) (xs : List Value) : Prop :=
  (ao = none ∧ n = 0 ∧ c = 0 ∧ xs = []) ∨ ∃ g, ao = some ⟨g, 0, none⟩ ∧ w.ownsRow B E sz (.slice (some ⟨g, 0, none⟩) n c) n xs

theorem ownN_nil (B : Nat) (E : TypeId) (sz : Nat) (w : World) : OwnN B E sz w none 0 0 [] := .inl ⟨rfl, rfl, rfl, rfl⟩
theorem OwnN.alloc {B : Nat} {E : TypeId} {sz : Nat} {w : World} {ao : Option Addr} {n c : Nat} {xs : List Value} (h : OwnN B E sz w ao n c xs) (o : Obj) : OwnN B E sz (w.alloc o) ao n c xs := by
  rcases h with h | ⟨g, h1, h2⟩
  · exact .inl h
  · exact .inr ⟨g, h1, h2.alloc o⟩
theorem OwnN.row {B : Nat} {E : TypeId} {sz : Nat} {w : World} {ao : Option Addr} {n c : Nat} {xs : List Value} (h : OwnN B E sz w ao n c xs) (h1 : ∀ u ∈ xs, u.oneCell' = true) : Row w ao n c sz xs := by
  rcases h with ⟨rfl, rfl, rfl, hx⟩ | ⟨g, rfl, h⟩
  · rw [hx]; exact row_nil w sz
  · exact row_own h h1
theorem OwnN.base {B B' : Nat} {E : TypeId} {sz : Nat} {w : World} {ao : Option Addr} {n c : Nat} {xs : List Value} (h : OwnN B E sz w ao n c xs) (hB : B' ≤ B) : OwnN B' E sz w ao n c xs := by
  rcases h with h | ⟨g, h1, h2⟩
  · exact .inl h
  · exact .inr ⟨g, h1, ownsRow_base h2 hB⟩
theorem ownN_lit0 (B : Nat) (E : TypeId) (sz : Nat) (w : World) (h : B ≤ w.heap.size) : OwnN B E sz (w.alloc (.cells #[] E)) (some ⟨w.heap.size, 0, none⟩) 0 0 [] :=
  .inr ⟨w.heap.size, rfl, World.ownsRow_lit w #[] 0 h (by unfold maxLen; omega) (by simp)⟩
theorem ownN_lit (B : Nat) (E : TypeId) (sz : Nat) (w : World) (h : B ≤ w.heap.size) (cs : Array Value) (n : Nat) (hm : n ≤ maxLen) (hs : cs.size = n * sz) : OwnN B E sz (w.alloc (.cells cs E)) (some ⟨w.heap.size, 0, none⟩) n n cs.toList :=
  .inr ⟨w.heap.size, rfl, World.ownsRow_lit w cs n h hm hs⟩

theorem ownsRow_later {w w' : World} {B : Nat} {E : TypeId} {sz : Nat} {v : Value} {n : Nat} {xs : List Value} (h : w.ownsRow B E sz v n xs) (hb : Below w.heap.size w w') : w'.ownsRow B E sz v n xs := by
  refine ⟨h.1, ?_⟩
  rcases h.2 with h0 | ⟨g, cap, cur, hv, hB, hg, hrest⟩
  · exact .inl h0
  · have hlt : g < w.heap.size := by
      rcases Nat.lt_or_ge g w.heap.size with h' | h'
      · exact h'
      · rw [Array.getElem?_eq_none h'] at hg; cases hg
    exact .inr ⟨g, cap, cur, hv, hB, (hb.block g hlt).trans hg, hrest⟩
theorem OwnN.later {B : Nat} {E : TypeId} {sz : Nat} {w w' : World} {ao : Option Addr} {n c : Nat} {xs : List Value} (h : OwnN B E sz w ao n c xs) (hb : Below w.heap.size w w') : OwnN B E sz w' ao n c xs := by
  rcases h with h | ⟨g, h1, h2⟩
  · exact .inl h
  · exact .inr ⟨g, h1, ownsRow_later h2 hb⟩

section
variable {P : Program} {T E : TypeId} {z : Value} {sz wd : Nat}
/-- append onto it, of at least one element, or onto one that is not nil. -/
theorem wpList_appN (he : Elt P T E z sz wd) (w0 w : World) (hb0 : Below w0.heap.size w0 w) {ops : Array Oper} {rest : List Oper} {o : Oper} {a : Act} {Q : Exit → Act → World → Prop} (hgd : o.guard = none) (s x : Operand)
    (ho : o.op = .call { callee := .builtin .append, args := #[s, x], argTypes := #[T, T] })
    (ao : Option Addr) (n c : Nat) (xs : List Value) (hs : a.eval s = .slice ao n c) (hr : OwnN w0.heap.size E sz w ao n c xs)
    (ax : Option Addr) (m cx : Nat) (ys : List Value) (hx : a.eval x = .slice ax m cx) (hy : Row w ax m cx sz ys) (hm : ao = none → 0 < m) (hb : (n + m) * wd ≤ 140737488355328)
    (h : ∀ g cap w', w'.ownsRow w0.heap.size E sz (.slice (some ⟨g, 0, none⟩) (n + m) cap) (n + m) (xs ++ ys) → Below w0.heap.size w0 w' →
      wpList P ops Q rest (a.put o.dst (.slice (some ⟨g, 0, none⟩) (n + m) cap)) w') : wpList P ops Q (o :: rest) a w := by
  rcases hr with ⟨rfl, rfl, rfl, rfl⟩ | ⟨g, rfl, hr⟩
  · have hm' := hm rfl
    refine wpList_appF he w hgd s x ho none 0 0 [] hs (row_nil w sz) ax m cx ys hx hy (by omega) hb ?_
    intro g cap w' hown hgrow _ _
    exact h g cap w' (ownsRow_base hown hb0.size) (below_grown hb0 hgrow (fun _ h => by cases h))
  · refine wpList_appO he w hgd s x ho w0.heap.size g n c xs hs hr ax m cx ys hx hy hb hb0.size ?_
    intro g' cap w' hown hgrow _ _ _
    exact h g' cap w' hown (below_grown hb0 hgrow (fun k hk => by cases hk; exact (hr.lt g rfl).1))
end
end Go.Proofs.YtfbhpkhpkaeagaaDoor

/- App2: append as one step of a region that draws its order. -/
namespace Go.Proofs.YtfbhpkhpkaeagaaDoor
set_option linter.unusedVariables false
set_option linter.unusedSimpArgs false
open Go.RowKit

section
variable {P : Program} {T E : TypeId} {z : Value} {sz wd : Nat}
theorem run_appN (he : Elt P T E z sz wd) (w : World) (ty : TypeId) (B : Nat) (hB : B ≤ w.heap.size) (ao : Option Addr) (n c : Nat) (xs : List Value) (hr : OwnN B E sz w ao n c xs)
    (ax : Option Addr) (m cx : Nat) (ys : List Value) (hy : Row w ax m cx sz ys) (hm : ao = none → 0 < m) (hb : (n + m) * wd ≤ 140737488355328) :
    ∃ g cap w' row, (Builtin.append_ #[T, T] ty #[.slice ao n c, .slice ax m cx]).run P w = .ok (.slice (some ⟨g, 0, none⟩) (n + m) cap) w' ∧
      w'.ownsRow B E sz (.slice (some ⟨g, 0, none⟩) (n + m) cap) (n + m) (xs ++ ys) ∧ w.grownBy w' row ∧ (∀ k, row = some k → ao = some ⟨k, 0, none⟩) := by
  rcases hr with ⟨rfl, rfl, rfl, rfl⟩ | ⟨g, rfl, hr⟩
  · have hm' := hm rfl
    obtain ⟨g, cap, w', h1, h2, h3, _⟩ := run_appF he w ty none 0 0 [] (row_nil w sz) ax m cx ys hy (by omega) hb
    exact ⟨g, cap, w', none, h1, ownsRow_base h2 hB, h3, fun k h => by cases h⟩
  · obtain ⟨g', cap, w', h1, h2, h3, _⟩ := run_appO he w ty B g n c xs hr ax m cx ys hy hb hB
    exact ⟨g', cap, w', some g, h1, h2, h3, fun k h => by cases h; rfl⟩

theorem step_appN (he : Elt P T E z sz wd) (w : World) {ops : Array Oper} {o : Oper} {a : Act} {K : Act → World → Prop} {Q : Exit → Act → World → Prop} {E' : Prop} (hgd : o.guard = none) (s x : Operand)
    (ho : o.op = .call { callee := .builtin .append, args := #[s, x], argTypes := #[T, T] })
    (B : Nat) (hB : B ≤ w.heap.size) (ao : Option Addr) (n c : Nat) (xs : List Value) (hs : a.eval s = .slice ao n c) (hr : OwnN B E sz w ao n c xs)
    (ax : Option Addr) (m cx : Nat) (ys : List Value) (hx : a.eval x = .slice ax m cx) (hy : Row w ax m cx sz ys) (hm : ao = none → 0 < m) (hb : (n + m) * wd ≤ 140737488355328)
    (h : ∀ g cap w' row, w'.ownsRow B E sz (.slice (some ⟨g, 0, none⟩) (n + m) cap) (n + m) (xs ++ ys) → w.grownBy w' row → (∀ k, row = some k → ao = some ⟨k, 0, none⟩) → K (a.put o.dst (.slice (some ⟨g, 0, none⟩) (n + m) cap)) w') :
    if Region.wanted o (yielded ops a.tmps) = true then Oper.wp P o a w K Q else E' := by
  have hw : Region.wanted o (yielded ops a.tmps) = true := by simp [Region.wanted, hgd]
  rw [if_pos hw]
  obtain ⟨g, cap, w', row, hrun, h1, h2, h3⟩ := run_appN he w o.type B hB ao n c xs hr ax m cx ys hy hm hb
  unfold Oper.wp
  simp [execOp, ho, resolve, invoke, builtin, hs, hx, hrun, Result.andThen]
  exact h g cap w' row h1 h2 h3
end
/-- what lies in a block that is neither new nor the row's, is as it was -/
theorem grown_cell {w w' : World} {row : Option Nat} (h : w.grownBy w' row) {b i : Nat} {u : Value} (hc : w.cell? ⟨b, i, none⟩ = some u) (hne : ∀ k, row = some k → b ≠ k) : w'.cell? ⟨b, i, none⟩ = some u :=
  (h.cell_far ⟨b, i, none⟩ (World.block_lt_of_cell? w ⟨b, i, none⟩ hc) (by
    first
      | (intro e; exact hne _ e.symm rfl)
      | (intro e; exact hne _ e rfl)
      | (cases row with
         | none => simp
         | some k => have := hne k rfl; simp; omega))).trans hc
theorem grown_frozen {w w' : World} {row : Option Nat} (h : w.grownBy w' row) {b i : Nat} (hlt : b < w.heap.size) (hf : w.frozen? ⟨b, i, none⟩ = false) (hne : ∀ k, row = some k → b ≠ k) : w'.frozen? ⟨b, i, none⟩ = false :=
  (h.frozen_far ⟨b, i, none⟩ hlt (by
    first
      | (intro e; exact hne _ e.symm rfl)
      | (intro e; exact hne _ e rfl)
      | (cases row with
         | none => simp
         | some k => have := hne k rfl; simp; omega))).trans hf
end Go.Proofs.YtfbhpkhpkaeagaaDoor
