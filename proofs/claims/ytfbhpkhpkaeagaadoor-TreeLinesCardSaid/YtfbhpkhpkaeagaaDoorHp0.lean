/- Rows and boxes. (hM) -/
import Derived.Test.YtfbhpkhpkaeagaaDoorSh8
namespace Go.Proofs.YtfbhpkhpkaeagaaDoor
set_option linter.unusedVariables false
set_option linter.unusedSimpArgs false
open Go.RowKit

theorem row_ofWc {w : World} {b n c : Nat} {f : Nat → Int} (hc : n ≤ c) (h : cellsAt w b 0 (bcells f n)) : Row w (some ⟨b, 0, none⟩) n c 1 (bcells f n) :=
  ⟨(row_ofW h).len, hc, (fun h => by cases h), (row_ofW h).cells, bcells_one f n⟩
theorem own_mem {w : World} {B g n c : Nat} {E : TypeId} {f : Nat → Int} (h : w.ownsRow B E 1 (.slice (some ⟨g, 0, none⟩) n c) n (bcells f n)) : g < w.heap.size ∧ (∀ i, w.frozen? ⟨g, i, none⟩ = false) ∧ cellsAt w g 0 (bcells f n) := by
  refine ⟨(World.ownsRow.lt h g rfl).2, fun i => h.frozenAt i, cellsAt_ofW fun j v hv => ?_⟩
  rw [Nat.zero_add]
  have hj : j < n := by
    have := (List.getElem?_eq_some_iff.1 hv).1
    rwa [bcells_len] at this
  rw [h.cellAt j (by omega), hv]
end Go.Proofs.YtfbhpkhpkaeagaaDoor
