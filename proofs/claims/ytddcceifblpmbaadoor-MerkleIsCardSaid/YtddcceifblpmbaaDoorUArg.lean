/- Package u256: an argument of the document's number type, opened. -/
import Derived.Test.YtddcceifblpmbaaDoorU6
import Derived.Test.YtddcceifblpmbaaDoorOpen
namespace Go.Proofs.YtddcceifblpmbaaDoor
set_option linter.unusedVariables false
set_option linter.unusedSimpArgs false
open Go.RowKit

theorem Rd.u4 {w : World} {v : Value} (h : Rd Tryd.prog w 26 v) : ∃ a0 a1 a2 a3, v = U4 a0 a1 a2 a3 ∧ B4 a0 a1 a2 a3 := by
  obtain ⟨zs, rfl, hl, hw⟩ := h.arrInts (n := 4) (k := .u64) Tryd.underlying26 Tryd.underlying24 (by kernel_rfl) (by kernel_rfl)
  match zs, hl, hw with
  | [a0, a1, a2, a3], _, hw =>
    have b : ∀ z ∈ [a0, a1, a2, a3], 0 ≤ z ∧ z < WI := fun z hz => by have := u64_of_wf (hw z hz); unfold WI; exact this
    exact ⟨a0, a1, a2, a3, rfl, ⟨b a0 (by simp), b a1 (by simp), b a2 (by simp), b a3 (by simp)⟩⟩
end Go.Proofs.YtddcceifblpmbaaDoor
