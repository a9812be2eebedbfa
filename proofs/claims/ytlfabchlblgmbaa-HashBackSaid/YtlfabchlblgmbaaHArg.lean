/- A hash as an argument. (hM) -/
import Derived.Test.YtlfabchlblgmbaaBy1
import Derived.Test.YtlfabchlblgmbaaOpen
namespace Go.Proofs.Ytlfabchlblgmbaa
set_option linter.unusedVariables false
set_option linter.unusedSimpArgs false
open Go.RowKit

theorem Rd.hash {w : World} {v : Value} (h : Rd Try.prog w 67 v) : ∃ f : Nat → Int, v = arr32 f ∧ ∀ i, 0 ≤ f i ∧ f i < 256 := by
  obtain ⟨zs, rfl, hl, hw⟩ := h.arrInts (n := 32) (k := .u8) Try.underlying67 Try.underlying5 (by kernel_rfl) (by kernel_rfl)
  have hz : zs.map (Value.int .u8) = b8l (fun i => zs.getD i 0) 32 := by
    apply List.ext_getElem
    · simp [b8l, hl]
    · intro i h1 h2
      have h3 : i < zs.length := by simpa using h1
      simp [b8l, List.getD, List.getElem?_eq_getElem h3]
  refine ⟨fun i => zs.getD i 0, by rw [hz], fun i => ?_⟩
  show 0 ≤ zs.getD i 0 ∧ zs.getD i 0 < 256
  by_cases h : i < zs.length
  · exact u8_of_wf (hw (zs.getD i 0) (by simp [List.getD, List.getElem?_eq_getElem h]))
  · rw [show zs.getD i 0 = 0 by simp [List.getD, List.getElem?_eq_none (Nat.le_of_not_lt h)]]
    omega
end Go.Proofs.Ytlfabchlblgmbaa
