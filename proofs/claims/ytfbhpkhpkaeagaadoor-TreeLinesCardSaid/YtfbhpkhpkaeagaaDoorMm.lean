/- Cells of boxes, read by place. (hM) -/
import Derived.Test.YtfbhpkhpkaeagaaDoorUShc
import Derived.Test.YtfbhpkhpkaeagaaDoorUArg
import Derived.Test.YtfbhpkhpkaeagaaDoorFlt
import Derived.Deep.MidRow
namespace Go.Proofs.YtfbhpkhpkaeagaaDoor
set_option linter.unusedVariables false
set_option linter.unusedSimpArgs false
open Go.RowKit

theorem Mem.get {w : World} {b : Nat} {vs : List Value} : ∀ {L : List (Nat × List Value)}, Mem w L → (b, vs) ∈ L → cellsAt w b 0 vs
  | [], _, h => by cases h
  | (b', vs') :: L, hm, h => by
    rcases List.mem_cons.1 h with h | h
    · cases h; exact hm.1.2.2
    · exact Mem.get hm.2 h
theorem cellsAt_nth {w : World} {b : Nat} : ∀ {vs : List Value} {i j : Nat} {u : Value}, cellsAt w b i vs → vs[j]? = some u → w.cell? ⟨b, i + j, none⟩ = some u
  | [], _, _, _, _, h => by simp at h
  | x :: r, i, 0, u, hc, h => by
    simp at h
    subst h
    exact hc.1
  | x :: r, i, j + 1, u, hc, h => by
    have := cellsAt_nth (j := j) hc.2 (by simpa using h)
    rw [show i + (j + 1) = i + 1 + j by omega]
    exact this
theorem cellsAt_get {w : World} {b j : Nat} {vs : List Value} {u : Value} (hc : cellsAt w b 0 vs) (h : vs[j]? = some u) : w.cell? ⟨b, j, none⟩ = some u := by
  have := cellsAt_nth hc h
  rwa [Nat.zero_add] at this
theorem rangeAt_of {w : World} {b : Nat} {vs : List Value} (hc : cellsAt w b 0 vs) : w.rangeAt b 0 vs := by
  intro j v h
  have := cellsAt_nth hc h
  exact this
end Go.Proofs.YtfbhpkhpkaeagaaDoor
