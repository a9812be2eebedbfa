/- An argument that is a slice has a plain address. -/
import Derived.Test.YtfbhpkhpkaeagaaDoorOpen
namespace Go.Proofs.YtfbhpkhpkaeagaaDoor
set_option linter.unusedVariables false
set_option linter.unusedSimpArgs false
open Go.RowKit Go.ChangeShapes Go.WideShapes

section
variable {P : Program} {w : World} {t e : TypeId}
/-- an argument's slice has a plain address -/
theorem Rd.spot {ad : Addr} {l c : Nat} (hu : P.underlying t = some (.slice e)) (h : Rd P w t (.slice (some ad) l c)) : ad.spot = none := by
  obtain ⟨H, enc, d, ps, r, b, hr, ho⟩ := h
  simp only [Value.okWide, hu, Cell.okWide, Cell.ok] at ho
  exact ho.2.2.2.1
end
end Go.Proofs.YtfbhpkhpkaeagaaDoor
