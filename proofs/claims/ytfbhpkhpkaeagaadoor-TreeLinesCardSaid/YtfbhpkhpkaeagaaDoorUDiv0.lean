/- Package u256: Div by nothing. -/
import Derived.Test.YtfbhpkhpkaeagaaDoorUDiv
namespace Go.Proofs.YtfbhpkhpkaeagaaDoor
set_option linter.unusedVariables false
set_option linter.unusedSimpArgs false
open Go.RowKit

set_option maxRecDepth 100000 in
set_option maxHeartbeats 1000000 in
theorem div_zero (a0 a1 a2 a3 : Int) (w : World) :
    Calls Tryd.prog 30 #[U4 a0 a1 a2 a3, U4 0 0 0 0] w fun e w' => e = .returned (.tuple #[U4 0 0 0 0, U4 0 0 0 0, .bool false]) ∧ Below w.heap.size w w' := by
  have hE := eq_same 0 0 0 0
  go_enter Tryd.func30, Tryd.ntmps30
  go_wp2
  exact bodyPost_ret (v := .tuple #[U4 0 0 0 0, U4 0 0 0 0, .bool false]) (by simp [results, Tryd.results30, go_sem]) rfl ⟨rfl, by (repeat (first | exact Below.refl _ _ | refine Below.drew ?_ | refine bl_drewN ?_ _ | (refine Below.alloc ?_ (by first | exact Nat.le_refl _ | (simp; done) | (simp; omega)) _)))⟩
end Go.Proofs.YtfbhpkhpkaeagaaDoor
