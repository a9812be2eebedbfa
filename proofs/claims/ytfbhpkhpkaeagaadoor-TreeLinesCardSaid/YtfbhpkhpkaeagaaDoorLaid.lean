/- What the row tells of sha2's two tables. -/
import Derived.Test.YtfbhpkhpkaeagaaDoorSh4
import Derived.Test.YtfbhpkhpkaeagaaDoorRows
import Derived.ProofKit
import Derived.LaidMore
import Derived.OpenShut
import Derived.Stop.Joined
import Derived.MakeChecks
namespace Go.Proofs.YtfbhpkhpkaeagaaDoor
set_option linter.unusedVariables false
set_option linter.unusedSimpArgs false
open Go.RowKit Go.ChangeShapes Go.WideShapes Go.ChangeAt

theorem laid_ints {P : Program} {W : World} {H : Type} {enc : TypeId × Value → H} {b : Nat} {sp : Nat → Bool} {held : Bool} {fuel : Nat} {t e : TypeId} {k : IntKind} {N : Nat} {ns : List Int} {cs : List Value} {p : List MemPlace}
    (hu : P.underlying t = some (.array N e)) (he : P.underlying e = some (.int k)) (hce : P.cellsOf e = 1) (hd : DataW.trod enc P W b sp held fuel t cs = some (.agg (ns.map fun z => .lit (.int k z)), p)) (hN : ns.length = N) :
    ∀ i, i < N → cs[i]? = some (.int k (ns.getD i 0)) := by
  obtain ⟨xs, m, rfl, hx, hl, hn, hi⟩ := DataW.trod_array hu hd
  intro i hlt
  have hxi : xs[i]? = some (xs[i]'(by omega)) := List.getElem?_eq_getElem (by omega)
  have h := (hi i hlt).trans hxi
  obtain ⟨z, h1, h2, _⟩ := DataW.trod_int he h
  simp only [Prod.mk.injEq, DataW.agg.injEq] at hx
  have h3 := congrArg (fun l => l[i]?) hx.1
  simp only [List.getElem?_map, hxi, Option.map_some, h2] at h3
  have hni : ns[i]? = some (ns[i]'(by omega)) := List.getElem?_eq_getElem (by omega)
  rw [hni] at h3
  simp only [Option.map_some, Option.some.injEq, DataW.lit.injEq, Lit.int.injEq, true_and] at h3
  rw [hce, Nat.mul_one] at h1
  have h4 := congrArg (fun l => l[0]?) h1
  simp only [List.getElem?_take, List.getElem?_drop, List.getElem?_cons_zero, Nat.add_zero] at h4
  rw [if_pos (by omega)] at h4
  rw [h4, ← h3]
  simp [List.getD, hni]

def laidL : List (String × DataW Unit) := [("florin/sha2.constants", Rows.laid_florin_sha2_constants), ("florin/sha2.initials", Rows.laid_florin_sha2_initials)]
theorem gK : Tryd.prog.globalNamed "florin/sha2.constants" = some 0 := by kernel_rfl
theorem gH : Tryd.prog.globalNamed "florin/sha2.initials" = some 1 := by kernel_rfl
theorem tK : (Tryd.prog.globals[0]?).map (·.type) = some 100 := by kernel_rfl
theorem tH : (Tryd.prog.globals[1]?).map (·.type) = some 84 := by kernel_rfl
theorem tab_of_laid {W : World} (h : laidMetH Tryd.prog laidL W) : Tab W := by
  rw [MakeChecks.laidMetH_plain _ _ _ (by kernel_rfl)] at h
  obtain ⟨ps, ⟨g0, t0, cs0, f0, p0, q0, hg0, ht0, hv0, hd0, ⟨g1, t1, cs1, f1, p1, q1, hg1, ht1, hv1, hd1, _, _⟩, _⟩, _, _⟩ := h
  obtain rfl := Option.some.inj (gK.symm.trans hg0)
  obtain rfl := Option.some.inj (gH.symm.trans hg1)
  obtain rfl := Option.some.inj (tK.symm.trans ht0)
  obtain rfl := Option.some.inj (tH.symm.trans ht1)
  have eK : (Rows.laid_florin_sha2_constants : DataW Unit) = .agg (KK.map fun z => .lit (.int .u32 z)) := rfl
  have eH : (Rows.laid_florin_sha2_initials : DataW Unit) = .agg (HH.map fun z => .lit (.int .u32 z)) := rfl
  rw [eK] at hd0
  rw [eH] at hd1
  have hK := laid_ints Tryd.underlying100 Tryd.underlying22 (by kernel_rfl) hd0 rfl
  have hH := laid_ints Tryd.underlying84 Tryd.underlying22 (by kernel_rfl) hd1 rfl
  have cK : ∀ i, i < 64 → W.cell? ⟨0, i, none⟩ = some (.int .u32 (kF i)) := fun i hi => by
    rw [World.var?_cell hg0 hv0 i, ← Array.getElem?_toList]
    exact hK i hi
  have cH : ∀ i, i < 8 → W.cell? ⟨1, i, none⟩ = some (.int .u32 (hF0 i)) := fun i hi => by
    rw [World.var?_cell hg1 hv1 i, ← Array.getElem?_toList]
    exact hH i hi
  exact ⟨⟨World.block_lt_of_cell? W ⟨0, 0, none⟩ (cK 0 (by omega)), cK⟩, ⟨World.block_lt_of_cell? W ⟨1, 0, none⟩ (cH 0 (by omega)), cH⟩⟩
/-- The door's own heap meets the condition. -/
theorem door_met (os : Os) (args : Array Value) : laidMetH Tryd.prog laidL ((World.doorLaid Tryd.prog 19 os).forCall (fun _ _ => 0) ⟨#[], args, []⟩).memory :=
  laidMetH_of_parts3 (fuel := 8) (laidMet_of_run' 8 (by kernel_rfl) (by kernel_rfl)) (by kernel_rfl) (by kernel_rfl)
end Go.Proofs.YtfbhpkhpkaeagaaDoor
