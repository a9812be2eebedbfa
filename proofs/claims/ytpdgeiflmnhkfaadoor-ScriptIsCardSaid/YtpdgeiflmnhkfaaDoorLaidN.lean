/- What the row tells of the table of names. -/
import Derived.Test.YtpdgeiflmnhkfaaDoorSp5
import Derived.Test.YtpdgeiflmnhkfaaDoorRows
import Derived.ProofKit
import Derived.LaidMore
import Derived.OpenShut
import Derived.Stop.Joined
import Derived.MakeChecks
namespace Go.Proofs.YtpdgeiflmnhkfaaDoor
set_option linter.unusedVariables false
set_option linter.unusedSimpArgs false
open Go.RowKit Go.ChangeShapes Go.WideShapes Go.ChangeAt

theorem laid_strs {P : Program} {W : World} {H : Type} {enc : TypeId × Value → H} {b : Nat} {sp : Nat → Bool} {held : Bool} {fuel : Nat} {t e : TypeId} {N : Nat} {ns : List (List UInt8)} {cs : List Value} {p : List MemPlace}
    (hu : P.underlying t = some (.array N e)) (he : P.underlying e = some .string) (hce : P.cellsOf e = 1) (hd : DataW.trod enc P W b sp held fuel t cs = some (.agg (ns.map fun z => .lit (.string z)), p)) (hN : ns.length = N) :
    ∀ i, i < N → cs[i]? = some (.string ⟨(ns.getD i []).toArray⟩) := by
  obtain ⟨xs, m, rfl, hx, hl, hn, hi⟩ := DataW.trod_array hu hd
  intro i hlt
  have hxi : xs[i]? = some (xs[i]'(by omega)) := List.getElem?_eq_getElem (by omega)
  have h := (hi i hlt).trans hxi
  obtain ⟨z, h1, h2, _⟩ := DataW.trod_string he h
  simp only [Prod.mk.injEq, DataW.agg.injEq] at hx
  have h3 := congrArg (fun l => l[i]?) hx.1
  simp only [List.getElem?_map, hxi, Option.map_some, h2] at h3
  have hni : ns[i]? = some (ns[i]'(by omega)) := List.getElem?_eq_getElem (by omega)
  rw [hni] at h3
  simp only [Option.map_some, Option.some.injEq, DataW.lit.injEq, Lit.string.injEq] at h3
  rw [hce, Nat.mul_one] at h1
  have h4 := congrArg (fun l => l[0]?) h1
  simp only [List.getElem?_take, List.getElem?_drop, List.getElem?_cons_zero, Nat.add_zero] at h4
  rw [if_pos (by omega)] at h4
  rw [h4]
  have e : ns.getD i [] = z.data.toList := by simp [List.getD, hni, h3]
  rw [e]

def laidLN : List (String × DataW Unit) := [("florin/script.names", Rows.laid_florin_script_names)]
theorem gN : Tryd.prog.globalNamed "florin/script.names" = some 2 := by kernel_rfl
theorem tN : (Tryd.prog.globals[2]?).map (·.type) = some 162 := by kernel_rfl
theorem tab_of_laidN {W : World} (h : laidMetH Tryd.prog laidLN W) : TabN W := by
  rw [MakeChecks.laidMetH_plain _ _ _ (by kernel_rfl)] at h
  obtain ⟨ps, ⟨g0, t0, cs0, f0, p0, q0, hg0, ht0, hv0, hd0, _, _⟩, _, _⟩ := h
  obtain rfl := Option.some.inj (gN.symm.trans hg0)
  obtain rfl := Option.some.inj (tN.symm.trans ht0)
  have eN : (Rows.laid_florin_script_names : DataW Unit) = .agg (NML.map fun z => .lit (.string z)) := rfl
  rw [eN] at hd0
  have hK := laid_strs Tryd.underlying162 Tryd.underlying9 (by kernel_rfl) hd0 rfl
  have cK : ∀ i, i < 10 → W.cell? ⟨2, i, none⟩ = some (.string (nmS i)) := fun i hi => by
    rw [World.var?_cell hg0 hv0 i, ← Array.getElem?_toList]
    exact hK i hi
  exact ⟨World.block_lt_of_cell? W ⟨2, 0, none⟩ (cK 0 (by omega)), cK⟩
/-- The door's own heap meets the condition. -/
theorem door_metN (os : Os) (args : Array Value) : laidMetH Tryd.prog laidLN ((World.doorLaid Tryd.prog 19 os).forCall (fun _ _ => 0) ⟨#[], args, []⟩).memory :=
  laidMetH_of_parts3 (fuel := 8) (laidMet_of_run' 8 (by kernel_rfl) (by kernel_rfl)) (by kernel_rfl) (by kernel_rfl)
end Go.Proofs.YtpdgeiflmnhkfaaDoor
