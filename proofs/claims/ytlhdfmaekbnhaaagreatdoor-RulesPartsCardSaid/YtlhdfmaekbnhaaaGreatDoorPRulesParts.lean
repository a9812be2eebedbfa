/-
  RulesPartsCardSaid: (package variables laid as the program's text lays them) for every input that the row lets in, the Go function florin/florinlaw16.RulesParts returns true, panics nowhere, and leaves its arguments reading as they did; no condition beyond the row's own.
-/
import Derived.Test.YtlhdfmaekbnhaaaGreatDoorRows
import Derived.Test.YtlhdfmaekbnhaaaGreatDoorOpen
import Derived.Test.YtlhdfmaekbnhaaaGreatDoorRu12
import Derived.Test.YtlhdfmaekbnhaaaGreatDoorLaid
import Derived.Test.YtlhdfmaekbnhaaaGreatDoorCards
import Derived.Test.YtlhdfmaekbnhaaaGreatDoorTie
import Derived.SevenTiedAt
namespace Go.Proofs.YtlhdfmaekbnhaaaGreatDoor.rulesParts
open Go.ChangeShapes Go.WideShapes Go.ChangeAt Go.RowKit
open Go.ChangeMaps (open_string shut_string)
set_option linter.unusedVariables false

theorem own : ownKnob Tryz.prog.godebug = none := by kernel_rfl
theorem laidOut : laidOutB Tryz.prog = true := by kernel_rfl

/-- The walk: the call returns true, and writes nothing that was there. -/
theorem walk (v0 v1 v2 v3 v4 : Value) (w : World) (hT : Tab w) (k0 : Rd Tryz.prog w 25 v0) (k1 : Rd Tryz.prog w 26 v1) (k2 : Rd Tryz.prog w 30 v2) (k3 : Rd Tryz.prog w 3 v3) (k4 : Rd Tryz.prog w 3 v4) :
    Calls Tryz.prog 7 #[v0, v1, v2, v3, v4] w fun e w' => e = .returned (.bool true) ∧ Below w.heap.size w w' := by
  obtain ⟨lim, iv, sp, fu, ix, orp, ao, n, cp, ht, ch, rfl, hlm, hp, hch, hn⟩ := rd_params2 k0
  obtain ⟨lo, m, c, L, rfl, hr, hL, hm⟩ := rd_hdrs k1
  obtain ⟨h, rfl, ho⟩ := rd_hdr k2
  obtain ⟨now, rfl, _⟩ := k3.int Tryz.underlying3
  obtain ⟨kk, rfl, _⟩ := k4.int Tryz.underlying3
  refine parts_main lim iv sp fu ix orp ao n cp ht ch hlm hch lo ?_ m c h ho L hL now kk w hT hp hr
  rintro ad rfl
  exact k1.spot Tryz.underlying26

set_option maxRecDepth 100000 in
theorem lifted (os : Os) (started : os.Started) (H : Type) (enc : TypeId × Value → H) :
    ReturnsInHanded {} Tryz.checked os 7 .any (fun w args => (Rows.rulesPartsSpec.pre enc Tryz.prog Tryz.f7 [] false w args ∧ laidMetH Tryz.prog laidL w) ∧ sizedMet enc Tryz.prog Tryz.f7 (OpenSpec.ofChange Rows.rulesPartsSpec) false w args) (Rows.rulesPartsSpec.post enc Tryz.prog Tryz.f7 false true false false) := by
  refine returnsInHanded_of_change_and (C := Tryz.checked) (X := fun w _ => laidMetH Tryz.prog laidL w) (fun _ _ _ hh h => h.of_heap hh) own started (by kernel_rfl) Tryz.func7
    (ChangeSpec.witness_shaped (enc := enc) (C := Tryz.checked) (os := os) (X := fun w _ => laidMetH Tryz.prog laidL w) false (World.doorLaid Tryz.prog 19 os) #[((Tryz.prog.info? 25).bind (·.zero)).getD undef, ((Tryz.prog.info? 26).bind (·.zero)).getD undef, ((Tryz.prog.info? 30).bind (·.zero)).getD undef, ((Tryz.prog.info? 3).bind (·.zero)).getD undef, ((Tryz.prog.info? 3).bind (·.zero)).getD undef] 8 rfl (World.shaped_of_RefB (by kernel_rfl) (by kernel_rfl)) (by kernel_rfl) (by kernel_rfl) (by kernel_rfl) (door_met os _)) ?_
  intro W base args ds gs before hval0 hW _ _ hL _
  have hval : ∀ (j : Nat) t v, Tryz.f7.params[j]? = some t → args[j]? = some v → Value.okWide Tryz.prog W .any base t v := hval0
  have hW' := hW
  obtain ⟨p, q, hA0, hV, rfl, hfz, hnd⟩ := hW
  have hA : DataW.TrodAll enc Tryz.prog W 0 (fun _ => true) true Tryz.f7.params.toList args.toList ds p := hA0
  rw [Tryz.params7] at hA hval
  obtain ⟨v0, vs0, d0, ds0, p0, q0, hargs, rfl, rfl, h0, r0⟩ := trodAll_cons hA
  obtain ⟨v1, vs1, d1, ds1, p1, q1, rfl, rfl, rfl, h1, r1⟩ := trodAll_cons r0
  obtain ⟨v2, vs2, d2, ds2, p2, q2, rfl, rfl, rfl, h2, r2⟩ := trodAll_cons r1
  obtain ⟨v3, vs3, d3, ds3, p3, q3, rfl, rfl, rfl, h3, r3⟩ := trodAll_cons r2
  obtain ⟨v4, vs4, d4, ds4, p4, q4, rfl, rfl, rfl, h4, r4⟩ := trodAll_cons r3
  obtain ⟨rfl, rfl, rfl⟩ := trodAll_nil r4
  obtain rfl : args = #[v0, v1, v2, v3, v4] := by cases args; simp_all
  obtain ⟨rfl, rfl⟩ := trodVars_none hV
  have lt0 : ∀ x ∈ p0, x.block < W.heap.size := by obtain ⟨m, hm⟩ := h0; exact DataW.trod_lt m _ _ _ hm
  have lt1 : ∀ x ∈ p1, x.block < W.heap.size := by obtain ⟨m, hm⟩ := h1; exact DataW.trod_lt m _ _ _ hm
  have lt2 : ∀ x ∈ p2, x.block < W.heap.size := by obtain ⟨m, hm⟩ := h2; exact DataW.trod_lt m _ _ _ hm
  have lt3 : ∀ x ∈ p3, x.block < W.heap.size := by obtain ⟨m, hm⟩ := h3; exact DataW.trod_lt m _ _ _ hm
  have lt4 : ∀ x ∈ p4, x.block < W.heap.size := by obtain ⟨m, hm⟩ := h4; exact DataW.trod_lt m _ _ _ hm
  refine (walk v0 v1 v2 v3 v4 W (tab_of_laid hL) ⟨_, enc, d0, p0, _, _, h0, hval 0 25 v0 rfl rfl⟩ ⟨_, enc, d1, p1, _, _, h1, hval 1 26 v1 rfl rfl⟩ ⟨_, enc, d2, p2, _, _, h2, hval 2 30 v2 rfl rfl⟩ ⟨_, enc, d3, p3, _, _, h3, hval 3 3 v3 rfl rfl⟩ ⟨_, enc, d4, p4, _, _, h4, hval 4 3 v4 rfl rfl⟩).mono fun e W' ⟨he, bel⟩ => ?_
  subst he
  exact ⟨_, rfl, _, _, _, [], _, [], hW', trodAll_mk1 (shut_bool Tryz.underlying4 _), (trodAll_cons_mk (Below.trod laidOut (by kernel_rfl) (of_decide_eq_true (by kernel_rfl)) h0 bel lt0) (trodAll_cons_mk (Below.trod laidOut (by kernel_rfl) (of_decide_eq_true (by kernel_rfl)) h1 bel lt1) (trodAll_cons_mk (Below.trod laidOut (by kernel_rfl) (of_decide_eq_true (by kernel_rfl)) h2 bel lt2) (trodAll_cons_mk (Below.trod laidOut (by kernel_rfl) (of_decide_eq_true (by kernel_rfl)) h3 bel lt3) (trodAll_cons_mk (Below.trod laidOut (by kernel_rfl) (of_decide_eq_true (by kernel_rfl)) h4 bel lt4) trodAll_mk0))))), rfl, bel.frame _, fun h => by cases h⟩

theorem over : Rows.rulesPartsRow.holds Tryz.pinned (OpenSpec.ofChange Rows.rulesPartsSpec) :=
  OpenClaim.holds_of_wide 7 Tryz.f7 rfl rfl rfl rfl rfl rfl rfl ⟨rfl, rfl, rfl, rfl, rfl⟩ rfl rfl rfl rfl rfl (by kernel_rfl) Tryz.func7 (by kernel_rfl)
    (of_decide_eq_true (by kernel_rfl)) (by unfold Func.isWrapper; first | (rw [if_pos (by decide +kernel)]; kernel_rfl) | (rw [if_neg (by decide +kernel)]; exact ⟨rfl, rfl⟩))
    (fun os started H enc _ => lifted os started H enc)

/-- The statement: the tied card. -/
theorem proved : Rows.RulesPartsCardSaid :=
  Claim7.holds_tied_plain_at .later [] [.data, .data] true (true, "a65a0db7122a3f7790d6cb087019c9932e960560d7b96e8167c1d812addb23e7") true
    over (fun _ h => by cases h) (by kernel_rfl) (fun _ h => by cases h) rulesParts_row_tie rfl ⟨rfl, rfl⟩ (by kernel_rfl) rfl
    (fun f fn hf hfn => by
      obtain rfl : f = 7 := Option.some.inj ((show Tryz.prog.funcNamed "florin/florinlaw16.RulesParts" = some 7 by kernel_rfl).symm.trans hf) |>.symm
      obtain rfl : fn = Tryz.f7 := (Option.some.inj (Tryz.func7.symm.trans hfn)).symm
      exact ⟨by kernel_rfl, fun j t ht => by
        rw [Tryz.params7] at ht
        have hm : t ∈ [25, 26, 30, 3, 3] := by simpa using Array.mem_of_getElem? ht
        have hall : ([25, 26, 30, 3, 3].all fun u => !Tryz.prog.wantsStandIn u) = true := by kernel_rfl
        exact (show Tryz.prog.wantsStandIn t = false by simpa using List.all_eq_true.1 hall t hm)⟩)
    (by kernel_rfl)
#print axioms proved
end Go.Proofs.YtlhdfmaekbnhaaaGreatDoor.rulesParts
