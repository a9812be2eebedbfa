/-
  HeaderOnceCardSaid: (package variables laid as the program's text lays them) for every input that the row lets in, the Go function florin/florinlaw07.HeaderOnce returns true, panics nowhere, and leaves its arguments reading as they did; no condition beyond the row's own.
-/
import Derived.Test.YtcaclbblldnnnaaDoorRows
import Derived.Test.YtcaclbblldnnnaaDoorOpen
import Derived.Test.YtcaclbblldnnnaaDoorHd12
import Derived.Test.YtcaclbblldnnnaaDoorLaid
import Derived.Test.YtcaclbblldnnnaaDoorCards
import Derived.Test.YtcaclbblldnnnaaDoorTie
import Derived.SevenTiedAt
namespace Go.Proofs.YtcaclbblldnnnaaDoor.headerOnce
open Go.ChangeShapes Go.WideShapes Go.ChangeAt Go.RowKit
open Go.ChangeMaps (open_string shut_string)
set_option linter.unusedVariables false

theorem own : ownKnob Tryd.prog.godebug = none := by kernel_rfl
theorem laidOut : laidOutB Tryd.prog = true := by kernel_rfl

/-- The walk: the call returns true, and writes nothing that was there. -/
theorem walk (v0 : Value) (w : World) (hT : Tab w) (k0 : Rd Tryd.prog w 36 v0) :
    Calls Tryd.prog 7 #[v0] w fun e w' => e = .returned (.bool true) ∧ Below w.heap.size w w' := by
  obtain ⟨a1, n1, c1, f, rfl, hf, hr1, hm1⟩ := k0.bytes Tryd.underlying36 Tryd.underlying5 (by kernel_rfl)
  by_cases hbig : 3000 < n1
  · exact once_early a1 n1 c1 w hT hbig
  rcases a1 with _ | ⟨b, off, sp⟩
  · have hc := hr1.nil rfl
    have hle := hr1.le
    obtain rfl : c1 = 0 := hc
    obtain rfl : n1 = 0 := by omega
    exact once_walk none 0 0 f w hT hr1 (by omega) (fun x _ => getall_nil f hf x) hd0 hd0_ok 1 (fun x _ => get_short7 none 0 0 x (by omega)) (.inr ⟨by decide, rfl⟩)
  · have hsp := k0.spot Tryd.underlying36
    simp only at hsp
    subst hsp
    rcases Nat.lt_trichotomy n1 80 with h | h | h
    · exact once_walk _ n1 c1 f w hT hr1 (by omega) (fun x hb => getall_use b off c1 n1 f x (hr1.later hb) hf (by omega)) hd0 hd0_ok 1 (fun x _ => get_short7 _ n1 c1 x h) (.inr ⟨by decide, rfl⟩)
    · subst h
      exact once_walk _ 80 c1 f w hT hr1 (by omega) (fun x hb => getall_use b off c1 80 f x (hr1.later hb) hf (by omega)) (getH f) (getH_ok f hf) 0 (fun x hb => hget_any b off c1 f x (hr1.later hb) hf) (.inl ⟨rfl, rfl, fun i hi => hdF_getH f hf i hi⟩)
    · exact once_walk _ n1 c1 f w hT hr1 (by omega) (fun x hb => getall_use b off c1 n1 f x (hr1.later hb) hf (by omega)) hd0 hd0_ok 3 (fun x _ => get_big7 _ n1 c1 x h) (.inr ⟨by decide, rfl⟩)

set_option maxRecDepth 100000 in
theorem lifted (os : Os) (started : os.Started) (H : Type) (enc : TypeId × Value → H) :
    ReturnsInHanded {} Tryd.checked os 7 .any (fun w args => (Rows.headerOnceSpec.pre enc Tryd.prog Tryd.f7 [] false w args ∧ laidMetH Tryd.prog laidL w) ∧ sizedMet enc Tryd.prog Tryd.f7 (OpenSpec.ofChange Rows.headerOnceSpec) false w args) (Rows.headerOnceSpec.post enc Tryd.prog Tryd.f7 false true false false) := by
  refine returnsInHanded_of_change_and (C := Tryd.checked) (X := fun w _ => laidMetH Tryd.prog laidL w) (fun _ _ _ hh h => h.of_heap hh) own started (by kernel_rfl) Tryd.func7
    (ChangeSpec.witness_shaped (enc := enc) (C := Tryd.checked) (os := os) (X := fun w _ => laidMetH Tryd.prog laidL w) false (World.doorLaid Tryd.prog 19 os) #[((Tryd.prog.info? 36).bind (·.zero)).getD undef] 8 rfl (World.shaped_of_RefB (by kernel_rfl) (by kernel_rfl)) (by kernel_rfl) (by kernel_rfl) (by kernel_rfl) (door_met os _)) ?_
  intro W base args ds gs before hval0 hW _ _ hL _
  have hval : ∀ (j : Nat) t v, Tryd.f7.params[j]? = some t → args[j]? = some v → Value.okWide Tryd.prog W .any base t v := hval0
  have hW' := hW
  obtain ⟨p, q, hA0, hV, rfl, hfz, hnd⟩ := hW
  have hA : DataW.TrodAll enc Tryd.prog W 0 (fun _ => true) true Tryd.f7.params.toList args.toList ds p := hA0
  rw [Tryd.params7] at hA hval
  obtain ⟨v0, vs0, d0, ds0, p0, q0, hargs, rfl, rfl, h0, r0⟩ := trodAll_cons hA
  obtain ⟨rfl, rfl, rfl⟩ := trodAll_nil r0
  obtain rfl : args = #[v0] := by cases args; simp_all
  obtain ⟨rfl, rfl⟩ := trodVars_none hV
  have lt0 : ∀ x ∈ p0, x.block < W.heap.size := by obtain ⟨m, hm⟩ := h0; exact DataW.trod_lt m _ _ _ hm
  refine (walk v0 W (tab_of_laid hL) ⟨_, enc, d0, p0, _, _, h0, hval 0 36 v0 rfl rfl⟩).mono fun e W' ⟨he, bel⟩ => ?_
  subst he
  exact ⟨_, rfl, _, _, _, [], _, [], hW', trodAll_mk1 (shut_bool Tryd.underlying4 _), (trodAll_cons_mk (Below.trod laidOut (by kernel_rfl) (of_decide_eq_true (by kernel_rfl)) h0 bel lt0) trodAll_mk0), rfl, bel.frame _, fun h => by cases h⟩

theorem over : Rows.headerOnceRow.holds Tryd.pinned (OpenSpec.ofChange Rows.headerOnceSpec) :=
  OpenClaim.holds_of_wide 7 Tryd.f7 rfl rfl rfl rfl rfl rfl rfl ⟨rfl, rfl, rfl, rfl, rfl⟩ rfl rfl rfl rfl rfl (by kernel_rfl) Tryd.func7 (by kernel_rfl)
    (of_decide_eq_true (by kernel_rfl)) (by unfold Func.isWrapper; first | (rw [if_pos (by decide +kernel)]; kernel_rfl) | (rw [if_neg (by decide +kernel)]; exact ⟨rfl, rfl⟩))
    (fun os started H enc _ => lifted os started H enc)

/-- The statement: the tied card. -/
theorem proved : Rows.HeaderOnceCardSaid :=
  Claim7.holds_tied_plain_at .later [] [.data, .data] true (true, "5152ee452292b6a9f826e41a12c988c7238d3ba1d8ee638aef1c83452a78b56c") false
    over (fun _ h => by cases h) (by kernel_rfl) (fun _ h => by cases h) headerOnce_row_tie rfl ⟨rfl, rfl⟩ (by kernel_rfl) rfl
    (fun f fn hf hfn => by
      obtain rfl : f = 7 := Option.some.inj ((show Tryd.prog.funcNamed "florin/florinlaw07.HeaderOnce" = some 7 by kernel_rfl).symm.trans hf) |>.symm
      obtain rfl : fn = Tryd.f7 := (Option.some.inj (Tryd.func7.symm.trans hfn)).symm
      exact ⟨by kernel_rfl, fun j t ht => by
        rw [Tryd.params7] at ht
        have hm : t ∈ [36] := by simpa using Array.mem_of_getElem? ht
        have hall : ([36].all fun u => !Tryd.prog.wantsStandIn u) = true := by kernel_rfl
        exact (show Tryd.prog.wantsStandIn t = false by simpa using List.all_eq_true.1 hall t hm)⟩)
    (by kernel_rfl)
#print axioms proved
end Go.Proofs.YtcaclbblldnnnaaDoor.headerOnce
