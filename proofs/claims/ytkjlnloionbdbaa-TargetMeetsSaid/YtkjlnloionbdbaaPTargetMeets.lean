/-
  TargetMeetsSaid: for every input that the row lets in, the Go function florin/florinlaw05.TargetMeets returns true, panics nowhere, and leaves its arguments reading as they did; no condition beyond the row's own.
-/
import Derived.Test.YtkjlnloionbdbaaRows
import Derived.Test.YtkjlnloionbdbaaOpen
import Derived.Test.YtkjlnloionbdbaaBy8
namespace Go.Proofs.Ytkjlnloionbdbaa.targetMeets
open Go.ChangeShapes Go.WideShapes Go.ChangeAt Go.RowKit
open Go.ChangeMaps (open_string shut_string)
set_option linter.unusedVariables false

theorem own : ownKnob Try.prog.godebug = none := by kernel_rfl
theorem laidOut : laidOutB Try.prog = true := by kernel_rfl

/-- The walk: the call returns true, and writes nothing that was there. -/
theorem walk (v0 v1 v2 v3 : Value) (w : World) (k0 : Rd Try.prog w 55 v0) (k1 : Rd Try.prog w 49 v1) (k2 : Rd Try.prog w 49 v2) (k3 : Rd Try.prog w 49 v3) :
    Calls Try.prog 8 #[v0, v1, v2, v3] w fun e w' => e = .returned (.bool true) ∧ Below w.heap.size w w' := by
  obtain ⟨zs, rfl, hl, hw⟩ := k0.arrInts (n := 32) (k := .u8) Try.underlying55 Try.underlying5 (by kernel_rfl) (by kernel_rfl)
  obtain ⟨a, rfl, ha⟩ := k1.int Try.underlying49
  obtain ⟨b, rfl, hb⟩ := k2.int Try.underlying49
  obtain ⟨lim, rfl, hlim⟩ := k3.int Try.underlying49
  have hz : zs.map (Value.int .u8) = b8l (fun i => zs.getD i 0) 32 := by
    apply List.ext_getElem
    · simp [b8l, hl]
    · intro i h1 h2
      have h3 : i < zs.length := by simpa using h1
      simp [b8l, List.getD, List.getElem?_eq_getElem h3]
  rw [hz]
  refine targetmeets_walk (fun i => zs.getD i 0) (fun i => ?_) a b lim (u32_wf5 ha) (u32_wf5 hb) (u32_wf5 hlim) w
  by_cases h : i < zs.length
  · exact u8_of_wf (hw (zs.getD i 0) (by simp [List.getD, List.getElem?_eq_getElem h]))
  · rw [show zs.getD i 0 = 0 by simp [List.getD, List.getElem?_eq_none (Nat.le_of_not_lt h)]]
    omega

set_option maxRecDepth 100000 in
theorem lifted (os : Os) (started : os.Started) (H : Type) (enc : TypeId × Value → H) :
    ReturnsInHanded {} Try.checked os 8 .any (Rows.targetMeetsSpec.pre6 enc Try.prog Try.f8 Rows.targetMeetsRow.domain false) (Rows.targetMeetsSpec.post enc Try.prog Try.f8 false true false false) := by
  refine returnsInHanded_of_change (C := Try.checked) own started (by kernel_rfl) Try.func8
    (ChangeSpec.witness6 (enc := enc) (C := Try.checked) false ⟨#[], #[((Try.prog.info? 55).bind (·.zero)).getD undef, ((Try.prog.info? 49).bind (·.zero)).getD undef, ((Try.prog.info? 49).bind (·.zero)).getD undef, ((Try.prog.info? 49).bind (·.zero)).getD undef], []⟩ 8 (by kernel_rfl) (by kernel_rfl) (by kernel_rfl) (by kernel_rfl)) ?_
  intro W base args ds gs before hval0 hW hcnd _
  have hval : ∀ (j : Nat) t v, Try.f8.params[j]? = some t → args[j]? = some v → Value.okWide Try.prog W .any base t v := hval0
  have hW' := hW
  obtain ⟨p, q, hA0, hV, rfl, hfz, hnd⟩ := hW
  have hA : DataW.TrodAll enc Try.prog W 0 (fun _ => true) true Try.f8.params.toList args.toList ds p := hA0
  rw [Try.params8] at hA hval
  obtain ⟨v0, vs0, d0, ds0, p0, q0, hargs, rfl, rfl, h0, r0⟩ := trodAll_cons hA
  obtain ⟨v1, vs1, d1, ds1, p1, q1, rfl, rfl, rfl, h1, r1⟩ := trodAll_cons r0
  obtain ⟨v2, vs2, d2, ds2, p2, q2, rfl, rfl, rfl, h2, r2⟩ := trodAll_cons r1
  obtain ⟨v3, vs3, d3, ds3, p3, q3, rfl, rfl, rfl, h3, r3⟩ := trodAll_cons r2
  obtain ⟨rfl, rfl, rfl⟩ := trodAll_nil r3
  obtain rfl : args = #[v0, v1, v2, v3] := by cases args; simp_all
  obtain ⟨rfl, rfl⟩ := trodVars_none hV
  have lt0 : ∀ x ∈ p0, x.block < W.heap.size := by obtain ⟨m, hm⟩ := h0; exact DataW.trod_lt m _ _ _ hm
  have lt1 : ∀ x ∈ p1, x.block < W.heap.size := by obtain ⟨m, hm⟩ := h1; exact DataW.trod_lt m _ _ _ hm
  have lt2 : ∀ x ∈ p2, x.block < W.heap.size := by obtain ⟨m, hm⟩ := h2; exact DataW.trod_lt m _ _ _ hm
  have lt3 : ∀ x ∈ p3, x.block < W.heap.size := by obtain ⟨m, hm⟩ := h3; exact DataW.trod_lt m _ _ _ hm
  refine (walk v0 v1 v2 v3 W ⟨_, enc, d0, p0, _, _, h0, hval 0 55 v0 rfl rfl⟩ ⟨_, enc, d1, p1, _, _, h1, hval 1 49 v1 rfl rfl⟩ ⟨_, enc, d2, p2, _, _, h2, hval 2 49 v2 rfl rfl⟩ ⟨_, enc, d3, p3, _, _, h3, hval 3 49 v3 rfl rfl⟩).mono fun e W' ⟨he, bel⟩ => ?_
  subst he
  exact ⟨_, rfl, _, _, _, [], _, [], hW', trodAll_mk1 (shut_bool Try.underlying4 _), (trodAll_cons_mk (Below.trod laidOut (by kernel_rfl) (of_decide_eq_true (by kernel_rfl)) h0 bel lt0) (trodAll_cons_mk (Below.trod laidOut (by kernel_rfl) (of_decide_eq_true (by kernel_rfl)) h1 bel lt1) (trodAll_cons_mk (Below.trod laidOut (by kernel_rfl) (of_decide_eq_true (by kernel_rfl)) h2 bel lt2) (trodAll_cons_mk (Below.trod laidOut (by kernel_rfl) (of_decide_eq_true (by kernel_rfl)) h3 bel lt3) trodAll_mk0)))), rfl, bel.frame _, fun h => by cases h⟩

theorem over : Rows.targetMeetsRow.holds Try.pinned (OpenSpec.ofChange Rows.targetMeetsSpec) :=
  OpenClaim.holds_of_wide 8 Try.f8 rfl rfl rfl rfl rfl rfl rfl ⟨rfl, rfl, rfl, rfl, rfl⟩ rfl rfl rfl rfl rfl (by kernel_rfl) Try.func8 (by kernel_rfl)
    (of_decide_eq_true (by kernel_rfl)) (by unfold Func.isWrapper; first | (rw [if_pos (by decide +kernel)]; kernel_rfl) | (rw [if_neg (by decide +kernel)]; exact ⟨rfl, rfl⟩))
    (fun os started H enc _ => lifted os started H enc)

/-- The statement. -/
theorem proved : Rows.TargetMeetsSaid := over
#print axioms proved
end Go.Proofs.Ytkjlnloionbdbaa.targetMeets
