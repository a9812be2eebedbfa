/-
  TargetSumsSaid: for every input that the row lets in, the Go function florin/florinlaw05.TargetSums returns true, panics nowhere, and leaves its arguments reading as they did; no condition beyond the row's own.
-/
import Derived.Test.YtkjlnloionbdbaaRows
import Derived.Test.YtkjlnloionbdbaaOpen
import Derived.Test.YtkjlnloionbdbaaTo2
namespace Go.Proofs.Ytkjlnloionbdbaa.targetSums
open Go.ChangeShapes Go.WideShapes Go.ChangeAt Go.RowKit
open Go.ChangeMaps (open_string shut_string)
set_option linter.unusedVariables false

theorem own : ownKnob Try.prog.godebug = none := by kernel_rfl
theorem laidOut : laidOutB Try.prog = true := by kernel_rfl

/-- The walk: the call returns true, and writes nothing that was there. -/
theorem walk (v0 v1 v2 : Value) (w : World) (k0 : Rd Try.prog w 60 v0) (k1 : Rd Try.prog w 60 v1) (k2 : Rd Try.prog w 49 v2) :
    Calls Try.prog 9 #[v0, v1, v2] w fun e w' => e = .returned (.bool true) ∧ Below w.heap.size w w' := by
  obtain ⟨ao, n, c, f, rfl, hf, hr, _⟩ := k0.ints Try.underlying60 Try.underlying49 (by kernel_rfl)
  obtain ⟨bo, k, d, g, rfl, hg, hr2, _⟩ := k1.ints Try.underlying60 Try.underlying49 (by kernel_rfl)
  obtain ⟨y, rfl, hy⟩ := k2.int Try.underlying49
  rw [c32_range] at hr hr2
  refine sums_walk ao n c _ bo k d _ y w hr hr2 (fun x hx => ?_) (fun x hx => ?_) (u32_wf5 hy)
  · obtain ⟨i, _, rfl⟩ := List.mem_map.1 hx
    exact u32_wf5 (hf i)
  · obtain ⟨i, _, rfl⟩ := List.mem_map.1 hx
    exact u32_wf5 (hg i)

set_option maxRecDepth 100000 in
theorem lifted (os : Os) (started : os.Started) (H : Type) (enc : TypeId × Value → H) :
    ReturnsInHanded {} Try.checked os 9 .any (Rows.targetSumsSpec.pre6 enc Try.prog Try.f9 Rows.targetSumsRow.domain false) (Rows.targetSumsSpec.post enc Try.prog Try.f9 false true false false) := by
  refine returnsInHanded_of_change (C := Try.checked) own started (by kernel_rfl) Try.func9
    (ChangeSpec.witness6 (enc := enc) (C := Try.checked) false ⟨#[], #[((Try.prog.info? 60).bind (·.zero)).getD undef, ((Try.prog.info? 60).bind (·.zero)).getD undef, ((Try.prog.info? 49).bind (·.zero)).getD undef], []⟩ 8 (by kernel_rfl) (by kernel_rfl) (by kernel_rfl) (by kernel_rfl)) ?_
  intro W base args ds gs before hval0 hW hcnd _
  have hval : ∀ (j : Nat) t v, Try.f9.params[j]? = some t → args[j]? = some v → Value.okWide Try.prog W .any base t v := hval0
  have hW' := hW
  obtain ⟨p, q, hA0, hV, rfl, hfz, hnd⟩ := hW
  have hA : DataW.TrodAll enc Try.prog W 0 (fun _ => true) true Try.f9.params.toList args.toList ds p := hA0
  rw [Try.params9] at hA hval
  obtain ⟨v0, vs0, d0, ds0, p0, q0, hargs, rfl, rfl, h0, r0⟩ := trodAll_cons hA
  obtain ⟨v1, vs1, d1, ds1, p1, q1, rfl, rfl, rfl, h1, r1⟩ := trodAll_cons r0
  obtain ⟨v2, vs2, d2, ds2, p2, q2, rfl, rfl, rfl, h2, r2⟩ := trodAll_cons r1
  obtain ⟨rfl, rfl, rfl⟩ := trodAll_nil r2
  obtain rfl : args = #[v0, v1, v2] := by cases args; simp_all
  obtain ⟨rfl, rfl⟩ := trodVars_none hV
  have lt0 : ∀ x ∈ p0, x.block < W.heap.size := by obtain ⟨m, hm⟩ := h0; exact DataW.trod_lt m _ _ _ hm
  have lt1 : ∀ x ∈ p1, x.block < W.heap.size := by obtain ⟨m, hm⟩ := h1; exact DataW.trod_lt m _ _ _ hm
  have lt2 : ∀ x ∈ p2, x.block < W.heap.size := by obtain ⟨m, hm⟩ := h2; exact DataW.trod_lt m _ _ _ hm
  refine (walk v0 v1 v2 W ⟨_, enc, d0, p0, _, _, h0, hval 0 60 v0 rfl rfl⟩ ⟨_, enc, d1, p1, _, _, h1, hval 1 60 v1 rfl rfl⟩ ⟨_, enc, d2, p2, _, _, h2, hval 2 49 v2 rfl rfl⟩).mono fun e W' ⟨he, bel⟩ => ?_
  subst he
  exact ⟨_, rfl, _, _, _, [], _, [], hW', trodAll_mk1 (shut_bool Try.underlying4 _), (trodAll_cons_mk (Below.trod laidOut (by kernel_rfl) (of_decide_eq_true (by kernel_rfl)) h0 bel lt0) (trodAll_cons_mk (Below.trod laidOut (by kernel_rfl) (of_decide_eq_true (by kernel_rfl)) h1 bel lt1) (trodAll_cons_mk (Below.trod laidOut (by kernel_rfl) (of_decide_eq_true (by kernel_rfl)) h2 bel lt2) trodAll_mk0))), rfl, bel.frame _, fun h => by cases h⟩

theorem over : Rows.targetSumsRow.holds Try.pinned (OpenSpec.ofChange Rows.targetSumsSpec) :=
  OpenClaim.holds_of_wide 9 Try.f9 rfl rfl rfl rfl rfl rfl rfl ⟨rfl, rfl, rfl, rfl, rfl⟩ rfl rfl rfl rfl rfl (by kernel_rfl) Try.func9 (by kernel_rfl)
    (of_decide_eq_true (by kernel_rfl)) (by unfold Func.isWrapper; first | (rw [if_pos (by decide +kernel)]; kernel_rfl) | (rw [if_neg (by decide +kernel)]; exact ⟨rfl, rfl⟩))
    (fun os started H enc _ => lifted os started H enc)

/-- The statement. -/
theorem proved : Rows.TargetSumsSaid := over
#print axioms proved
end Go.Proofs.Ytkjlnloionbdbaa.targetSums
