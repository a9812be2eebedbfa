/-
  DiskRowSaid: for every input that the row lets in, the Go function florin/florinlaw18.DiskRow returns true, panics nowhere, and leaves its arguments reading as they did; no condition beyond the row's own.
-/
import Derived.Test.YtoihponjnhhgbaaRows
import Derived.Test.YtoihponjnhhgbaaOpen
import Derived.Test.YtoihponjnhhgbaaDk17
namespace Go.Proofs.Ytoihponjnhhgbaa.diskRow
open Go.ChangeShapes Go.WideShapes Go.ChangeAt Go.RowKit
open Go.ChangeMaps (open_string shut_string)
set_option linter.unusedVariables false

theorem own : ownKnob Try.prog.godebug = none := by kernel_rfl
theorem laidOut : laidOutB Try.prog = true := by kernel_rfl

/-- The walk: the call returns true, and writes nothing that was there. -/
theorem walk (v0 v1 v2 v3 : Value) (w : World) (k0 : Rd Try.prog w 25 v0) (k1 : Rd Try.prog w 3 v1) (k2 : Rd Try.prog w 22 v2) (k3 : Rd Try.prog w 22 v3) :
    Calls Try.prog 7 #[v0, v1, v2, v3] w fun e w' => e = .returned (.bool true) ∧ Below w.heap.size w w' := by
  obtain ⟨ao, n, c, base, po, m, pc, R, rfl, hdp, _, _, _⟩ := rd_disk k0
  obtain ⟨x1, rfl, hx1⟩ := k1.int Try.underlying3
  obtain ⟨a2, n2, c2, f2, rfl, hb2, hr2, hm2⟩ := k2.bytes Try.underlying22 Try.underlying5 (by kernel_rfl)
  obtain ⟨a3, n3, c3, f3, rfl, hb3, hr3, hm3⟩ := k3.bytes Try.underlying22 Try.underlying5 (by kernel_rfl)
  exact row_walk ao n c base po m pc R x1 a2 n2 c2 ((List.range n2).map f2) a3 n3 c3 ((List.range n3).map f3) w hdp (by rw [b8_range]; exact hr2) (by rw [b8_range]; exact hr3) (by intro x hx; obtain ⟨i, _, rfl⟩ := List.mem_map.1 hx; exact hb3 i) (i64_of_wf hx1)

set_option maxRecDepth 100000 in
theorem lifted (os : Os) (started : os.Started) (H : Type) (enc : TypeId × Value → H) :
    ReturnsInHanded {} Try.checked os 7 .any (Rows.diskRowSpec.pre6 enc Try.prog Try.f7 Rows.diskRowRow.domain false) (Rows.diskRowSpec.post enc Try.prog Try.f7 false true false false) := by
  refine returnsInHanded_of_change (C := Try.checked) own started (by kernel_rfl) Try.func7
    (ChangeSpec.witness6 (enc := enc) (C := Try.checked) false ⟨#[], #[((Try.prog.info? 25).bind (·.zero)).getD undef, ((Try.prog.info? 3).bind (·.zero)).getD undef, ((Try.prog.info? 22).bind (·.zero)).getD undef, ((Try.prog.info? 22).bind (·.zero)).getD undef], []⟩ 8 (by kernel_rfl) (by kernel_rfl) (by kernel_rfl) (by kernel_rfl)) ?_
  intro W base args ds gs before hval0 hW hcnd _
  have hval : ∀ (j : Nat) t v, Try.f7.params[j]? = some t → args[j]? = some v → Value.okWide Try.prog W .any base t v := hval0
  have hW' := hW
  obtain ⟨p, q, hA0, hV, rfl, hfz, hnd⟩ := hW
  have hA : DataW.TrodAll enc Try.prog W 0 (fun _ => true) true Try.f7.params.toList args.toList ds p := hA0
  rw [Try.params7] at hA hval
  obtain ⟨v0, vs0, d0, ds0, p0, q0, hargs, rfl, rfl, h0, r0⟩ := trodAll_cons hA
  obtain ⟨v1, vs1, d1, ds1, p1, q1, rfl, rfl, rfl, h1, r1⟩ := trodAll_cons r0
  obtain ⟨v2, vs2, d2, ds2, p2, q2, rfl, rfl, rfl, h2, r2⟩ := trodAll_cons r1
  obtain ⟨v3, vs3, d3, ds3, p3, q3, rfl, rfl, rfl, h3, r3⟩ := trodAll_cons r2
  obtain ⟨rfl, rfl, rfl⟩ := trodAll_nil r3
  obtain rfl : args = #[v0, v1, v2, v3] := by cases args; simp_all
  obtain ⟨rfl, rfl⟩ := trodVars_none hV
  have lt0 : ∀ x ∈ p0, x.block < W.heap.size := by obtain ⟨m, hm⟩ := h0; exact DataW.trod_lt m _ _ _ hm
  have lt1 : ∀ x ∈ p1, x.block < W.heap.size := by obtain ⟨m, hm⟩ := h1; exact DataW.trod_lt m _ _ _ hm
  have lt2 : ∀ x ∈ p2, x.block < W.heap.size := by obtain ⟨m, hm⟩ := h2; exact DataW.trod_lt m _ _ _ hm
  have lt3 : ∀ x ∈ p3, x.block < W.heap.size := by obtain ⟨m, hm⟩ := h3; exact DataW.trod_lt m _ _ _ hm
  refine (walk v0 v1 v2 v3 W ⟨_, enc, d0, p0, _, _, h0, hval 0 25 v0 rfl rfl⟩ ⟨_, enc, d1, p1, _, _, h1, hval 1 3 v1 rfl rfl⟩ ⟨_, enc, d2, p2, _, _, h2, hval 2 22 v2 rfl rfl⟩ ⟨_, enc, d3, p3, _, _, h3, hval 3 22 v3 rfl rfl⟩).mono fun e W' ⟨he, bel⟩ => ?_
  subst he
  exact ⟨_, rfl, _, _, _, [], _, [], hW', trodAll_mk1 (shut_bool Try.underlying4 _), (trodAll_cons_mk (Below.trod laidOut (by kernel_rfl) (of_decide_eq_true (by kernel_rfl)) h0 bel lt0) (trodAll_cons_mk (Below.trod laidOut (by kernel_rfl) (of_decide_eq_true (by kernel_rfl)) h1 bel lt1) (trodAll_cons_mk (Below.trod laidOut (by kernel_rfl) (of_decide_eq_true (by kernel_rfl)) h2 bel lt2) (trodAll_cons_mk (Below.trod laidOut (by kernel_rfl) (of_decide_eq_true (by kernel_rfl)) h3 bel lt3) trodAll_mk0)))), rfl, bel.frame _, fun h => by cases h⟩

theorem over : Rows.diskRowRow.holds Try.pinned (OpenSpec.ofChange Rows.diskRowSpec) :=
  OpenClaim.holds_of_wide 7 Try.f7 rfl rfl rfl rfl rfl rfl rfl ⟨rfl, rfl, rfl, rfl, rfl⟩ rfl rfl rfl rfl rfl (by kernel_rfl) Try.func7 (by kernel_rfl)
    (of_decide_eq_true (by kernel_rfl)) (by unfold Func.isWrapper; first | (rw [if_pos (by decide +kernel)]; kernel_rfl) | (rw [if_neg (by decide +kernel)]; exact ⟨rfl, rfl⟩))
    (fun os started H enc _ => lifted os started H enc)

/-- The statement. -/
theorem proved : Rows.DiskRowSaid := over
#print axioms proved
end Go.Proofs.Ytoihponjnhhgbaa.diskRow
