/- UndL: as Und, but what is held need not hold behind the region's last operation: so a region that reads a variable and writes it at its end (l = append(l, ..), l in a box) is walked by one plan. (hM) -/
import Derived.Test.YtfbhpkhpkaeagaaDoorRfC
namespace Go.Proofs.YtfbhpkhpkaeagaaDoor
set_option linter.unusedVariables false
set_option linter.unusedSimpArgs false
open Go.RowKit

/-- whatever order: S behind every operation but z -/
def wpAnyL (P : Program) (ops : Array Oper) (Q : Exit → Act → World → Prop) (z : Nat) (S : World → Prop) : Nat → Array Bool → Act → World → Prop
  | 0, listed, a, w => Region.ready .any ops listed = [] ∧ Q .normal a w
  | fuel + 1, listed, a, w => (Region.ready .any ops listed = [] → Q .normal a w) ∧
    ∀ i ∈ Region.ready .any ops listed, wpOp P ops Q i (fun a' w' => (i = z ∨ S w') ∧ wpAnyL P ops Q z S fuel (listed.setIfInBounds i true) a' w') a w
/-- z waits for i -/
def waits (ops : Array Oper) (z i : Nat) : Bool := ((ops[z]?).map fun o => o.after.any fun e => Region.binds .any e && e.on == i).getD false
section
variable {P : Program} {ops : Array Oper} {Q : Exit → Act → World → Prop} {S : World → Prop} {z : Nat}
theorem wpAny_of_L : ∀ (fuel : Nat) (listed : Array Bool) (a : Act) (w : World), wpAnyL P ops Q z S fuel listed a w → wpAny P .any ops Q fuel listed a w
  | 0, _, _, _, h => h
  | fuel + 1, _, _, _, h => ⟨h.1, fun i hi => wpOp_mono (fun a' w' h' => wpAny_of_L fuel _ a' w' h'.2) (h.2 i hi)⟩
theorem wpAnyL_done {listed : Array Bool} {a : Act} {w : World} (hr : Region.ready .any ops listed = []) (h : Q .normal a w) : ∀ fuel, wpAnyL P ops Q z S fuel listed a w
  | 0 => ⟨hr, h⟩
  | _ + 1 => ⟨fun _ => h, by rw [hr]; simp⟩
theorem wpAnyL_weak {S' : World → Prop} (hs : ∀ x, S' x → S x) : ∀ (fuel : Nat) (listed : Array Bool) (a : Act) (w : World), wpAnyL P ops Q z S' fuel listed a w → wpAnyL P ops Q z S fuel listed a w
  | 0, _, _, _, h => h
  | fuel + 1, _, _, _, h => ⟨h.1, fun i hi => wpOp_mono (fun a' w' h' => ⟨h'.1.imp id (hs _), wpAnyL_weak hs fuel _ a' w' h'.2⟩) (h.2 i hi)⟩
theorem wpAnyL_first {i : Nat} {oi : Oper} {v : Value} (hi : ops[i]? = some oi) (hz : waits ops z i = true) (hsel : ∀ (j : Nat) (o : Oper) cs b, ops[j]? = some o → o.op ≠ .select cs b)
    (hQ : ∀ c a w, Q (.panic c) (a.put oi.dst v) w → Q (.panic c) a w) :
    ∀ (fuel : Nat) (listed : Array Bool) (a : Act) (w : World),
      (∀ j oj, ops[j]? = some oj → j ≠ i → listed.getD j true = false → (∀ e ∈ oj.after, Region.binds .any e = true → e.on ≠ i) → oi.apart ops oj = true) →
      i ∈ Region.ready .any ops listed → YieldsIf P ops S oi v a → S w →
      wpAnyL P ops Q z S fuel (listed.setIfInBounds i true) (a.put oi.dst v) w → wpAnyL P ops Q z S (fuel + 1) listed a w := by
  intro fuel
  induction fuel with
  | zero =>
    intro listed a w _ hr hy hS H
    refine ⟨fun h => by rw [h] at hr; exact absurd hr (by simp), fun j hj => ?_⟩
    by_cases hji : j = i
    · subst hji; exact hy.wpOp hi hS ⟨.inr hS, H⟩
    · have h0 := ready_mono hj hji
      rw [H.1] at h0
      exact absurd h0 (by simp)
  | succ fuel ih =>
    intro listed a w hfree hr hy hS H
    refine ⟨fun h => by rw [h] at hr; exact absurd hr (by simp), fun j hj => ?_⟩
    by_cases hji : j = i
    · subst hji; exact hy.wpOp hi hS ⟨.inr hS, H⟩
    have hL := H.2 j (ready_mono hj hji)
    obtain ⟨hun, oj, hoj, hall⟩ := mem_ready.1 hj
    have hnot : ∀ e ∈ oj.after, Region.binds .any e = true → e.on ≠ i := by
      intro e he hb heq
      have p := hall e he hb
      have q := (mem_ready.1 hr).1
      rw [heq] at p
      rcases Nat.lt_or_ge i listed.size with h' | h'
      · simp [h'] at p q; rw [q] at p; exact absurd p (by simp)
      · simp [Array.getElem?_eq_none h'] at p
    have hjz : j ≠ z := by
      intro e
      subst e
      unfold waits at hz
      rw [hoj] at hz
      simp only [Option.map_some, Option.getD_some, Array.any_eq_true] at hz
      obtain ⟨m, hm, hb⟩ := hz
      simp only [Bool.and_eq_true, beq_iff_eq] at hb
      exact hnot _ (Array.getElem_mem hm) hb.1 hb.2
    have hP := wpOp_putIf hoj (hfree j oj hoj hji hun hnot) (fun cs b => hsel i oi cs b hi) (fun cs b => hsel j oj cs b hoj) hQ hy hL
    have hfree' : ∀ k ok, ops[k]? = some ok → k ≠ i → (listed.setIfInBounds j true).getD k true = false → (∀ e ∈ ok.after, Region.binds .any e = true → e.on ≠ i) → oi.apart ops ok = true := by
      intro k ok hk hki hu hno
      refine hfree k ok hk hki ?_ hno
      by_cases hjk : j = k
      · subst hjk; exact hun
      · rwa [getD_set_ne true hjk] at hu
    refine wpOp_mono (fun a' w' h3 => ?_) hP
    obtain ⟨hy', hor, hrest⟩ := h3
    have hS' : S w' := hor.resolve_left hjz
    refine ⟨.inr hS', ih _ a' w' hfree' (ready_mono hr (Ne.symm hji)) hy' hS' ?_⟩
    rw [Array.setIfInBounds_comm _ _ hji]
    exact hrest
end
/-- the walk along a plan; S need not hold behind z -/
def wpU (P : Program) (ops : Array Oper) (Q : Exit → Act → World → Prop) (z : Nat) (bad : List Nat) : List Nat → (World → Prop) → Act → World → Prop
  | [], _, a, w => Q .normal a w
  | i :: rest, S, a, w =>
    if bad.contains i then wpOp P ops Q i (fun a' w' => ∃ S' : World → Prop, (∀ x, S' x → S x) ∧ (i = z ∨ S' w') ∧ wpU P ops Q z bad rest S' a' w') a w
    else ∃ o v, ops[i]? = some o ∧ YieldsIf P ops S o v a ∧ S w ∧ wpU P ops Q z bad rest S (a.put o.dst v) w
def planOkU (ops : Array Oper) (z : Nat) (bad : List Nat) : List Nat → Array Bool → Bool
  | [], listed => (Region.ready .any ops listed).isEmpty
  | i :: rest, listed => (if bad.contains i then Region.ready .any ops listed == [i] else waits ops z i && Region.free .any ops listed i && (Region.ready .any ops listed).contains i) && planOkU ops z bad rest (listed.setIfInBounds i true)
theorem wpU_any {P : Program} {ops : Array Oper} {Q : Exit → Act → World → Prop} {z : Nat} {bad : List Nat} (hs : Region.noSelect ops = true) :
    ∀ (plan : List Nat) (S : World → Prop) (fuel : Nat) (listed : Array Bool) (a : Act) (w : World), plan.length ≤ fuel → planOkU ops z bad plan listed = true → wpU P ops (QN Q) z bad plan S a w → wpAnyL P ops (QN Q) z S fuel listed a w := by
  intro plan
  induction plan with
  | nil =>
    intro S fuel listed a w _ hp h
    simp only [planOkU, List.isEmpty_iff] at hp
    exact wpAnyL_done hp h fuel
  | cons i rest ih =>
    intro S fuel listed a w hf hp h
    obtain ⟨fuel, rfl⟩ : ∃ k, fuel = k + 1 := ⟨fuel - 1, by simp at hf; omega⟩
    have hf' : rest.length ≤ fuel := by simp at hf; omega
    unfold planOkU at hp
    unfold wpU at h
    rw [Bool.and_eq_true] at hp
    by_cases hb : bad.contains i = true
    · rw [if_pos hb] at h hp
      have hp1 : Region.ready .any ops listed = [i] := by simpa using hp.1
      refine ⟨fun h0 => by rw [h0] at hp1; exact absurd hp1 (by simp), fun j hj => ?_⟩
      rw [hp1, List.mem_singleton] at hj
      subst hj
      exact wpOp_mono (fun a' w' ⟨S', hi, hS', hw⟩ => ⟨hS'.imp id (hi _), wpAnyL_weak hi fuel _ a' w' (ih S' fuel _ a' w' hf' hp.2 hw)⟩) h
    · rw [if_neg hb] at h hp
      have hp1 := hp.1
      rw [Bool.and_eq_true, Bool.and_eq_true] at hp1
      obtain ⟨o, v, ho, hy, hS, hw⟩ := h
      exact wpAnyL_first ho hp1.1.1 (Region.noSelect_spec hs) (fun _ _ _ h => h) fuel listed a w (Region.free_spec ho hp1.1.2) (by simpa using hp1.2) hy hS (ih S fuel _ _ w hf' hp.2 hw)
section
variable {P : Program} {ops : List Oper} {Q : Exit → Act → World → Prop} {S : World → Prop} {z : Nat} {bad rest : List Nat} {a : Act} {w : World} {i : Nat} {o : Oper} {v : Value}
theorem wpU_nilR (h : Q .normal a w) : wpU P ops.toArray (QN (QR Q)) z bad [] S a w := h
theorem wpU_nil (h : Q .normal a w) : wpU P ops.toArray (QN Q) z bad [] S a w := h
theorem wpU_take (ho : ops[i]? = some o) (hb : bad.contains i = false) (hw : Region.wanted o (yielded ops.toArray a.tmps) = true) (hy : ∀ w, S w → (execOp a.eval o).run P w = .ok (.value v) w) (hS : S w)
    (h : wpU P ops.toArray Q z bad rest S (a.put o.dst v) w) : wpU P ops.toArray Q z bad (i :: rest) S a w := by
  unfold wpU
  rw [if_neg (by rw [hb]; decide)]
  exact ⟨o, v, by simpa using ho, .inl ⟨hw, hy⟩, hS, h⟩
theorem wpU_yield (ho : ops[i]? = some o) (hb : bad.contains i = false) (hy : YieldsIf P ops.toArray S o v a) (hS : S w) (h : wpU P ops.toArray Q z bad rest S (a.put o.dst v) w) : wpU P ops.toArray Q z bad (i :: rest) S a w := by
  unfold wpU
  rw [if_neg (by rw [hb]; decide)]
  exact ⟨o, v, by simpa using ho, hy, hS, h⟩
theorem wpU_pass (ho : ops[i]? = some o) (hb : bad.contains i = false) (hw : Region.wanted o (yielded ops.toArray a.tmps) = false) (hS : S w)
    (h : wpU P ops.toArray Q z bad rest S (a.put o.dst undef) w) : wpU P ops.toArray Q z bad (i :: rest) S a w := by
  unfold wpU
  rw [if_neg (by rw [hb]; decide)]
  exact ⟨o, undef, by simpa using ho, .inr ⟨hw, rfl⟩, hS, h⟩
theorem wpU_step (ho : ops[i]? = some o) (hb : bad.contains i = true)
    (h : ∀ K : Act → World → Prop, Shut (∀ a w (S' : World → Prop), (∀ x, S' x → S x) → S' w → (S' w → wpU P ops.toArray Q z bad rest S' a w) → K a w) → if Region.wanted o (yielded ops.toArray a.tmps) = true then Oper.wp P o a w K Q else K (a.put o.dst undef) w) :
    wpU P ops.toArray Q z bad (i :: rest) S a w := by
  have hK := h (fun a' w' => ∃ S' : World → Prop, (∀ x, S' x → S x) ∧ (i = z ∨ S' w') ∧ wpU P ops.toArray Q z bad rest S' a' w') (fun _ _ S' hi hS hW => ⟨S', hi, .inr hS, hW hS⟩)
  unfold wpU
  rw [if_pos hb]
  have ho' : ops.toArray[i]? = some o := by simpa using ho
  unfold wpOp
  simp only [ho']
  split
  · rename_i hw; rw [if_pos hw] at hK; exact .inl hK
  · rename_i hw; rw [if_neg hw] at hK; exact hK
/-- the last one -/
theorem wpU_last (ho : ops[z]? = some o) (hb : bad.contains z = true)
    (h : ∀ K : Act → World → Prop, Shut (∀ a w, wpU P ops.toArray Q z bad rest S a w → K a w) → if Region.wanted o (yielded ops.toArray a.tmps) = true then Oper.wp P o a w K Q else K (a.put o.dst undef) w) :
    wpU P ops.toArray Q z bad (z :: rest) S a w := by
  have hK := h (fun a' w' => ∃ S' : World → Prop, (∀ x, S' x → S x) ∧ (True ∨ S' w') ∧ wpU P ops.toArray Q z bad rest S' a' w') (fun _ _ hW => ⟨S, fun _ h => h, .inl trivial, hW⟩)
  unfold wpU
  rw [if_pos hb]
  have ho' : ops.toArray[z]? = some o := by simpa using ho
  unfold wpOp
  simp only [ho']
  split
  · rename_i hw; rw [if_pos hw] at hK; exact .inl hK
  · rename_i hw; rw [if_neg hw] at hK; exact hK
end
section
variable {P : Program} {Q : Exit → Act → World → Prop} {l : List Oper} {id : Nat} {a : Act} {w : World}
theorem planU_round {r n : Nat} (z : Nat) (S : World → Prop) (bad plan : List Nat) (hm : P.follows .mixedOrders = true)
    (hok : (noDefer l && Region.noSelect l.toArray && planOkU l.toArray z bad plan (Array.replicate l.toArray.size false) && (plan.length == l.toArray.size)) = true)
    (hS : S w.drew) (h : S w.drew → wpU P l.toArray (QN (QR Q)) z bad plan S a w.drew) : (Code.region id l.toArray true).wpIn (Fence.wide.inRound r) n P Q a w := by
  simp only [Bool.and_eq_true, beq_iff_eq] at hok
  have h1 := wpU_any hok.1.1.2 plan S l.toArray.size (Array.replicate l.toArray.size false) a w.drew (by omega) hok.1.2 (h hS)
  have h2 := wpAny_of_L _ _ _ _ h1
  refine wpIn_mono (Q := QN (QR Q)) (wpIn_region_draw fun t => ops_round (by simpa using fun o ho => noDefer_spec hok.1.1.1 ho) (fun _ _ h => h) _ _ _ ?_) ?_
  · simp only [Region.schedule, hm, Bool.true_or, if_true]
    exact wpAny_sound l.toArray.size t _ a _ h2
  · intro e a w h
    cases e <;> first | exact h | exact False.elim h
theorem wp_planU (z : Nat) (S : World → Prop) (bad plan : List Nat) (hm : P.follows .mixedOrders = true)
    (hok : (Region.noSelect l.toArray && planOkU l.toArray z bad plan (Array.replicate l.toArray.size false) && (plan.length == l.toArray.size)) = true)
    (hS : S w.drew) (h : S w.drew → wpU P l.toArray (QN Q) z bad plan S a w.drew) : (Code.region id l.toArray true).wp P Q a w := by
  simp only [Bool.and_eq_true, beq_iff_eq] at hok
  have h1 := wpU_any hok.1.1 plan S l.toArray.size (Array.replicate l.toArray.size false) a w.drew (by omega) hok.1.2 (h hS)
  have h2 : (Code.region id l.toArray true).wp P (QN Q) a w := wp_region_any hm (wpAny_of_L _ _ _ _ h1)
  refine Code.wp_mono (fun e a w hq => ?_) h2
  cases e <;> first | exact hq | exact hq.elim
end
end Go.Proofs.YtfbhpkhpkaeagaaDoor
