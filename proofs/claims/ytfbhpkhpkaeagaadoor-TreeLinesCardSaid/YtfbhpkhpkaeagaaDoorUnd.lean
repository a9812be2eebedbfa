/- Und: a region that draws its order, walked ONCE, in an order that is laid down ahead (a plan): operations that yield the same value in every world that meets S are taken as they stand in the plan; each other one must be the only one that may come up. -/
import Derived.Test.YtfbhpkhpkaeagaaDoorBase
namespace Go.Proofs.YtfbhpkhpkaeagaaDoor
set_option linter.unusedVariables false
set_option linter.unusedSimpArgs false
open Go.RowKit

/-- no panic is let out of the region -/
def QN (Q : Exit → Act → World → Prop) : Exit → Act → World → Prop
  | .panic _, _, _ => False
  | e, a, w => Q e a w

def wpT (P : Program) (ops : Array Oper) (Q : Exit → Act → World → Prop) (bad : List Nat) : List Nat → (World → Prop) → Act → World → Prop
  | [], _, a, w => Q .normal a w
  | i :: rest, S, a, w =>
    if bad.contains i then wpOp P ops Q i (fun a' w' => ∃ S' : World → Prop, (∀ x, S' x → S x) ∧ S' w' ∧ wpT P ops Q bad rest S' a' w') a w
    else ∃ o v, ops[i]? = some o ∧ YieldsIf P ops S o v a ∧ S w ∧ wpT P ops Q bad rest S (a.put o.dst v) w

/-- the plan fits the region's edges -/
def planOk (ops : Array Oper) (bad : List Nat) : List Nat → Array Bool → Bool
  | [], listed => (Region.ready .any ops listed).isEmpty
  | i :: rest, listed => (if bad.contains i then Region.ready .any ops listed == [i] else Region.free .any ops listed i && (Region.ready .any ops listed).contains i) && planOk ops bad rest (listed.setIfInBounds i true)

theorem wpAnyH_weak {P : Program} {ops : Array Oper} {Q : Exit → Act → World → Prop} {S S' : World → Prop} (hs : ∀ x, S' x → S x) :
    ∀ (fuel : Nat) (listed : Array Bool) (a : Act) (w : World), wpAnyH P .any ops Q S' fuel listed a w → wpAnyH P .any ops Q S fuel listed a w
  | 0, _, _, _, h => h
  | fuel + 1, _, _, _, h => ⟨h.1, fun i hi => wpOp_mono (fun a' w' h' => ⟨hs _ h'.1, wpAnyH_weak hs fuel _ a' w' h'.2⟩) (h.2 i hi)⟩

theorem wpT_any {P : Program} {ops : Array Oper} {Q : Exit → Act → World → Prop} {bad : List Nat} (hs : Region.noSelect ops = true) :
    ∀ (plan : List Nat) (S : World → Prop) (fuel : Nat) (listed : Array Bool) (a : Act) (w : World), plan.length ≤ fuel → planOk ops bad plan listed = true → wpT P ops (QN Q) bad plan S a w → wpAnyH P .any ops (QN Q) S fuel listed a w := by
  intro plan
  induction plan with
  | nil =>
    intro S fuel listed a w _ hp h
    simp only [planOk, List.isEmpty_iff] at hp
    exact wpAnyH_done hp h fuel
  | cons i rest ih =>
    intro S fuel listed a w hf hp h
    obtain ⟨fuel, rfl⟩ : ∃ k, fuel = k + 1 := ⟨fuel - 1, by simp at hf; omega⟩
    have hf' : rest.length ≤ fuel := by simp at hf; omega
    unfold planOk at hp
    unfold wpT at h
    rw [Bool.and_eq_true] at hp
    by_cases hb : bad.contains i = true
    · rw [if_pos hb] at h
      rw [if_pos hb] at hp
      have hp1 : Region.ready .any ops listed = [i] := by simpa using hp.1
      refine wpAnyH_all hp1 (by simp) fun j hj => ?_
      simp only [List.mem_singleton] at hj
      subst hj
      exact wpOp_mono (fun a' w' ⟨S', hi, hS', hw⟩ => ⟨hi _ hS', wpAnyH_weak hi fuel _ a' w' (ih S' fuel _ a' w' hf' hp.2 hw)⟩) h
    · rw [if_neg hb] at h
      rw [if_neg hb] at hp
      have hp1 := hp.1
      rw [Bool.and_eq_true] at hp1
      obtain ⟨o, v, ho, hy, hS, hw⟩ := h
      exact wpAnyH_take ho hs hp1.1 hp1.2 (fun _ _ _ h => h) hy hS (ih S fuel _ _ w hf' hp.2 hw)

theorem wp_plan {P : Program} {ops : List Oper} {Q : Exit → Act → World → Prop} {id : Nat} {a : Act} {w : World} (S : World → Prop) (bad plan : List Nat) (hm : P.follows .mixedOrders = true)
    (hok : (Region.noSelect ops.toArray && planOk ops.toArray bad plan (Array.replicate ops.toArray.size false) && (plan.length == ops.toArray.size)) = true)
    (hS : S w.drew) (h : S w.drew → wpT P ops.toArray (QN Q) bad plan S a w.drew) : (Code.region id ops.toArray true).wp P Q a w := by
  simp only [Bool.and_eq_true, beq_iff_eq] at hok
  have h1 := wpT_any hok.1.1 plan S ops.toArray.size (Array.replicate ops.toArray.size false) a w.drew (by omega) hok.1.2 (h hS)
  have h2 : (Code.region id ops.toArray true).wp P (QN Q) a w := wp_region_held hm h1
  refine Code.wp_mono (fun e a w hq => ?_) h2
  cases e <;> first | exact hq | exact hq.elim

section
variable {P : Program} {ops : List Oper} {Q : Exit → Act → World → Prop} {S : World → Prop} {bad rest : List Nat} {a : Act} {w : World} {i : Nat} {o : Oper} {v : Value}
theorem wpT_nil (h : Q .normal a w) : wpT P ops.toArray (QN Q) bad [] S a w := h
theorem wpT_take (ho : ops[i]? = some o) (hb : bad.contains i = false) (hw : Region.wanted o (yielded ops.toArray a.tmps) = true) (hy : ∀ w, S w → (execOp a.eval o).run P w = .ok (.value v) w) (hS : S w)
    (h : wpT P ops.toArray Q bad rest S (a.put o.dst v) w) : wpT P ops.toArray Q bad (i :: rest) S a w := by
  unfold wpT
  rw [if_neg (by rw [hb]; decide)]
  exact ⟨o, v, by simpa using ho, .inl ⟨hw, hy⟩, hS, h⟩
theorem wpT_pass (ho : ops[i]? = some o) (hb : bad.contains i = false) (hw : Region.wanted o (yielded ops.toArray a.tmps) = false) (hS : S w)
    (h : wpT P ops.toArray Q bad rest S (a.put o.dst undef) w) : wpT P ops.toArray Q bad (i :: rest) S a w := by
  unfold wpT
  rw [if_neg (by rw [hb]; decide)]
  exact ⟨o, undef, by simpa using ho, .inr ⟨hw, rfl⟩, hS, h⟩
theorem wpT_step (ho : ops[i]? = some o) (hb : bad.contains i = true)
    (h : ∀ K : Act → World → Prop, Shut (∀ a w (S' : World → Prop), (∀ x, S' x → S x) → S' w → (S' w → wpT P ops.toArray Q bad rest S' a w) → K a w) → if Region.wanted o (yielded ops.toArray a.tmps) = true then Oper.wp P o a w K Q else K (a.put o.dst undef) w) :
    wpT P ops.toArray Q bad (i :: rest) S a w := by
  have hK := h (fun a' w' => ∃ S' : World → Prop, (∀ x, S' x → S x) ∧ S' w' ∧ wpT P ops.toArray Q bad rest S' a' w') (fun _ _ S' hi hS hW => ⟨S', hi, hS, hW hS⟩)
  unfold wpT
  rw [if_pos hb]
  have ho' : ops.toArray[i]? = some o := by simpa using ho
  unfold wpOp
  simp only [ho']
  split
  · rename_i hw; rw [if_pos hw] at hK; exact .inl hK
  · rename_i hw; rw [if_neg hw] at hK; exact hK
end
end Go.Proofs.YtfbhpkhpkaeagaaDoor
