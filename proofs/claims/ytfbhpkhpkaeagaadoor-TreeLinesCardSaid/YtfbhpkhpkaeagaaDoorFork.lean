/- Fork: a region that draws its order, walked by a plan that may fork where either of two operations may come up (a block that may be laid ahead of a call or behind it). -/
import Derived.Test.YtfbhpkhpkaeagaaDoorUnd
namespace Go.Proofs.YtfbhpkhpkaeagaaDoor
set_option linter.unusedVariables false
set_option linter.unusedSimpArgs false
open Go.RowKit

inductive Tree where
  | leaf : Tree
  | node : Nat → Tree → Tree
  | fork : Nat → Nat → Tree → Tree → Tree

def Tree.depth : Tree → Nat
  | .leaf => 0
  | .node _ t => t.depth + 1
  | .fork _ _ s t => max s.depth t.depth + 1

/-- from a list, and a tree behind it -/
def nodes : List Nat → Tree → Tree
  | [], t => t
  | i :: r, t => .node i (nodes r t)

def wpF (P : Program) (ops : Array Oper) (Q : Exit → Act → World → Prop) (bad : List Nat) : Tree → (World → Prop) → Act → World → Prop
  | .leaf, _, a, w => Q .normal a w
  | .node i rest, S, a, w =>
    if bad.contains i then wpOp P ops Q i (fun a' w' => ∃ S' : World → Prop, (∀ x, S' x → S x) ∧ S' w' ∧ wpF P ops Q bad rest S' a' w') a w
    else ∃ o v, ops[i]? = some o ∧ YieldsIf P ops S o v a ∧ S w ∧ wpF P ops Q bad rest S (a.put o.dst v) w
  | .fork i j s t, S, a, w =>
    wpOp P ops Q i (fun a' w' => ∃ S' : World → Prop, (∀ x, S' x → S x) ∧ S' w' ∧ wpF P ops Q bad s S' a' w') a w ∧
    wpOp P ops Q j (fun a' w' => ∃ S' : World → Prop, (∀ x, S' x → S x) ∧ S' w' ∧ wpF P ops Q bad t S' a' w') a w

def treeOk (ops : Array Oper) (bad : List Nat) : Tree → Array Bool → Bool
  | .leaf, listed => (Region.ready .any ops listed).isEmpty
  | .node i rest, listed => (if bad.contains i then Region.ready .any ops listed == [i] else Region.free .any ops listed i && (Region.ready .any ops listed).contains i) && treeOk ops bad rest (listed.setIfInBounds i true)
  | .fork i j s t, listed => (Region.ready .any ops listed == [i, j]) && treeOk ops bad s (listed.setIfInBounds i true) && treeOk ops bad t (listed.setIfInBounds j true)

theorem wpF_any {P : Program} {ops : Array Oper} {Q : Exit → Act → World → Prop} {bad : List Nat} (hs : Region.noSelect ops = true) :
    ∀ (plan : Tree) (S : World → Prop) (fuel : Nat) (listed : Array Bool) (a : Act) (w : World), plan.depth ≤ fuel → treeOk ops bad plan listed = true → wpF P ops (QN Q) bad plan S a w → wpAnyH P .any ops (QN Q) S fuel listed a w := by
  intro plan
  induction plan with
  | leaf =>
    intro S fuel listed a w _ hp h
    simp only [treeOk, List.isEmpty_iff] at hp
    exact wpAnyH_done hp h fuel
  | node i rest ih =>
    intro S fuel listed a w hf hp h
    obtain ⟨fuel, rfl⟩ : ∃ k, fuel = k + 1 := ⟨fuel - 1, by simp [Tree.depth] at hf; omega⟩
    have hf' : rest.depth ≤ fuel := by simp [Tree.depth] at hf; omega
    unfold treeOk at hp
    unfold wpF at h
    rw [Bool.and_eq_true] at hp
    by_cases hb : bad.contains i = true
    · rw [if_pos hb] at h
      rw [if_pos hb] at hp
      have hp1 : Region.ready .any ops listed = [i] := by simpa using hp.1
      refine wpAnyH_all hp1 (by simp) fun j hj => ?_
      simp only [List.mem_singleton] at hj
      subst hj
      exact wpOp_mono (fun a' w' ⟨S', hi, hS', hw⟩ => ⟨hi _ hS', wpAnyH_weak hi fuel _ a' w' (ih S' fuel _ a' w' hf' hp.2 hw)⟩) h
    · rw [if_neg hb] at h
      rw [if_neg hb] at hp
      have hp1 := hp.1
      rw [Bool.and_eq_true] at hp1
      obtain ⟨o, v, ho, hy, hS, hw⟩ := h
      exact wpAnyH_take ho hs hp1.1 hp1.2 (fun _ _ _ h => h) hy hS (ih S fuel _ _ w hf' hp.2 hw)
  | fork i j s t ihs iht =>
    intro S fuel listed a w hf hp h
    obtain ⟨fuel, rfl⟩ : ∃ k, fuel = k + 1 := ⟨fuel - 1, by simp [Tree.depth] at hf; omega⟩
    have hfs : s.depth ≤ fuel := by simp [Tree.depth] at hf; omega
    have hft : t.depth ≤ fuel := by simp [Tree.depth] at hf; omega
    unfold treeOk at hp
    unfold wpF at h
    simp only [Bool.and_eq_true] at hp
    have hp1 : Region.ready .any ops listed = [i, j] := by simpa using hp.1.1
    refine wpAnyH_all hp1 (by simp) fun k hk => ?_
    simp only [List.mem_cons, List.not_mem_nil, or_false] at hk
    rcases hk with rfl | rfl
    · exact wpOp_mono (fun a' w' ⟨S', hi, hS', hw⟩ => ⟨hi _ hS', wpAnyH_weak hi fuel _ a' w' (ihs S' fuel _ a' w' hfs hp.1.2 hw)⟩) h.1
    · exact wpOp_mono (fun a' w' ⟨S', hi, hS', hw⟩ => ⟨hi _ hS', wpAnyH_weak hi fuel _ a' w' (iht S' fuel _ a' w' hft hp.2 hw)⟩) h.2

theorem wp_fork {P : Program} {ops : List Oper} {Q : Exit → Act → World → Prop} {id : Nat} {a : Act} {w : World} (S : World → Prop) (bad : List Nat) (plan : Tree) (hm : P.follows .mixedOrders = true)
    (hok : (Region.noSelect ops.toArray && treeOk ops.toArray bad plan (Array.replicate ops.toArray.size false) && (plan.depth == ops.toArray.size)) = true)
    (hS : S w.drew) (h : S w.drew → wpF P ops.toArray (QN Q) bad plan S a w.drew) : (Code.region id ops.toArray true).wp P Q a w := by
  simp only [Bool.and_eq_true, beq_iff_eq] at hok
  have h1 := wpF_any hok.1.1 plan S ops.toArray.size (Array.replicate ops.toArray.size false) a w.drew (by omega) hok.1.2 (h hS)
  have h2 : (Code.region id ops.toArray true).wp P (QN Q) a w := wp_region_held hm h1
  refine Code.wp_mono (fun e a w hq => ?_) h2
  cases e <;> first | exact hq | exact hq.elim

section
variable {P : Program} {ops : List Oper} {Q : Exit → Act → World → Prop} {S : World → Prop} {bad : List Nat} {rest : Tree} {a : Act} {w : World} {i : Nat} {o : Oper} {v : Value}
theorem wpF_nil (h : Q .normal a w) : wpF P ops.toArray (QN Q) bad .leaf S a w := h
theorem wpF_take (ho : ops[i]? = some o) (hb : bad.contains i = false) (hw : Region.wanted o (yielded ops.toArray a.tmps) = true) (hy : ∀ w, S w → (execOp a.eval o).run P w = .ok (.value v) w) (hS : S w)
    (h : wpF P ops.toArray Q bad rest S (a.put o.dst v) w) : wpF P ops.toArray Q bad (.node i rest) S a w := by
  unfold wpF
  rw [if_neg (by rw [hb]; decide)]
  exact ⟨o, v, by simpa using ho, .inl ⟨hw, hy⟩, hS, h⟩
theorem wpF_op (ho : ops[i]? = some o)
    (h : ∀ K : Act → World → Prop, Shut (∀ a w (S' : World → Prop), (∀ x, S' x → S x) → S' w → (S' w → wpF P ops.toArray Q bad rest S' a w) → K a w) → if Region.wanted o (yielded ops.toArray a.tmps) = true then Oper.wp P o a w K Q else K (a.put o.dst undef) w) :
    wpOp P ops.toArray Q i (fun a' w' => ∃ S' : World → Prop, (∀ x, S' x → S x) ∧ S' w' ∧ wpF P ops.toArray Q bad rest S' a' w') a w := by
  have hK := h (fun a' w' => ∃ S' : World → Prop, (∀ x, S' x → S x) ∧ S' w' ∧ wpF P ops.toArray Q bad rest S' a' w') (fun _ _ S' hi hS hW => ⟨S', hi, hS, hW hS⟩)
  have ho' : ops.toArray[i]? = some o := by simpa using ho
  unfold wpOp
  simp only [ho']
  split
  · rename_i hw; rw [if_pos hw] at hK; exact .inl hK
  · rename_i hw; rw [if_neg hw] at hK; exact hK
theorem wpF_step (ho : ops[i]? = some o) (hb : bad.contains i = true)
    (h : ∀ K : Act → World → Prop, Shut (∀ a w (S' : World → Prop), (∀ x, S' x → S x) → S' w → (S' w → wpF P ops.toArray Q bad rest S' a w) → K a w) → if Region.wanted o (yielded ops.toArray a.tmps) = true then Oper.wp P o a w K Q else K (a.put o.dst undef) w) :
    wpF P ops.toArray Q bad (.node i rest) S a w := by
  unfold wpF
  rw [if_pos hb]
  exact wpF_op ho h
theorem wpF_fork {j : Nat} {o' : Oper} {rest' : Tree} (ho : ops[i]? = some o) (ho' : ops[j]? = some o')
    (h : ∀ K : Act → World → Prop, Shut (∀ a w (S' : World → Prop), (∀ x, S' x → S x) → S' w → (S' w → wpF P ops.toArray Q bad rest S' a w) → K a w) → if Region.wanted o (yielded ops.toArray a.tmps) = true then Oper.wp P o a w K Q else K (a.put o.dst undef) w)
    (h' : ∀ K : Act → World → Prop, Shut (∀ a w (S' : World → Prop), (∀ x, S' x → S x) → S' w → (S' w → wpF P ops.toArray Q bad rest' S' a w) → K a w) → if Region.wanted o' (yielded ops.toArray a.tmps) = true then Oper.wp P o' a w K Q else K (a.put o'.dst undef) w) :
    wpF P ops.toArray Q bad (.fork i j rest rest') S a w := by
  unfold wpF
  exact ⟨wpF_op ho h, wpF_op ho' h'⟩
end
end Go.Proofs.YtfbhpkhpkaeagaaDoor
