/- Both: a region that draws its order: two operations of which either may come up first (a call, and a slice that is built), walked once. -/
import Derived.Test.YtfbhpkhpkaeagaaDoorFork
namespace Go.Proofs.YtfbhpkhpkaeagaaDoor
set_option linter.unusedVariables false
set_option linter.unusedSimpArgs false
open Go.RowKit

/-- from every world that meets S the operation yields a value, and comes to a world, of which R tells -/
def RunsTo (P : Program) (ops : Array Oper) (Q : Exit → Act → World → Prop) (S : World → Prop) (o : Oper) (d : Tmp) (R : Value → World → Prop) (a : Act) : Prop :=
  ∀ x, S x → ∀ K : Act → World → Prop, (∀ v x', R v x' → Below x.heap.size x x' → K (a.put (some d) v) x') → if Region.wanted o (yielded ops a.tmps) = true then Oper.wp P o a x K Q else K (a.put o.dst undef) x
theorem bl_both {w x y : World} (h : Below w.heap.size w x) (k : Below x.heap.size x y) : Below w.heap.size w y := h.trans (k.mono h.size)
theorem put_swap (a : Act) (d e : Tmp) (u v : Value) (h : d ≠ e) : (a.put (some e) v).put (some d) u = (a.put (some d) u).put (some e) v := by
  simp only [Act.put]
  congr 1
  rw [Array.setIfInBounds_comm _ _ h.symm]

section
variable {P : Program} {ops : List Oper} {Q : Exit → Act → World → Prop} {S : World → Prop} {bad : List Nat} {rest : Tree} {a : Act} {w : World} {i j : Nat} {o o' : Oper}
theorem wpF_yield {v : Value} (ho : ops[i]? = some o) (hb : bad.contains i = false) (hy : YieldsIf P ops.toArray S o v a) (hS : S w) (h : wpF P ops.toArray Q bad rest S (a.put o.dst v) w) : wpF P ops.toArray Q bad (.node i rest) S a w := by
  unfold wpF
  rw [if_neg (by rw [hb]; decide)]
  exact ⟨o, v, by simpa using ho, hy, hS, h⟩
theorem wpF_pass (ho : ops[i]? = some o) (hb : bad.contains i = false) (hw : Region.wanted o (yielded ops.toArray a.tmps) = false) (hS : S w)
    (h : wpF P ops.toArray Q bad rest S (a.put o.dst undef) w) : wpF P ops.toArray Q bad (.node i rest) S a w := by
  unfold wpF
  rw [if_neg (by rw [hb]; decide)]
  exact ⟨o, undef, by simpa using ho, .inr ⟨hw, rfl⟩, hS, h⟩
theorem wpF_both (di dj : Tmp) (Ri Rj : Value → World → Prop) (ho : ops[i]? = some o) (ho' : ops[j]? = some o') (hbi : bad.contains i = true) (hbj : bad.contains j = true) (hne : di ≠ dj)
    (hRi : ∀ v x y, Ri v x → Below x.heap.size x y → Ri v y) (hRj : ∀ v x y, Rj v x → Below x.heap.size x y → Rj v y) (hS : ∀ x y, S x → Below x.heap.size x y → S y) (hSw : S w)
    (Yi : RunsTo P ops.toArray (QN Q) S o di Ri a) (Yi' : ∀ u, RunsTo P ops.toArray (QN Q) S o di Ri (a.put (some dj) u))
    (Yj : RunsTo P ops.toArray (QN Q) S o' dj Rj a) (Yj' : ∀ u, RunsTo P ops.toArray (QN Q) S o' dj Rj (a.put (some di) u))
    (hk : ∀ v u y, Ri v y → Rj u y → Below w.heap.size w y → S y → wpF P ops.toArray (QN Q) bad rest S ((a.put (some di) v).put (some dj) u) y) :
    wpF P ops.toArray (QN Q) bad (.fork i j (.node j rest) (.node i rest)) S a w := by
  refine wpF_fork ho ho' (fun K hK => (Yi w hSw K fun v x hv hb => hK.out _ _ _ (fun _ h => h) (hS _ _ hSw hb) fun hs => ?_)) (fun K hK => (Yj w hSw K fun u x hu hb => hK.out _ _ _ (fun _ h => h) (hS _ _ hSw hb) fun hs => ?_))
  · refine wpF_step ho' hbj fun K2 hK2 => (Yj' v x hs K2 fun u y hu hb2 => hK2.out _ _ _ (fun _ h => h) (hS _ _ hs hb2) fun hs2 => ?_)
    exact hk v u y (hRi _ _ _ hv hb2) hu (bl_both hb hb2) hs2
  · refine wpF_step ho hbi fun K2 hK2 => (Yi' u x hs K2 fun v y hv hb2 => hK2.out _ _ _ (fun _ h => h) (hS _ _ hs hb2) fun hs2 => ?_)
    rw [put_swap _ _ _ _ _ hne]
    exact hk v u y hv (hRj _ _ _ hu hb2) (bl_both hb hb2) hs2
/-- as wpF_both, where a quiet operation that waits for the call alone stands behind it -/
theorem wpF_both2 {q : Nat} {oq : Oper} (di dj dq : Tmp) (vq : Value → Value) (Ri Rj : Value → World → Prop) (ho : ops[i]? = some o) (ho' : ops[j]? = some o') (hoq : ops[q]? = some oq) (hbi : bad.contains i = true) (hbj : bad.contains j = true) (hbq : bad.contains q = false) (hdq : oq.dst = some dq)
    (hne : di ≠ dj) (hne2 : dq ≠ dj)
    (hRi : ∀ v x y, Ri v x → Below x.heap.size x y → Ri v y) (hRj : ∀ v x y, Rj v x → Below x.heap.size x y → Rj v y) (hS : ∀ x y, S x → Below x.heap.size x y → S y) (hSw : S w)
    (Yi : RunsTo P ops.toArray (QN Q) S o di Ri a) (Yi' : ∀ u, RunsTo P ops.toArray (QN Q) S o di Ri (a.put (some dj) u))
    (Yj : RunsTo P ops.toArray (QN Q) S o' dj Rj a) (Yj' : ∀ v, RunsTo P ops.toArray (QN Q) S o' dj Rj ((a.put (some di) v).put (some dq) (vq v)))
    (Yq : ∀ v x, Ri v x → YieldsIf P ops.toArray S oq (vq v) (a.put (some di) v)) (Yq' : ∀ v u x, Ri v x → YieldsIf P ops.toArray S oq (vq v) ((a.put (some di) v).put (some dj) u))
    (hk : ∀ v u y, Ri v y → Rj u y → Below w.heap.size w y → S y → wpF P ops.toArray (QN Q) bad rest S (((a.put (some di) v).put (some dj) u).put (some dq) (vq v)) y) :
    wpF P ops.toArray (QN Q) bad (.fork i j (.node q (.node j rest)) (.node i (.node q rest))) S a w := by
  refine wpF_fork ho ho' (fun K hK => (Yi w hSw K fun v x hv hb => hK.out _ _ _ (fun _ h => h) (hS _ _ hSw hb) fun hs => ?_)) (fun K hK => (Yj w hSw K fun u x hu hb => hK.out _ _ _ (fun _ h => h) (hS _ _ hSw hb) fun hs => ?_))
  · refine wpF_yield hoq hbq (Yq v x hv) hs ?_
    rw [hdq]
    refine wpF_step ho' hbj fun K2 hK2 => (Yj' v x hs K2 fun u y hu hb2 => hK2.out _ _ _ (fun _ h => h) (hS _ _ hs hb2) fun hs2 => ?_)
    rw [← put_swap _ _ _ _ _ hne2]
    exact hk v u y (hRi _ _ _ hv hb2) hu (bl_both hb hb2) hs2
  · refine wpF_step ho hbi fun K2 hK2 => (Yi' u x hs K2 fun v y hv hb2 => hK2.out _ _ _ (fun _ h => h) (hS _ _ hs hb2) fun hs2 => ?_)
    rw [put_swap _ _ _ _ _ hne]
    refine wpF_yield hoq hbq (Yq' v u y hv) hs2 ?_
    rw [hdq]
    exact hk v u y hv (hRj _ _ _ hu hb2) (bl_both hb hb2) hs2
end
end Go.Proofs.YtfbhpkhpkaeagaaDoor
