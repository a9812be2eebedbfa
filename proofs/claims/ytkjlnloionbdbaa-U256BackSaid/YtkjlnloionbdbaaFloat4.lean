/- Float, part four: the tail, and the region. -/
import Derived.Test.YtkjlnloionbdbaaFloat3
namespace Go.Proofs.Ytkjlnloionbdbaa
set_option linter.unusedVariables false
set_option linter.unusedSimpArgs false
open Go.RowKit

theorem tail_go {P : Program} {ops : Array Oper} {Q : Exit → Act → World → Prop} :
    ∀ (tail : List Nat) (listed : Array Bool) (a : Act) (w : World), tail.Nodup → (∀ t ∈ tail, t < ops.size) → listed.size = ops.size → tail.Pairwise (fun t t' => Waits ops t' t ∧ ¬ Waits ops t t') → (∀ t ∈ tail, ¬ Waits ops t t) → (∀ t ∈ tail, ∀ x, Waits ops t x → x < ops.size) →
      (∀ j, listed.getD j true = false ↔ j ∈ tail) → wpOps P ops Q tail a w → wpAny P .any ops Q tail.length listed a w := by
  intro tail
  induction tail with
  | nil =>
    intro listed a w _ _ _ _ _ _ hl h
    refine ⟨?_, h⟩
    apply List.eq_nil_iff_forall_not_mem.2
    intro j hj
    simpa using (hl j).1 (mem_ready.1 hj).1
  | cons t r ih =>
    intro listed a w hn hlt hsz hp hi hx hl h
    rw [wpOps_cons] at h
    rw [List.nodup_cons] at hn
    rw [List.pairwise_cons] at hp
    have only : ∀ j, j ∈ Region.ready .any ops listed → j = t := fun j hj => by
      obtain ⟨h0, oj, hoj, hall⟩ := mem_ready.1 hj
      rcases List.mem_cons.1 ((hl j).1 h0) with h | h
      · exact h
      · exfalso
        obtain ⟨oj', hoj', e, he, hbind, hon⟩ := (hp.1 j h).1
        rw [hoj] at hoj'
        cases hoj'
        have h1 := getD_false_of (hall e he hbind)
        rw [hon, (hl t).2 (by simp)] at h1
        cases h1
    have htr : t ∈ Region.ready .any ops listed := by
      have hts := hlt t (by simp)
      refine mem_ready.2 ⟨(hl t).2 (by simp), ops[t], by simp [hts], fun e he hbind => ?_⟩
      have hwt : Waits ops t e.on := ⟨ops[t], by simp [hts], e, he, hbind, rfl⟩
      refine getD_true_of (by rw [hsz]; exact hx t (by simp) _ hwt) fun hf => ?_
      rcases List.mem_cons.1 ((hl e.on).1 hf) with h | h
      · rw [h] at hwt; exact hi t (by simp) hwt
      · exact (hp.1 e.on h).2 hwt
    rw [List.length_cons]
    refine ⟨fun hnil => (by rw [hnil] at htr; cases htr), fun j hj => ?_⟩
    rw [only j hj]
    refine wpOp_mono (fun a' w' h' => ih _ a' w' hn.2 (fun t ht => hlt t (by simp [ht])) (by simpa using hsz) hp.2 (fun t ht => hi t (by simp [ht])) (fun t ht => hx t (by simp [ht])) (fun x => ?_) h') h
    by_cases hxt : t = x
    · subst hxt
      have h1 : (listed.setIfInBounds t true).getD t true = true := by
        have : t < listed.size := by rw [hsz]; exact hlt t (by simp)
        simp [this]
      rw [h1]
      exact ⟨fun h => (by cases h), fun h => absurd h hn.1⟩
    · rw [getD_set_ne true hxt, hl x]
      have : x ≠ t := fun h => hxt h.symm
      simp [this]

theorem extract_const {P : Program} {ρ : Operand → Value} {o : Oper} {t : Operand} {k : Nat} (h : o.op = .extract t k) {w : World} {v : Value} {T : World → Prop} (hv : GivesV P ((execOp ρ o).run P w) v T) (w' : World) :
    (execOp ρ o).run P w' = .ok (.value v) w' := by
  have key : (∃ u : Value, ∀ x : World, (execOp ρ o).run P x = .ok (.value u) x) ∨ (∀ x : World, ∃ e, (execOp ρ o).run P x = .halt e x) := by
    unfold execOp
    rw [h]
    simp only [Instr.extract]
    split
    · rename_i vs _
      cases hk : vs[k]? with
      | some u => left; exact ⟨u, fun x => by go_simp⟩
      | none => right; intro x; exact ⟨_, by go_simp; rfl⟩
    · right
      intro x
      exact ⟨_, by go_simp; rfl⟩
  rcases key with ⟨u, hu⟩ | hu
  · rw [hu w] at hv
    obtain ⟨rfl, _⟩ := hv
    exact hu w'
  · obtain ⟨e, he⟩ := hu w
    rw [he] at hv
    exact hv.elim

theorem late_go {P : Program} {ops : Array Oper} {Q : Exit → Act → World → Prop} {S : World → Prop} {Z : Nat → Obj} {plan al tail late : List Nat} (ok : FloatOk P ops Z plan al tail late) (hQ : ∀ c a w, ¬ Q (.panic c) a w)
    {E : Act → Prop} (base tf : Nat)
    (hE : ∀ a, E a → ∀ G w (listed : Array Bool), listed.size = ops.size → (∀ k ∈ al, G k ≠ none) → S w → Boxes Z base al G w → base ≤ w.heap.size → (∀ j, listed.getD j true = false ↔ j ∈ tail) → wpAny P .any ops Q tf listed (putAll ops G al a) w) :
    ∀ (rem : List Nat) a G w (listed : Array Bool), rem.Sublist plan → (∀ i ∈ rem, i ∈ late) → wpG P ops S E rem a → listed.size = ops.size → (∀ k ∈ al, G k ≠ none) → S w → Boxes Z base al G w → base ≤ w.heap.size → (∀ j, listed.getD j true = false ↔ j ∈ rem ∨ j ∈ tail) → wpAny P .any ops Q (rem.length + tf) listed (putAll ops G al a) w := by
  intro rem
  induction rem with
  | nil =>
    intro a G w listed _ _ hw hsz hG hS hB hb hl
    rw [List.length_nil, Nat.zero_add]
    exact hE a hw G w listed hsz hG hS hB hb (fun j => by simpa using hl j)
  | cons i r ih =>
    intro a G w listed hr hlate hw hsz hG hS hB hb hl
    obtain ⟨o, v, ho, hy, hrest⟩ := hw
    have hip : i ∈ plan := hr.subset (by simp)
    have hil : i ∈ late := hlate i (by simp)
    have hnd := ok.nodup
    rw [List.nodup_append] at hnd
    obtain ⟨ndp, nd2, dis⟩ := hnd
    have hrn : (i :: r).Nodup := ndp.sublist hr
    have hy' := (YG_putAll (G := G) (ok.sel i o · · ho) (al := al) (fun k hk => (ok.boxApart k hk i hip o ho).1)).2 hy
    have hyl : Yields P ops o v (putAll ops G al a) := by
      obtain ⟨o', t, k, ho', hop⟩ := ok.lateOp i hil
      rw [ho] at ho'
      cases ho'
      exact hy'.imp (fun h => ⟨h.1, extract_const hop (h.2 w hS)⟩) id
    rw [List.length_cons, show r.length + 1 + tf = (r.length + tf) + 1 by omega]
    refine wpAny_first ho ok.sel (fun c a w h => absurd h (hQ c _ _)) (r.length + tf) listed _ w (fun j oj hj hne hun hno => ?_) ?_ hyl ?_
    · have hjl : j ∈ late ∨ j ∈ tail := by
        rcases (hl j).1 hun with h | h
        · exact .inl (hlate j h)
        · exact .inr h
      rcases ok.lateFree i hil j hjl hne with h | h
      · obtain ⟨oj', hoj', e, he, hbind, hon⟩ := h
        rw [hj] at hoj'
        cases hoj'
        exact absurd hon (hno e he hbind)
      · exact h o oj ho hj
    · refine mem_ready.2 ⟨(hl i).2 (.inl (by simp)), o, ho, fun e he hbind => ?_⟩
      obtain ⟨h1, h2⟩ := ok.planWaits i hip e.on ⟨o, ho, e, he, hbind, rfl⟩
      refine getD_true_of (by rw [hsz]; exact ok.lt _ (by simp [h1])) fun hf => ?_
      rcases (hl e.on).1 hf with h | h
      · rcases List.mem_cons.1 h with h | h
        · exact h2 h
        · have hpw := (ok.planFits.sublist hr)
          rw [List.pairwise_cons] at hpw
          exact (hpw.1 e.on h).2 ⟨o, ho, e, he, hbind, rfl⟩
      · exact dis e.on h1 e.on (by simp [h]) rfl
    · rw [← putAll_put (fun k hk => (ok.boxApart k hk i hip o ho).2)]
      refine ih (a.put o.dst v) G w _ ((List.sublist_cons_self i r).trans hr) (fun x hx => hlate x (by simp [hx])) hrest (by simpa using hsz) hG hS hB hb (fun x => ?_)
      rw [List.nodup_cons] at hrn
      by_cases hx : i = x
      · subst hx
        have h1 : (listed.setIfInBounds i true).getD i true = true := by
          have : i < listed.size := by rw [hsz]; exact ok.lt i (by simp [hip])
          simp [this]
        rw [h1]
        refine ⟨fun h => (by cases h), fun h => ?_⟩
        exfalso
        rcases h with h | h
        · exact hrn.1 h
        · exact dis i hip i (by simp [h]) rfl
      · rw [getD_set_ne true hx, hl x]
        have : x ≠ i := fun h => hx h.symm
        simp [this]

def waitsB (ops : Array Oper) (j i : Nat) : Bool := match ops[j]? with | some oj => oj.after.toList.any (fun e => Region.binds .any e && e.on == i) | none => false
theorem waitsB_iff {ops : Array Oper} {j i : Nat} : Waits ops j i ↔ waitsB ops j i = true := by
  unfold Waits waitsB
  cases ops[j]? with
  | none => simp
  | some o =>
    simp only [Option.some.injEq, exists_eq_left', List.any_eq_true, Bool.and_eq_true, beq_iff_eq]
    constructor
    · rintro ⟨e, h1, h2, h3⟩; exact ⟨e, by simpa using h1, h2, h3⟩
    · rintro ⟨e, h1, h2, h3⟩; exact ⟨e, by simpa using h1, h2, h3⟩

def fitsB (ops : Array Oper) (i j : Nat) : Bool := waitsB ops j i || (match ops[i]?, ops[j]? with | some oi, some oj => oi.apart ops oj | _, _ => true)
theorem fitsB_spec {ops : Array Oper} {i j : Nat} (h : fitsB ops i j = true) : Fits ops i j := by
  unfold fitsB at h
  rw [Bool.or_eq_true] at h
  rcases h with h | h
  · exact .inl (waitsB_iff.2 h)
  · refine .inr fun oi oj hi hj => ?_
    simpa [hi, hj] using h

/-- pairs of a list, each with all that follow -/
def pairsB (f : Nat → Nat → Bool) : List Nat → Bool
  | [] => true
  | i :: r => r.all (f i) && pairsB f r
theorem pairsB_spec {f : Nat → Nat → Bool} : ∀ {l : List Nat}, pairsB f l = true → l.Pairwise (fun i j => f i j = true)
  | [], _ => .nil
  | i :: r, h => by
    simp only [pairsB, Bool.and_eq_true, List.all_eq_true] at h
    exact .cons h.1 (pairsB_spec h.2)

/-- the checks, as one Bool -/
def floatB (ops : Array Oper) (plan al tail late : List Nat) : Bool :=
  Region.noSelect ops &&
  pairsB (fun i j => i != j) (plan ++ (al ++ tail)) &&
  (plan ++ (al ++ tail)).all (fun i => decide (i < ops.size)) &&
  ((plan ++ (al ++ tail)).length == ops.size) &&
  al.all (fun k => (match ops[k]? with | some o => o.guard.isNone | none => false) && (List.range ops.size).all (fun x => !waitsB ops k x) && (match ops[k]? with | some o => o.after.toList.all (fun e => decide (e.on < ops.size)) | none => false)) &&
  pairsB (fun k k' => (dstOf ops k).isNone || dstOf ops k != dstOf ops k') al &&
  al.all (fun k => plan.all (fun i => match ops[i]? with | some oi => (match dstOf ops k with | some d => !(oi.looksAt ops).contains d && oi.dst != some d | none => true) | none => true)) &&
  (plan ++ (al ++ tail)).all (fun i => match ops[i]? with | some o => o.after.toList.all (fun e => decide (e.on < ops.size)) | none => true) &&
  plan.all (fun i => (List.range ops.size).all (fun x => !waitsB ops i x || (plan.contains x && x != i))) &&
  pairsB (fun i j => fitsB ops i j && !waitsB ops i j) plan &&
  tail.all (fun t => (plan ++ al).all (fun i => late.contains i || waitsB ops t i)) &&
  pairsB (fun t t' => waitsB ops t' t && !waitsB ops t t') tail &&
  tail.all (fun t => !waitsB ops t t) &&
  late.all (fun i => (match ops[i]? with | some o => (match o.op with | .extract _ _ => true | _ => false) | none => false) && !al.contains i && (late ++ tail).all (fun j => j == i || fitsB ops i j))
end Go.Proofs.Ytkjlnloionbdbaa
