/- Float: a region that draws its order and holds calls: the operations that yield the same value in every world that meets S, calls among them, walked once in a planned order. (Part one: the values.) Merged: Float, Float2, Float3, Float4, Float5. -/
import Derived.Test.YtfbhpkhpkaeagaaDoorUnd
/- Float: a region that draws its order and holds calls: the operations that yield the same value in every world that meets S, calls among them, walked once in a planned order. (Part one: the values.) -/
namespace Go.Proofs.YtfbhpkhpkaeagaaDoor
set_option linter.unusedVariables false
set_option linter.unusedSimpArgs false
open Go.RowKit

/-- the run yields v, and T holds of the world behind it -/
def GivesV (P : Program) (r : Result Next) (v : Value) (T : World → Prop) : Prop :=
  match r with
  | .ok (.value u) w' => u = v ∧ T w'
  | .ok (.enter f args) w' => Calls P f args w' fun e w'' => e = .returned v ∧ T w''
  | _ => False

theorem GivesV.wp {P : Program} {o : Oper} {a : Act} {w : World} {K : Act → World → Prop} {Q : Exit → Act → World → Prop} {v : Value} {T : World → Prop}
    (h : GivesV P ((execOp a.eval o).run P w) v T) (hK : ∀ w', T w' → K (a.put o.dst v) w') : Oper.wp P o a w K Q := by
  unfold Oper.wp
  generalize ((execOp a.eval o).run P w) = r at *
  cases r with
  | ok n w' =>
    cases n <;> simp only [GivesV] at h <;> simp only [Oper.upon]
    case value u => obtain ⟨rfl, h⟩ := h; exact hK _ h
    case enter f args =>
      refine Calls.mono h fun e w'' he => ?_
      obtain ⟨rfl, h⟩ := he
      exact hK _ h
  | halt x w' => exact h.elim

/-- In state a, in every world that meets S, o yields v (or is passed over), keeps S, and only makes memory. -/
def YG (P : Program) (ops : Array Oper) (S : World → Prop) (o : Oper) (v : Value) (a : Act) : Prop :=
  (Region.wanted o (yielded ops a.tmps) = true ∧ ∀ w, S w → GivesV P ((execOp a.eval o).run P w) v (fun w' => S w' ∧ Below w.heap.size w w')) ∨
  (Region.wanted o (yielded ops a.tmps) = false ∧ v = undef)

section
variable {P : Program} {ops : Array Oper} {S : World → Prop}
theorem YG.put_iff {o : Oper} {v : Value} {a : Act} (hs : ∀ cs b, o.op ≠ .select cs b) {dst : Option Tmp} {u : Value} (h : ∀ d, dst = some d → d ∉ o.looksAt ops) :
    YG P ops S o v (a.put dst u) ↔ YG P ops S o v a := by
  unfold YG
  rw [execOp_put o hs a dst u h, wanted_put o a dst u h]

/-- the plan's walk over values alone -/
def wpG (P : Program) (ops : Array Oper) (S : World → Prop) (E : Act → Prop) : List Nat → Act → Prop
  | [], a => E a
  | i :: rest, a => ∃ o v, ops[i]? = some o ∧ YG P ops S o v a ∧ wpG P ops S E rest (a.put o.dst v)

/-- j waits for i -/
def Waits (ops : Array Oper) (j i : Nat) : Prop := ∃ oj, ops[j]? = some oj ∧ ∃ e ∈ oj.after, Region.binds .any e = true ∧ e.on = i
/-- i stands ahead of j in the plan: j waits for i, or the two are apart -/
def Fits (ops : Array Oper) (i j : Nat) : Prop := Waits ops j i ∨ ∀ oi oj, ops[i]? = some oi → ops[j]? = some oj → oi.apart ops oj = true

theorem wpG_pull (hsel : ∀ (j : Nat) (o : Oper) cs b, ops[j]? = some o → o.op ≠ .select cs b) {E : Act → Prop} (j : Nat) :
    ∀ (rem : List Nat) (a : Act), j ∈ rem → rem.Pairwise (Fits ops) → (∀ i, i ∈ rem → i ≠ j → ¬ Waits ops j i) → wpG P ops S E rem a →
      ∃ o v, ops[j]? = some o ∧ YG P ops S o v a ∧ wpG P ops S E (rem.erase j) (a.put o.dst v) := by
  intro rem
  induction rem with
  | nil => intro a hj; cases hj
  | cons i rest ih =>
    intro a hj hp hw h
    obtain ⟨oi, vi, hoi, hyi, hrest⟩ := h
    by_cases hij : i = j
    · subst hij
      exact ⟨oi, vi, hoi, hyi, by rw [List.erase_cons_head]; exact hrest⟩
    · have hjr : j ∈ rest := by
        rcases List.mem_cons.1 hj with h | h
        · exact absurd h.symm hij
        · exact h
      rw [List.pairwise_cons] at hp
      have hap : ∀ oj, ops[j]? = some oj → oi.apart ops oj = true := fun oj hoj => by
        rcases hp.1 j hjr with h | h
        · exact absurd h (hw i (by simp) hij)
        · exact h oi oj hoi hoj
      obtain ⟨oj, vj, hoj, hyj, hr⟩ := ih (a.put oi.dst vi) hjr hp.2 (fun k hk hkj => hw k (by simp [hk]) hkj) hrest
      obtain ⟨h1, h2, h3⟩ := Oper.apart_spec (hap oj hoj)
      refine ⟨oj, vj, hoj, (YG.put_iff (fun cs b => hsel j oj cs b hoj) h1).1 hyj, ?_⟩
      rw [List.erase_cons_tail (by simpa using hij)]
      refine ⟨oi, vi, hoi, (YG.put_iff (fun cs b => hsel i oi cs b hoi) h3).2 hyi, ?_⟩
      rw [← Act.put_comm a vi vj h2]
      exact hr
end
end Go.Proofs.YtfbhpkhpkaeagaaDoor

/- Float, part two: boxes that float. -/
namespace Go.Proofs.YtfbhpkhpkaeagaaDoor
set_option linter.unusedVariables false
set_option linter.unusedSimpArgs false
open Go.RowKit

def dstOf (ops : Array Oper) (k : Nat) : Option Tmp := (ops[k]?).bind (·.dst)
def ptrOf (g : Nat) : Value := .pointer (some ⟨g, 0, none⟩)
/-- the pointers of the boxes that are done -/
def putAll (ops : Array Oper) (G : Nat → Option Nat) : List Nat → Act → Act
  | [], a => a
  | k :: r, a => match G k with
    | some g => (putAll ops G r a).put (dstOf ops k) (ptrOf g)
    | none => putAll ops G r a
def setG (G : Nat → Option Nat) (k g : Nat) : Nat → Option Nat := fun i => if i = k then some g else G i

section
variable {P : Program} {ops : Array Oper} {S : World → Prop} {G : Nat → Option Nat}
theorem putAll_congr {G' : Nat → Option Nat} {a : Act} : ∀ {al : List Nat}, (∀ k ∈ al, G k = G' k) → putAll ops G al a = putAll ops G' al a
  | [], _ => rfl
  | k :: r, h => by
    have h1 := h k (by simp)
    have h2 := putAll_congr (al := r) (a := a) fun k hk => h k (by simp [hk])
    simp only [putAll, h1, h2]
theorem putAll_put {a : Act} {dst : Option Tmp} {v : Value} : ∀ {al : List Nat}, (∀ k ∈ al, ∀ d, dst = some d → dstOf ops k ≠ some d) → putAll ops G al (a.put dst v) = (putAll ops G al a).put dst v
  | [], _ => rfl
  | k :: r, h => by
    have h2 := putAll_put (al := r) (a := a) (dst := dst) (v := v) fun k hk => h k (by simp [hk])
    simp only [putAll, h2]
    cases G k with
    | none => rfl
    | some g => exact Act.put_comm _ _ _ (h k (by simp))
theorem putAll_set {a : Act} {k g : Nat} : ∀ {al : List Nat}, k ∈ al → al.Nodup → G k = none → (∀ k' ∈ al, k' ≠ k → ∀ d, dstOf ops k' = some d → dstOf ops k ≠ some d) → putAll ops (setG G k g) al a = (putAll ops G al a).put (dstOf ops k) (ptrOf g)
  | [], h, _, _, _ => by cases h
  | k0 :: r, hk, hn, hG, hd => by
    rw [List.nodup_cons] at hn
    by_cases h0 : k0 = k
    · subst h0
      have h2 : putAll ops (setG G k0 g) r a = putAll ops G r a := putAll_congr fun i hi => by
        have : i ≠ k0 := fun e => hn.1 (e ▸ hi)
        simp [setG, this]
      simp [putAll, setG, hG] at h2 ⊢
      rw [h2]
    · have hkr : k ∈ r := by
        rcases List.mem_cons.1 hk with h | h
        · exact absurd h.symm h0
        · exact h
      have h2 := putAll_set (a := a) (g := g) hkr hn.2 hG fun k' hk' => hd k' (by simp [hk'])
      have h3 : setG G k g k0 = G k0 := by simp [setG, h0]
      simp only [putAll, h3, h2]
      cases hg : G k0 with
      | none => rfl
      | some g0 => exact (Act.put_comm _ (ptrOf g0) (ptrOf g) (hd k0 (by simp) h0)).symm
theorem YG_putAll {o : Oper} {v : Value} (hs : ∀ cs b, o.op ≠ .select cs b) {a : Act} : ∀ {al : List Nat}, (∀ k ∈ al, ∀ d, dstOf ops k = some d → d ∉ o.looksAt ops) → (YG P ops S o v (putAll ops G al a) ↔ YG P ops S o v a)
  | [], _ => Iff.rfl
  | k :: r, h => by
    have h2 := YG_putAll (al := r) (a := a) (v := v) hs fun k hk => h k (by simp [hk])
    simp only [putAll]
    cases G k with
    | none => exact h2
    | some g => exact (YG.put_iff hs (h k (by simp))).trans h2

theorem YG.wpOp {Q : Exit → Act → World → Prop} {i : Nat} {o : Oper} {v : Value} {a : Act} (hi : ops[i]? = some o) (hy : YG P ops S o v a) {K : Act → World → Prop} {w : World} (hS : S w)
    (h : ∀ w', S w' → Below w.heap.size w w' → K (a.put o.dst v) w') : wpOp P ops Q i K a w := by
  unfold Go.wpOp
  simp only [hi]
  rcases hy with ⟨hw, hv⟩ | ⟨hw, rfl⟩
  · rw [if_pos hw]
    exact .inl ((hv w hS).wp fun w' hw' => h w' hw'.1 hw'.2)
  · rw [if_neg (by rw [hw]; decide)]
    exact h w hS (Below.refl _ _)

/-- the blocks of the boxes that are done -/
structure Boxes (Z : Nat → Obj) (base : Nat) (al : List Nat) (G : Nat → Option Nat) (w : World) : Prop where
  at_ : ∀ k ∈ al, ∀ g, G k = some g → base ≤ g ∧ g < w.heap.size ∧ w.heap[g]? = some (Z k)
  unlike : ∀ k ∈ al, ∀ k' ∈ al, k ≠ k' → ∀ g, G k = some g → G k' ≠ some g
theorem Boxes.later {Z : Nat → Obj} {base : Nat} {al : List Nat} {w w' : World} (h : Boxes Z base al G w) (hb : Below w.heap.size w w') : Boxes Z base al G w' :=
  ⟨fun k hk g hg => by
    obtain ⟨h1, h2, h3⟩ := h.at_ k hk g hg
    exact ⟨h1, Nat.lt_of_lt_of_le h2 hb.size, by rw [hb.block g h2]; exact h3⟩, h.unlike⟩
theorem Boxes.add {Z : Nat → Obj} {base : Nat} {al : List Nat} {w : World} (h : Boxes Z base al G w) (k : Nat) (hb : base ≤ w.heap.size) : Boxes Z base al (setG G k w.heap.size) (w.alloc (Z k)) := by
  have h' := h.later (below_alloc w (Z k))
  refine ⟨fun i hi g hg => ?_, fun i hi i' hi' hne g hg hg' => ?_⟩
  · by_cases hik : i = k
    · subst hik
      simp [setG] at hg
      subst hg
      exact ⟨hb, by simp, heap_alloc_new w _⟩
    · exact h'.at_ i hi g (by simpa [setG, hik] using hg)
  · by_cases hik : i = k <;> by_cases hik' : i' = k
    · exact hne (hik.trans hik'.symm)
    · subst hik
      simp [setG] at hg
      simp [setG, hik'] at hg'
      have := (h.at_ i' hi' g hg').2.1
      omega
    · subst hik'
      simp [setG] at hg'
      simp [setG, hik] at hg
      have := (h.at_ i hi g hg).2.1
      omega
    · simp [setG, hik] at hg
      simp [setG, hik'] at hg'
      exact h.unlike i hi i' hi' hne g hg hg'
end
end Go.Proofs.YtfbhpkhpkaeagaaDoor

/- Float, part three: all orders of the front. -/
namespace Go.Proofs.YtfbhpkhpkaeagaaDoor
set_option linter.unusedVariables false
set_option linter.unusedSimpArgs false
open Go.RowKit

/-- what the region's edges must say -/
structure FloatOk (P : Program) (ops : Array Oper) (Z : Nat → Obj) (plan al tail late : List Nat) : Prop where
  sel : ∀ (j : Nat) (o : Oper) cs b, ops[j]? = some o → o.op ≠ .select cs b
  nodup : (plan ++ (al ++ tail)).Nodup
  lt : ∀ i ∈ plan ++ (al ++ tail), i < ops.size
  box : ∀ k ∈ al, ∃ o, ops[k]? = some o ∧ o.guard = none ∧ ∀ (a : Act) (w : World), (execOp a.eval o).run P w = .ok (.value (ptrOf w.heap.size)) (w.alloc (Z k))
  boxWaits : ∀ k ∈ al, ∀ x, ¬ Waits ops k x
  boxDst : ∀ k ∈ al, ∀ k' ∈ al, k' ≠ k → ∀ d, dstOf ops k' = some d → dstOf ops k ≠ some d
  boxApart : ∀ k ∈ al, ∀ i ∈ plan, ∀ oi, ops[i]? = some oi → (∀ d, dstOf ops k = some d → d ∉ oi.looksAt ops) ∧ (∀ d, oi.dst = some d → dstOf ops k ≠ some d)
  planWaits : ∀ i ∈ plan, ∀ x, Waits ops i x → x ∈ plan ∧ x ≠ i
  planFits : plan.Pairwise (fun i j => Fits ops i j ∧ ¬ Waits ops i j)
  tailWaits : ∀ t ∈ tail, ∀ i, (i ∈ plan ∧ i ∉ late) ∨ i ∈ al → Waits ops t i
  lateOp : ∀ i ∈ late, ∃ o t k, ops[i]? = some o ∧ o.op = .extract t k
  lateFree : ∀ i ∈ late, ∀ j, j ∈ late ∨ j ∈ tail → j ≠ i → Fits ops i j

theorem getD_true_of {listed : Array Bool} {x : Nat} (hx : x < listed.size) (h : listed.getD x true ≠ false) : listed.getD x false = true := by
  simp [hx] at h ⊢
  exact h
theorem getD_false_of {listed : Array Bool} {x : Nat} (h : listed.getD x false = true) : listed.getD x true = true := by
  rcases Nat.lt_or_ge x listed.size with hx | hx
  · simp [hx] at h ⊢
    exact h
  · simp [hx] at h ⊢

theorem float_go {P : Program} {ops : Array Oper} {Q : Exit → Act → World → Prop} {S : World → Prop} {Z : Nat → Obj} {plan al tail late : List Nat} (ok : FloatOk P ops Z plan al tail late)
    (hSb : ∀ w w', S w → Below w.heap.size w w' → S w') {E : Act → Prop} (base tf : Nat)
    (hE : ∀ (rem : List Nat) a G w (listed : Array Bool), rem.Sublist plan → (∀ i ∈ rem, i ∈ late) → wpG P ops S E rem a → listed.size = ops.size → (∀ k ∈ al, G k ≠ none) → S w → Boxes Z base al G w → base ≤ w.heap.size → (∀ j, listed.getD j true = false ↔ j ∈ rem ∨ j ∈ tail) → wpAny P .any ops Q (rem.length + tf) listed (putAll ops G al a) w) :
    ∀ (n : Nat) (rem pend : List Nat) (listed : Array Bool) (a : Act) (G : Nat → Option Nat) (w : World), n = rem.length + pend.length → rem.Sublist plan → pend.Sublist al →
      (∀ k ∈ al, G k = none ↔ k ∈ pend) → listed.size = ops.size → (∀ j, listed.getD j true = false ↔ j ∈ rem ∨ j ∈ pend ∨ j ∈ tail) → S w → Boxes Z base al G w → base ≤ w.heap.size → wpG P ops S E rem a →
      wpAny P .any ops Q (n + tf) listed (putAll ops G al a) w := by
  intro n
  induction n with
  | zero =>
    intro rem pend listed a G w hn hr hp hG hsz hl hS hB hb hw
    have h1 : rem = [] := List.eq_nil_of_length_eq_zero (by omega)
    have h2 : pend = [] := List.eq_nil_of_length_eq_zero (by omega)
    subst h1
    subst h2
    exact hE [] a G w listed (List.nil_sublist _) (fun i h => by cases h) hw hsz (fun k hk h => by simpa using (hG k hk).1 h) hS hB hb (fun j => by simpa using hl j)
  | succ n ih =>
    intro rem pend listed a G w hn hr hp hG hsz hl hS hB hb hw
    by_cases hfin : pend = [] ∧ ∀ i ∈ rem, i ∈ late
    · obtain ⟨rfl, hlate⟩ := hfin
      rw [show n + 1 = rem.length by simpa using hn]
      exact hE rem a G w listed hr hlate hw hsz (fun k hk h => by simpa using (hG k hk).1 h) hS hB hb (fun j => by simpa using hl j)
    have hnd := ok.nodup
    rw [List.nodup_append] at hnd
    obtain ⟨ndp, nd2, dis⟩ := hnd
    rw [List.nodup_append] at nd2
    obtain ⟨nda, ndt, dis2⟩ := nd2
    have hrn : rem.Nodup := ndp.sublist hr
    have hpn : pend.Nodup := nda.sublist hp
    have unl : ∀ x, x < ops.size → (x ∉ rem ∧ x ∉ pend ∧ x ∉ tail) → listed.getD x false = true := fun x hx h => by
      refine getD_true_of (by omega) fun hf => ?_
      rcases (hl x).1 hf with h' | h' | h'
      · exact h.1 h'
      · exact h.2.1 h'
      · exact h.2.2 h'
    have notReady : ∀ j i, j ∈ Region.ready .any ops listed → Waits ops j i → (i ∈ rem ∨ i ∈ pend) → False := fun j i hj hw' hi => by
      obtain ⟨_, oj, hoj, hall⟩ := mem_ready.1 hj
      obtain ⟨oj', hoj', e, he, hbind, hon⟩ := hw'
      rw [hoj] at hoj'
      cases hoj'
      have h1 := getD_false_of (hall e he hbind)
      rw [hon] at h1
      have h2 := (hl i).2 (hi.elim .inl fun h => .inr (.inl h))
      rw [h1] at h2
      cases h2
    rw [show n + 1 + tf = (n + tf) + 1 by omega]
    refine ⟨fun hnil => ?_, fun j hj => ?_⟩
    · exfalso
      cases rem with
      | cons i r =>
        obtain ⟨o, v, ho, _, _⟩ := hw
        have hip : i ∈ plan := hr.subset (by simp)
        have : i ∈ Region.ready .any ops listed := by
          refine mem_ready.2 ⟨(hl i).2 (.inl (by simp)), o, ho, fun e he hbind => ?_⟩
          obtain ⟨h1, h2⟩ := ok.planWaits i hip e.on ⟨o, ho, e, he, hbind, rfl⟩
          refine unl e.on (ok.lt _ (by simp [h1])) ⟨fun h => ?_, fun h => ?_, fun h => ?_⟩
          · rcases List.mem_cons.1 h with h | h
            · exact h2 h
            · have hpw := (ok.planFits.sublist hr)
              rw [List.pairwise_cons] at hpw
              exact (hpw.1 e.on h).2 ⟨o, ho, e, he, hbind, rfl⟩
          · exact dis e.on h1 e.on (by simp [hp.subset h]) rfl
          · exact dis e.on h1 e.on (by simp [h]) rfl
        rw [hnil] at this
        cases this
      | nil =>
        cases pend with
        | nil => simp at hn
        | cons k r =>
          have hka : k ∈ al := hp.subset (by simp)
          obtain ⟨o, ho, _⟩ := ok.box k hka
          have : k ∈ Region.ready .any ops listed := mem_ready.2 ⟨(hl k).2 (.inr (.inl (by simp))), o, ho, fun e he hbind => absurd ⟨o, ho, e, he, hbind, rfl⟩ (ok.boxWaits k hka e.on)⟩
          rw [hnil] at this
          cases this
    · have hun := (mem_ready.1 hj).1
      rcases (hl j).1 hun with hjr | hjp | hjt
      · have hjplan : j ∈ plan := hr.subset hjr
        obtain ⟨o, v, ho, hy, hrest⟩ := wpG_pull ok.sel j rem a hjr ((ok.planFits.sublist hr).imp fun h => h.1) (fun i hi _ hwt => notReady j i hj hwt (.inl hi)) hw
        have hy' := (YG_putAll (G := G) (ok.sel j o · · ho) (al := al) (fun k hk => (ok.boxApart k hk j hjplan o ho).1)).2 hy
        refine hy'.wpOp ho hS fun w' hS' hbel => ?_
        rw [← putAll_put (fun k hk => (ok.boxApart k hk j hjplan o ho).2)]
        refine ih (rem.erase j) pend _ _ G w' ?_ ((List.erase_sublist).trans hr) hp hG (by simpa using hsz) (fun x => ?_) hS' (hB.later hbel) (Nat.le_trans hb hbel.size) hrest
        · rw [List.length_erase_of_mem hjr]
          have := List.length_pos_of_mem hjr
          omega
        · by_cases hx : j = x
          · subst hx
            have h1 : (listed.setIfInBounds j true).getD j true = true := by
              have : j < listed.size := by rw [hsz]; exact ok.lt j (by simp [hjplan])
              simp [this]
            rw [h1]
            refine ⟨fun h => (by cases h), fun h => ?_⟩
            exfalso
            rcases h with h | h | h
            · exact (List.Nodup.mem_erase_iff hrn).1 h |>.1 rfl
            · exact dis j hjplan j (by simp [hp.subset h]) rfl
            · exact dis j hjplan j (by simp [h]) rfl
          · rw [getD_set_ne true hx, hl x, List.Nodup.mem_erase_iff hrn]
            have : x ≠ j := fun h => hx h.symm
            simp [this]
      · have hja : j ∈ al := hp.subset hjp
        obtain ⟨o, ho, hgd, hrun⟩ := ok.box j hja
        unfold wpOp
        simp only [ho]
        rw [if_pos (by simp [Region.wanted, hgd])]
        left
        unfold Oper.wp
        rw [hrun]
        simp only [Oper.upon]
        have hd : o.dst = dstOf ops j := by simp [dstOf, ho]
        rw [hd, ← putAll_set hja nda ((hG j hja).2 hjp) (fun k' hk' hne => ok.boxDst j hja k' hk' hne)]
        have hbel := below_alloc w (Z j)
        refine ih rem (pend.erase j) _ a (setG G j w.heap.size) (w.alloc (Z j)) ?_ hr ((List.erase_sublist).trans hp) (fun k hk => ?_) (by simpa using hsz) (fun x => ?_) (hSb _ _ hS hbel) (hB.add j hb) (Nat.le_trans hb hbel.size) hw
        · rw [List.length_erase_of_mem hjp]
          have := List.length_pos_of_mem hjp
          omega
        · rw [List.Nodup.mem_erase_iff hpn]
          by_cases hkj : k = j
          · simp [setG, hkj]
          · simp [setG, hkj, hG k hk]
        · by_cases hx : j = x
          · subst hx
            have h1 : (listed.setIfInBounds j true).getD j true = true := by
              have : j < listed.size := by rw [hsz]; exact ok.lt j (by simp [hja])
              simp [this]
            rw [h1]
            refine ⟨fun h => (by cases h), fun h => ?_⟩
            exfalso
            rcases h with h | h | h
            · exact dis j (hr.subset h) j (by simp [hja]) rfl
            · exact (List.Nodup.mem_erase_iff hpn).1 h |>.1 rfl
            · exact dis2 j hja j h rfl
          · rw [getD_set_ne true hx, hl x, List.Nodup.mem_erase_iff hpn]
            have : x ≠ j := fun h => hx h.symm
            simp [this]
      · exfalso
        by_cases hp0 : pend = []
        · refine hfin ⟨hp0, fun i hi => Decidable.byContradiction fun hni => ?_⟩
          exact notReady j i hj (ok.tailWaits j hjt i (.inl ⟨hr.subset hi, hni⟩)) (.inl hi)
        · cases pend with
          | nil => exact hp0 rfl
          | cons k r => exact notReady j k hj (ok.tailWaits j hjt k (.inr (hp.subset (by simp)))) (.inr (by simp))
end Go.Proofs.YtfbhpkhpkaeagaaDoor

/- Float, part four: the tail, and the region. -/
namespace Go.Proofs.YtfbhpkhpkaeagaaDoor
set_option linter.unusedVariables false
set_option linter.unusedSimpArgs false
open Go.RowKit

theorem tail_go {P : Program} {ops : Array Oper} {Q : Exit → Act → World → Prop} :
    ∀ (tail : List Nat) (listed : Array Bool) (a : Act) (w : World), tail.Nodup → (∀ t ∈ tail, t < ops.size) → listed.size = ops.size → tail.Pairwise (fun t t' => Waits ops t' t ∧ ¬ Waits ops t t') → (∀ t ∈ tail, ¬ Waits ops t t) → (∀ t ∈ tail, ∀ x, Waits ops t x → x < ops.size) →
      (∀ j, listed.getD j true = false ↔ j ∈ tail) → wpOps P ops Q tail a w → wpAny P .any ops Q tail.length listed a w := by
  intro tail
  induction tail with
  | nil =>
    intro listed a w _ _ _ _ _ _ hl h
    refine ⟨?_, h⟩
    apply List.eq_nil_iff_forall_not_mem.2
    intro j hj
    simpa using (hl j).1 (mem_ready.1 hj).1
  | cons t r ih =>
    intro listed a w hn hlt hsz hp hi hx hl h
    rw [wpOps_cons] at h
    rw [List.nodup_cons] at hn
    rw [List.pairwise_cons] at hp
    have only : ∀ j, j ∈ Region.ready .any ops listed → j = t := fun j hj => by
      obtain ⟨h0, oj, hoj, hall⟩ := mem_ready.1 hj
      rcases List.mem_cons.1 ((hl j).1 h0) with h | h
      · exact h
      · exfalso
        obtain ⟨oj', hoj', e, he, hbind, hon⟩ := (hp.1 j h).1
        rw [hoj] at hoj'
        cases hoj'
        have h1 := getD_false_of (hall e he hbind)
        rw [hon, (hl t).2 (by simp)] at h1
        cases h1
    have htr : t ∈ Region.ready .any ops listed := by
      have hts := hlt t (by simp)
      refine mem_ready.2 ⟨(hl t).2 (by simp), ops[t], by simp [hts], fun e he hbind => ?_⟩
      have hwt : Waits ops t e.on := ⟨ops[t], by simp [hts], e, he, hbind, rfl⟩
      refine getD_true_of (by rw [hsz]; exact hx t (by simp) _ hwt) fun hf => ?_
      rcases List.mem_cons.1 ((hl e.on).1 hf) with h | h
      · rw [h] at hwt; exact hi t (by simp) hwt
      · exact (hp.1 e.on h).2 hwt
    rw [List.length_cons]
    refine ⟨fun hnil => (by rw [hnil] at htr; cases htr), fun j hj => ?_⟩
    rw [only j hj]
    refine wpOp_mono (fun a' w' h' => ih _ a' w' hn.2 (fun t ht => hlt t (by simp [ht])) (by simpa using hsz) hp.2 (fun t ht => hi t (by simp [ht])) (fun t ht => hx t (by simp [ht])) (fun x => ?_) h') h
    by_cases hxt : t = x
    · subst hxt
      have h1 : (listed.setIfInBounds t true).getD t true = true := by
        have : t < listed.size := by rw [hsz]; exact hlt t (by simp)
        simp [this]
      rw [h1]
      exact ⟨fun h => (by cases h), fun h => absurd h hn.1⟩
    · rw [getD_set_ne true hxt, hl x]
      have : x ≠ t := fun h => hxt h.symm
      simp [this]

theorem extract_const {P : Program} {ρ : Operand → Value} {o : Oper} {t : Operand} {k : Nat} (h : o.op = .extract t k) {w : World} {v : Value} {T : World → Prop} (hv : GivesV P ((execOp ρ o).run P w) v T) (w' : World) :
    (execOp ρ o).run P w' = .ok (.value v) w' := by
  have key : (∃ u : Value, ∀ x : World, (execOp ρ o).run P x = .ok (.value u) x) ∨ (∀ x : World, ∃ e, (execOp ρ o).run P x = .halt e x) := by
    unfold execOp
    rw [h]
    simp only [Instr.extract]
    split
    · rename_i vs _
      cases hk : vs[k]? with
      | some u => left; exact ⟨u, fun x => by go_simp⟩
      | none => right; intro x; exact ⟨_, by go_simp; rfl⟩
    · right
      intro x
      exact ⟨_, by go_simp; rfl⟩
  rcases key with ⟨u, hu⟩ | hu
  · rw [hu w] at hv
    obtain ⟨rfl, _⟩ := hv
    exact hu w'
  · obtain ⟨e, he⟩ := hu w
    rw [he] at hv
    exact hv.elim

theorem late_go {P : Program} {ops : Array Oper} {Q : Exit → Act → World → Prop} {S : World → Prop} {Z : Nat → Obj} {plan al tail late : List Nat} (ok : FloatOk P ops Z plan al tail late) (hQ : ∀ c a w, ¬ Q (.panic c) a w)
    {E : Act → Prop} (base tf : Nat)
    (hE : ∀ a, E a → ∀ G w (listed : Array Bool), listed.size = ops.size → (∀ k ∈ al, G k ≠ none) → S w → Boxes Z base al G w → base ≤ w.heap.size → (∀ j, listed.getD j true = false ↔ j ∈ tail) → wpAny P .any ops Q tf listed (putAll ops G al a) w) :
    ∀ (rem : List Nat) a G w (listed : Array Bool), rem.Sublist plan → (∀ i ∈ rem, i ∈ late) → wpG P ops S E rem a → listed.size = ops.size → (∀ k ∈ al, G k ≠ none) → S w → Boxes Z base al G w → base ≤ w.heap.size → (∀ j, listed.getD j true = false ↔ j ∈ rem ∨ j ∈ tail) → wpAny P .any ops Q (rem.length + tf) listed (putAll ops G al a) w := by
  intro rem
  induction rem with
  | nil =>
    intro a G w listed _ _ hw hsz hG hS hB hb hl
    rw [List.length_nil, Nat.zero_add]
    exact hE a hw G w listed hsz hG hS hB hb (fun j => by simpa using hl j)
  | cons i r ih =>
    intro a G w listed hr hlate hw hsz hG hS hB hb hl
    obtain ⟨o, v, ho, hy, hrest⟩ := hw
    have hip : i ∈ plan := hr.subset (by simp)
    have hil : i ∈ late := hlate i (by simp)
    have hnd := ok.nodup
    rw [List.nodup_append] at hnd
    obtain ⟨ndp, nd2, dis⟩ := hnd
    have hrn : (i :: r).Nodup := ndp.sublist hr
    have hy' := (YG_putAll (G := G) (ok.sel i o · · ho) (al := al) (fun k hk => (ok.boxApart k hk i hip o ho).1)).2 hy
    have hyl : Yields P ops o v (putAll ops G al a) := by
      obtain ⟨o', t, k, ho', hop⟩ := ok.lateOp i hil
      rw [ho] at ho'
      cases ho'
      exact hy'.imp (fun h => ⟨h.1, extract_const hop (h.2 w hS)⟩) id
    rw [List.length_cons, show r.length + 1 + tf = (r.length + tf) + 1 by omega]
    refine wpAny_first ho ok.sel (fun c a w h => absurd h (hQ c _ _)) (r.length + tf) listed _ w (fun j oj hj hne hun hno => ?_) ?_ hyl ?_
    · have hjl : j ∈ late ∨ j ∈ tail := by
        rcases (hl j).1 hun with h | h
        · exact .inl (hlate j h)
        · exact .inr h
      rcases ok.lateFree i hil j hjl hne with h | h
      · obtain ⟨oj', hoj', e, he, hbind, hon⟩ := h
        rw [hj] at hoj'
        cases hoj'
        exact absurd hon (hno e he hbind)
      · exact h o oj ho hj
    · refine mem_ready.2 ⟨(hl i).2 (.inl (by simp)), o, ho, fun e he hbind => ?_⟩
      obtain ⟨h1, h2⟩ := ok.planWaits i hip e.on ⟨o, ho, e, he, hbind, rfl⟩
      refine getD_true_of (by rw [hsz]; exact ok.lt _ (by simp [h1])) fun hf => ?_
      rcases (hl e.on).1 hf with h | h
      · rcases List.mem_cons.1 h with h | h
        · exact h2 h
        · have hpw := (ok.planFits.sublist hr)
          rw [List.pairwise_cons] at hpw
          exact (hpw.1 e.on h).2 ⟨o, ho, e, he, hbind, rfl⟩
      · exact dis e.on h1 e.on (by simp [h]) rfl
    · rw [← putAll_put (fun k hk => (ok.boxApart k hk i hip o ho).2)]
      refine ih (a.put o.dst v) G w _ ((List.sublist_cons_self i r).trans hr) (fun x hx => hlate x (by simp [hx])) hrest (by simpa using hsz) hG hS hB hb (fun x => ?_)
      rw [List.nodup_cons] at hrn
      by_cases hx : i = x
      · subst hx
        have h1 : (listed.setIfInBounds i true).getD i true = true := by
          have : i < listed.size := by rw [hsz]; exact ok.lt i (by simp [hip])
          simp [this]
        rw [h1]
        refine ⟨fun h => (by cases h), fun h => ?_⟩
        exfalso
        rcases h with h | h
        · exact hrn.1 h
        · exact dis i hip i (by simp [h]) rfl
      · rw [getD_set_ne true hx, hl x]
        have : x ≠ i := fun h => hx h.symm
        simp [this]

def waitsB (ops : Array Oper) (j i : Nat) : Bool := match ops[j]? with | some oj => oj.after.toList.any (fun e => Region.binds .any e && e.on == i) | none => false
theorem waitsB_iff {ops : Array Oper} {j i : Nat} : Waits ops j i ↔ waitsB ops j i = true := by
  unfold Waits waitsB
  cases ops[j]? with
  | none => simp
  | some o =>
    simp only [Option.some.injEq, exists_eq_left', List.any_eq_true, Bool.and_eq_true, beq_iff_eq]
    constructor
    · rintro ⟨e, h1, h2, h3⟩; exact ⟨e, by simpa using h1, h2, h3⟩
    · rintro ⟨e, h1, h2, h3⟩; exact ⟨e, by simpa using h1, h2, h3⟩

def fitsB (ops : Array Oper) (i j : Nat) : Bool := waitsB ops j i || (match ops[i]?, ops[j]? with | some oi, some oj => oi.apart ops oj | _, _ => true)
theorem fitsB_spec {ops : Array Oper} {i j : Nat} (h : fitsB ops i j = true) : Fits ops i j := by
  unfold fitsB at h
  rw [Bool.or_eq_true] at h
  rcases h with h | h
  · exact .inl (waitsB_iff.2 h)
  · refine .inr fun oi oj hi hj => ?_
    simpa [hi, hj] using h

/-- pairs of a list, each with all that follow -/
def pairsB (f : Nat → Nat → Bool) : List Nat → Bool
  | [] => true
  | i :: r => r.all (f i) && pairsB f r
theorem pairsB_spec {f : Nat → Nat → Bool} : ∀ {l : List Nat}, pairsB f l = true → l.Pairwise (fun i j => f i j = true)
  | [], _ => .nil
  | i :: r, h => by
    simp only [pairsB, Bool.and_eq_true, List.all_eq_true] at h
    exact .cons h.1 (pairsB_spec h.2)

/-- the checks, as one Bool -/
def floatB (ops : Array Oper) (plan al tail late : List Nat) : Bool :=
  Region.noSelect ops &&
  pairsB (fun i j => i != j) (plan ++ (al ++ tail)) &&
  (plan ++ (al ++ tail)).all (fun i => decide (i < ops.size)) &&
  ((plan ++ (al ++ tail)).length == ops.size) &&
  al.all (fun k => (match ops[k]? with | some o => o.guard.isNone | none => false) && (List.range ops.size).all (fun x => !waitsB ops k x) && (match ops[k]? with | some o => o.after.toList.all (fun e => decide (e.on < ops.size)) | none => false)) &&
  pairsB (fun k k' => (dstOf ops k).isNone || dstOf ops k != dstOf ops k') al &&
  al.all (fun k => plan.all (fun i => match ops[i]? with | some oi => (match dstOf ops k with | some d => !(oi.looksAt ops).contains d && oi.dst != some d | none => true) | none => true)) &&
  (plan ++ (al ++ tail)).all (fun i => match ops[i]? with | some o => o.after.toList.all (fun e => decide (e.on < ops.size)) | none => true) &&
  plan.all (fun i => (List.range ops.size).all (fun x => !waitsB ops i x || (plan.contains x && x != i))) &&
  pairsB (fun i j => fitsB ops i j && !waitsB ops i j) plan &&
  tail.all (fun t => (plan ++ al).all (fun i => late.contains i || waitsB ops t i)) &&
  pairsB (fun t t' => waitsB ops t' t && !waitsB ops t t') tail &&
  tail.all (fun t => !waitsB ops t t) &&
  late.all (fun i => (match ops[i]? with | some o => (match o.op with | .extract _ _ => true | _ => false) | none => false) && !al.contains i && (late ++ tail).all (fun j => j == i || fitsB ops i j))
end Go.Proofs.YtfbhpkhpkaeagaaDoor

/- Float, part five: the region, from one Bool and one walk. -/
namespace Go.Proofs.YtfbhpkhpkaeagaaDoor
set_option linter.unusedVariables false
set_option linter.unusedSimpArgs false
open Go.RowKit

theorem pw_sym {R : Nat → Nat → Prop} (hs : ∀ x y, R x y → R y x) (hr : ∀ x, R x x) : ∀ {l : List Nat}, l.Pairwise R → ∀ x ∈ l, ∀ y ∈ l, R x y
  | [], _, _, h, _, _ => by cases h
  | i :: r, hp, x, hx, y, hy => by
    rw [List.pairwise_cons] at hp
    rcases List.mem_cons.1 hx with h1 | h1 <;> rcases List.mem_cons.1 hy with h2 | h2
    · rw [h1, h2]; exact hr _
    · rw [h1]; exact hp.1 y h2
    · rw [h2]; exact hs _ _ (hp.1 x h1)
    · exact pw_sym hs hr hp.2 x h1 y h2

theorem float_ok {P : Program} {ops : Array Oper} {Z : Nat → Obj} {plan al tail late : List Nat} (h : floatB ops plan al tail late = true)
    (hbox : ∀ k ∈ al, ∃ o, ops[k]? = some o ∧ o.guard = none ∧ ∀ (a : Act) (w : World), (execOp a.eval o).run P w = .ok (.value (ptrOf w.heap.size)) (w.alloc (Z k))) :
    FloatOk P ops Z plan al tail late ∧ tail.Pairwise (fun t t' => Waits ops t' t ∧ ¬ Waits ops t t') ∧ (∀ t ∈ tail, ¬ Waits ops t t) ∧ (∀ t ∈ tail, ∀ x, Waits ops t x → x < ops.size) ∧ (plan ++ (al ++ tail)).length = ops.size := by
  simp only [floatB, Bool.and_eq_true] at h
  obtain ⟨⟨⟨⟨⟨⟨⟨⟨⟨⟨⟨⟨⟨h1, h2⟩, h3⟩, h4⟩, h5⟩, h6⟩, h7⟩, h8⟩, h9⟩, h10⟩, h11⟩, h12⟩, h13⟩, h14⟩ := h
  have wl : ∀ i ∈ plan ++ (al ++ tail), ∀ x, Waits ops i x → x < ops.size := by
    intro i hi x hw
    obtain ⟨o, ho, e, he, _, hx⟩ := hw
    rw [List.all_eq_true] at h8
    have h := h8 i hi
    simp only [ho, List.all_eq_true, decide_eq_true_eq] at h
    have := h e (by simpa using he)
    omega
  have nw : ∀ {i j : Nat}, waitsB ops i j = false → ¬ Waits ops i j := fun h hw => by rw [waitsB_iff, h] at hw; cases hw
  refine ⟨⟨Region.noSelect_spec h1, ?_, ?_, hbox, ?_, ?_, ?_, ?_, ?_, ?_, ?_, ?_⟩, ?_, ?_, fun t ht => wl t (by simp [ht]), by simpa using h4⟩
  · exact (pairsB_spec h2).imp fun h => by simpa using h
  · intro i hi
    rw [List.all_eq_true] at h3
    simpa using h3 i hi
  · intro k hk x hw
    have hx := wl k (by simp [hk]) x hw
    rw [List.all_eq_true] at h5
    have h := h5 k hk
    simp only [Bool.and_eq_true, List.all_eq_true, List.mem_range, Bool.not_eq_true'] at h
    exact nw (h.1.2 x hx) hw
  · have key : ∀ x ∈ al, ∀ y ∈ al, x ≠ y → ∀ d, dstOf ops x = some d → dstOf ops y ≠ some d := by
      refine pw_sym (R := fun x y => x ≠ y → ∀ d, dstOf ops x = some d → dstOf ops y ≠ some d) (fun x y h hne d hd hd' => h hne.symm d hd' hd) (fun x hne => absurd rfl hne) ((pairsB_spec h6).imp fun {x y} h _ d hd hd' => ?_)
      simp [hd, hd'] at h
    intro k hk k' hk' hne d hd
    exact key k' hk' k hk hne d hd
  · intro k hk i hi oi hoi
    rw [List.all_eq_true] at h7
    have h := h7 k hk
    rw [List.all_eq_true] at h
    have h := h i hi
    simp only [hoi] at h
    cases hd : dstOf ops k with
    | none => exact ⟨fun d h => (by cases h), fun d _ h => (by cases h)⟩
    | some d =>
      rw [hd] at h
      simp only [Bool.and_eq_true] at h
      refine ⟨fun d' hd' => ?_, fun d' hd' heq => ?_⟩
      · cases hd'
        simpa using h.1
      · cases heq
        simp [hd'] at h
  · intro i hi x hw
    have hx := wl i (by simp [hi]) x hw
    rw [List.all_eq_true] at h9
    have h := h9 i hi
    rw [List.all_eq_true] at h
    have h := h x (List.mem_range.2 hx)
    rw [waitsB_iff.1 hw] at h
    simpa using h
  · exact (pairsB_spec h10).imp fun h => by
      simp only [Bool.and_eq_true, Bool.not_eq_true'] at h
      exact ⟨fitsB_spec h.1, nw h.2⟩
  · intro t ht i hi
    rw [List.all_eq_true] at h11
    have h := h11 t ht
    rw [List.all_eq_true] at h
    rcases hi with hi | hi
    · have h := h i (by simp [hi.1])
      rw [Bool.or_eq_true] at h
      rcases h with h | h
      · exact absurd (by simpa using h) hi.2
      · exact waitsB_iff.2 h
    · have h := h i (by simp [hi])
      rw [Bool.or_eq_true] at h
      rcases h with h | h
      · exfalso
        rw [List.all_eq_true] at h14
        have h' := h14 i (by simpa using h)
        simp only [Bool.and_eq_true, Bool.not_eq_true'] at h'
        have := h'.1.2
        rw [List.contains_iff_mem.2 hi] at this
        cases this
      · exact waitsB_iff.2 h
  · intro i hi
    rw [List.all_eq_true] at h14
    have h' := h14 i hi
    simp only [Bool.and_eq_true] at h'
    have h := h'.1.1
    cases ho : ops[i]? with
    | none => rw [ho] at h; cases h
    | some o =>
      rw [ho] at h
      cases hop : o.op <;> simp only [hop] at h <;> first | exact ⟨o, _, _, rfl, hop⟩ | cases h
  · intro i hi j hj hne
    rw [List.all_eq_true] at h14
    have h' := h14 i hi
    simp only [Bool.and_eq_true, List.all_eq_true] at h'
    have h := h'.2 j (by simpa using hj)
    rw [Bool.or_eq_true] at h
    rcases h with h | h
    · exact absurd (by simpa using h) hne
    · exact fitsB_spec h
  · exact (pairsB_spec h12).imp fun h => by
      simp only [Bool.and_eq_true, Bool.not_eq_true'] at h
      exact ⟨waitsB_iff.2 h.1, nw h.2⟩
  · intro t ht
    rw [List.all_eq_true] at h13
    exact nw (by simpa using h13 t ht)

theorem pigeon : ∀ (n : Nat) (l : List Nat), l.Nodup → (∀ x ∈ l, x < n) → l.length ≤ n
  | 0, l, _, h => by
    cases l with
    | nil => simp
    | cons x r => exact absurd (h x (by simp)) (by omega)
  | n + 1, l, hn, h => by
    have h1 := pigeon n (l.erase n) (hn.sublist List.erase_sublist) (fun x hx => by
      have h2 := (List.Nodup.mem_erase_iff hn).1 hx
      have h3 := h x h2.2
      have h4 := h2.1
      omega)
    by_cases hm : n ∈ l
    · rw [List.length_erase_of_mem hm] at h1
      omega
    · rw [List.erase_of_not_mem hm] at h1
      omega
/-- THE REGION: its values walked once in the plan's order, in abstract worlds that meet S; its boxes wherever they came; its tail in its one order. -/
theorem wp_float {P : Program} {ops : List Oper} {Q : Exit → Act → World → Prop} {id : Nat} {a : Act} {w : World} (S : World → Prop) (Z : Nat → Obj) (plan al tail late : List Nat) (hm : P.follows .mixedOrders = true)
    (hok : floatB ops.toArray plan al tail late = true)
    (hbox : ∀ k ∈ al, ∃ o, ops.toArray[k]? = some o ∧ o.guard = none ∧ ∀ (a : Act) (w : World), (execOp a.eval o).run P w = .ok (.value (ptrOf w.heap.size)) (w.alloc (Z k)))
    (hSb : ∀ w w', S w → Below w.heap.size w w' → S w') (hS : S w)
    (h : wpG P ops.toArray S (fun a' => ∀ G w', (∀ k ∈ al, G k ≠ none) → S w' → Boxes Z w.heap.size al G w' → w.heap.size ≤ w'.heap.size → wpOps P ops.toArray (QN Q) tail (putAll ops.toArray G al a') w') plan a) : (Code.region id ops.toArray true).wp P Q a w := by
  obtain ⟨ok, t1, t2, t3, hlen⟩ := float_ok (P := P) (Z := Z) hok hbox
  have hS' : S w.drew := hSb _ _ hS (Below.refl _ _).drew
  have hlen' : ops.toArray.size = plan.length + al.length + tail.length := by rw [← hlen]; simp; omega
  have hmem : ∀ j, j < ops.toArray.size → j ∈ plan ++ (al ++ tail) := by
    intro j hj
    refine Decidable.byContradiction fun hn => ?_
    have := pigeon ops.toArray.size (j :: (plan ++ (al ++ tail))) (List.nodup_cons.2 ⟨hn, ok.nodup⟩) (fun x hx => by
      rcases List.mem_cons.1 hx with h | h
      · rw [h]; exact hj
      · exact ok.lt x h)
    rw [List.length_cons, hlen] at this
    omega
  have main : (Code.region id ops.toArray true).wp P (QN Q) a w := ?_
  · refine Code.wp_mono (fun e a w hq => ?_) main
    cases e <;> first | exact hq | exact hq.elim
  refine wp_region_any hm ?_
  rw [show ops.toArray.size = (plan.length + al.length) + tail.length by omega]
  have h0 : putAll ops.toArray (fun _ => none) al a = a := by
    clear hmem hlen hlen' t1 t2 t3 ok h hbox hok
    induction al with
    | nil => rfl
    | cons k r ih => exact ih
  rw [← h0]
  have hrep : ∀ n j, (Array.replicate n false).getD j true = false ↔ j < n := by
    intro n j
    by_cases hj : j < n <;> simp [hj]
  have key := float_go (Q := QN Q) ok hSb w.heap.size tail.length (late_go ok (fun c a w h => h) w.heap.size tail.length (fun a' hE G w' listed hsz hG hS hB hb hl => tail_go tail listed _ w' ((List.nodup_append.1 (List.nodup_append.1 ok.nodup).2.1).2.1) (fun t ht => ok.lt t (by simp [ht])) hsz t1 t2 t3 hl (hE G w' hG hS hB hb)))
    (plan.length + al.length) plan al (Array.replicate ops.toArray.size false) a (fun _ => none) w.drew rfl (List.Sublist.refl _) (List.Sublist.refl _) (fun k hk => by simp [hk]) (by simp) (fun j => ?_) hS' ⟨fun k _ g hg => (by cases hg), fun k _ k' _ _ g hg => (by cases hg)⟩ (Nat.le_refl _) h
  · rw [show plan.length + al.length + tail.length = ops.toArray.size by omega] at key ⊢
    exact key
  · rw [hrep]
    constructor
    · intro hj; simpa using hmem j hj
    · intro hj; exact ok.lt j (by simpa using hj)
end Go.Proofs.YtfbhpkhpkaeagaaDoor
