/- Float, part three: all orders of the front. -/
import Derived.Test.YtkjlnloionbdbaaFloat2
namespace Go.Proofs.Ytkjlnloionbdbaa
set_option linter.unusedVariables false
set_option linter.unusedSimpArgs false
open Go.RowKit

/-- what the region's edges must say -/
structure FloatOk (P : Program) (ops : Array Oper) (Z : Nat → Obj) (plan al tail late : List Nat) : Prop where
  sel : ∀ (j : Nat) (o : Oper) cs b, ops[j]? = some o → o.op ≠ .select cs b
  nodup : (plan ++ (al ++ tail)).Nodup
  lt : ∀ i ∈ plan ++ (al ++ tail), i < ops.size
  box : ∀ k ∈ al, ∃ o, ops[k]? = some o ∧ o.guard = none ∧ ∀ (a : Act) (w : World), (execOp a.eval o).run P w = .ok (.value (ptrOf w.heap.size)) (w.alloc (Z k))
  boxWaits : ∀ k ∈ al, ∀ x, ¬ Waits ops k x
  boxDst : ∀ k ∈ al, ∀ k' ∈ al, k' ≠ k → ∀ d, dstOf ops k' = some d → dstOf ops k ≠ some d
  boxApart : ∀ k ∈ al, ∀ i ∈ plan, ∀ oi, ops[i]? = some oi → (∀ d, dstOf ops k = some d → d ∉ oi.looksAt ops) ∧ (∀ d, oi.dst = some d → dstOf ops k ≠ some d)
  planWaits : ∀ i ∈ plan, ∀ x, Waits ops i x → x ∈ plan ∧ x ≠ i
  planFits : plan.Pairwise (fun i j => Fits ops i j ∧ ¬ Waits ops i j)
  tailWaits : ∀ t ∈ tail, ∀ i, (i ∈ plan ∧ i ∉ late) ∨ i ∈ al → Waits ops t i
  lateOp : ∀ i ∈ late, ∃ o t k, ops[i]? = some o ∧ o.op = .extract t k
  lateFree : ∀ i ∈ late, ∀ j, j ∈ late ∨ j ∈ tail → j ≠ i → Fits ops i j

theorem getD_true_of {listed : Array Bool} {x : Nat} (hx : x < listed.size) (h : listed.getD x true ≠ false) : listed.getD x false = true := by
  simp [hx] at h ⊢
  exact h
theorem getD_false_of {listed : Array Bool} {x : Nat} (h : listed.getD x false = true) : listed.getD x true = true := by
  rcases Nat.lt_or_ge x listed.size with hx | hx
  · simp [hx] at h ⊢
    exact h
  · simp [hx] at h ⊢

theorem float_go {P : Program} {ops : Array Oper} {Q : Exit → Act → World → Prop} {S : World → Prop} {Z : Nat → Obj} {plan al tail late : List Nat} (ok : FloatOk P ops Z plan al tail late)
    (hSb : ∀ w w', S w → Below w.heap.size w w' → S w') {E : Act → Prop} (base tf : Nat)
    (hE : ∀ (rem : List Nat) a G w (listed : Array Bool), rem.Sublist plan → (∀ i ∈ rem, i ∈ late) → wpG P ops S E rem a → listed.size = ops.size → (∀ k ∈ al, G k ≠ none) → S w → Boxes Z base al G w → base ≤ w.heap.size → (∀ j, listed.getD j true = false ↔ j ∈ rem ∨ j ∈ tail) → wpAny P .any ops Q (rem.length + tf) listed (putAll ops G al a) w) :
    ∀ (n : Nat) (rem pend : List Nat) (listed : Array Bool) (a : Act) (G : Nat → Option Nat) (w : World), n = rem.length + pend.length → rem.Sublist plan → pend.Sublist al →
      (∀ k ∈ al, G k = none ↔ k ∈ pend) → listed.size = ops.size → (∀ j, listed.getD j true = false ↔ j ∈ rem ∨ j ∈ pend ∨ j ∈ tail) → S w → Boxes Z base al G w → base ≤ w.heap.size → wpG P ops S E rem a →
      wpAny P .any ops Q (n + tf) listed (putAll ops G al a) w := by
  intro n
  induction n with
  | zero =>
    intro rem pend listed a G w hn hr hp hG hsz hl hS hB hb hw
    have h1 : rem = [] := List.eq_nil_of_length_eq_zero (by omega)
    have h2 : pend = [] := List.eq_nil_of_length_eq_zero (by omega)
    subst h1
    subst h2
    exact hE [] a G w listed (List.nil_sublist _) (fun i h => by cases h) hw hsz (fun k hk h => by simpa using (hG k hk).1 h) hS hB hb (fun j => by simpa using hl j)
  | succ n ih =>
    intro rem pend listed a G w hn hr hp hG hsz hl hS hB hb hw
    by_cases hfin : pend = [] ∧ ∀ i ∈ rem, i ∈ late
    · obtain ⟨rfl, hlate⟩ := hfin
      rw [show n + 1 = rem.length by simpa using hn]
      exact hE rem a G w listed hr hlate hw hsz (fun k hk h => by simpa using (hG k hk).1 h) hS hB hb (fun j => by simpa using hl j)
    have hnd := ok.nodup
    rw [List.nodup_append] at hnd
    obtain ⟨ndp, nd2, dis⟩ := hnd
    rw [List.nodup_append] at nd2
    obtain ⟨nda, ndt, dis2⟩ := nd2
    have hrn : rem.Nodup := ndp.sublist hr
    have hpn : pend.Nodup := nda.sublist hp
    have unl : ∀ x, x < ops.size → (x ∉ rem ∧ x ∉ pend ∧ x ∉ tail) → listed.getD x false = true := fun x hx h => by
      refine getD_true_of (by omega) fun hf => ?_
      rcases (hl x).1 hf with h' | h' | h'
      · exact h.1 h'
      · exact h.2.1 h'
      · exact h.2.2 h'
    have notReady : ∀ j i, j ∈ Region.ready .any ops listed → Waits ops j i → (i ∈ rem ∨ i ∈ pend) → False := fun j i hj hw' hi => by
      obtain ⟨_, oj, hoj, hall⟩ := mem_ready.1 hj
      obtain ⟨oj', hoj', e, he, hbind, hon⟩ := hw'
      rw [hoj] at hoj'
      cases hoj'
      have h1 := getD_false_of (hall e he hbind)
      rw [hon] at h1
      have h2 := (hl i).2 (hi.elim .inl fun h => .inr (.inl h))
      rw [h1] at h2
      cases h2
    rw [show n + 1 + tf = (n + tf) + 1 by omega]
    refine ⟨fun hnil => ?_, fun j hj => ?_⟩
    · exfalso
      cases rem with
      | cons i r =>
        obtain ⟨o, v, ho, _, _⟩ := hw
        have hip : i ∈ plan := hr.subset (by simp)
        have : i ∈ Region.ready .any ops listed := by
          refine mem_ready.2 ⟨(hl i).2 (.inl (by simp)), o, ho, fun e he hbind => ?_⟩
          obtain ⟨h1, h2⟩ := ok.planWaits i hip e.on ⟨o, ho, e, he, hbind, rfl⟩
          refine unl e.on (ok.lt _ (by simp [h1])) ⟨fun h => ?_, fun h => ?_, fun h => ?_⟩
          · rcases List.mem_cons.1 h with h | h
            · exact h2 h
            · have hpw := (ok.planFits.sublist hr)
              rw [List.pairwise_cons] at hpw
              exact (hpw.1 e.on h).2 ⟨o, ho, e, he, hbind, rfl⟩
          · exact dis e.on h1 e.on (by simp [hp.subset h]) rfl
          · exact dis e.on h1 e.on (by simp [h]) rfl
        rw [hnil] at this
        cases this
      | nil =>
        cases pend with
        | nil => simp at hn
        | cons k r =>
          have hka : k ∈ al := hp.subset (by simp)
          obtain ⟨o, ho, _⟩ := ok.box k hka
          have : k ∈ Region.ready .any ops listed := mem_ready.2 ⟨(hl k).2 (.inr (.inl (by simp))), o, ho, fun e he hbind => absurd ⟨o, ho, e, he, hbind, rfl⟩ (ok.boxWaits k hka e.on)⟩
          rw [hnil] at this
          cases this
    · have hun := (mem_ready.1 hj).1
      rcases (hl j).1 hun with hjr | hjp | hjt
      · have hjplan : j ∈ plan := hr.subset hjr
        obtain ⟨o, v, ho, hy, hrest⟩ := wpG_pull ok.sel j rem a hjr ((ok.planFits.sublist hr).imp fun h => h.1) (fun i hi _ hwt => notReady j i hj hwt (.inl hi)) hw
        have hy' := (YG_putAll (G := G) (ok.sel j o · · ho) (al := al) (fun k hk => (ok.boxApart k hk j hjplan o ho).1)).2 hy
        refine hy'.wpOp ho hS fun w' hS' hbel => ?_
        rw [← putAll_put (fun k hk => (ok.boxApart k hk j hjplan o ho).2)]
        refine ih (rem.erase j) pend _ _ G w' ?_ ((List.erase_sublist).trans hr) hp hG (by simpa using hsz) (fun x => ?_) hS' (hB.later hbel) (Nat.le_trans hb hbel.size) hrest
        · rw [List.length_erase_of_mem hjr]
          have := List.length_pos_of_mem hjr
          omega
        · by_cases hx : j = x
          · subst hx
            have h1 : (listed.setIfInBounds j true).getD j true = true := by
              have : j < listed.size := by rw [hsz]; exact ok.lt j (by simp [hjplan])
              simp [this]
            rw [h1]
            refine ⟨fun h => (by cases h), fun h => ?_⟩
            exfalso
            rcases h with h | h | h
            · exact (List.Nodup.mem_erase_iff hrn).1 h |>.1 rfl
            · exact dis j hjplan j (by simp [hp.subset h]) rfl
            · exact dis j hjplan j (by simp [h]) rfl
          · rw [getD_set_ne true hx, hl x, List.Nodup.mem_erase_iff hrn]
            have : x ≠ j := fun h => hx h.symm
            simp [this]
      · have hja : j ∈ al := hp.subset hjp
        obtain ⟨o, ho, hgd, hrun⟩ := ok.box j hja
        unfold wpOp
        simp only [ho]
        rw [if_pos (by simp [Region.wanted, hgd])]
        left
        unfold Oper.wp
        rw [hrun]
        simp only [Oper.upon]
        have hd : o.dst = dstOf ops j := by simp [dstOf, ho]
        rw [hd, ← putAll_set hja nda ((hG j hja).2 hjp) (fun k' hk' hne => ok.boxDst j hja k' hk' hne)]
        have hbel := below_alloc w (Z j)
        refine ih rem (pend.erase j) _ a (setG G j w.heap.size) (w.alloc (Z j)) ?_ hr ((List.erase_sublist).trans hp) (fun k hk => ?_) (by simpa using hsz) (fun x => ?_) (hSb _ _ hS hbel) (hB.add j hb) (Nat.le_trans hb hbel.size) hw
        · rw [List.length_erase_of_mem hjp]
          have := List.length_pos_of_mem hjp
          omega
        · rw [List.Nodup.mem_erase_iff hpn]
          by_cases hkj : k = j
          · simp [setG, hkj]
          · simp [setG, hkj, hG k hk]
        · by_cases hx : j = x
          · subst hx
            have h1 : (listed.setIfInBounds j true).getD j true = true := by
              have : j < listed.size := by rw [hsz]; exact ok.lt j (by simp [hja])
              simp [this]
            rw [h1]
            refine ⟨fun h => (by cases h), fun h => ?_⟩
            exfalso
            rcases h with h | h | h
            · exact dis j (hr.subset h) j (by simp [hja]) rfl
            · exact (List.Nodup.mem_erase_iff hpn).1 h |>.1 rfl
            · exact dis2 j hja j h rfl
          · rw [getD_set_ne true hx, hl x, List.Nodup.mem_erase_iff hpn]
            have : x ≠ j := fun h => hx h.symm
            simp [this]
      · exfalso
        by_cases hp0 : pend = []
        · refine hfin ⟨hp0, fun i hi => Decidable.byContradiction fun hni => ?_⟩
          exact notReady j i hj (ok.tailWaits j hjt i (.inl ⟨hr.subset hi, hni⟩)) (.inl hi)
        · cases pend with
          | nil => exact hp0 rfl
          | cons k r => exact notReady j k hj (ok.tailWaits j hjt k (.inr (hp.subset (by simp)))) (.inr (by simp))
end Go.Proofs.Ytkjlnloionbdbaa
