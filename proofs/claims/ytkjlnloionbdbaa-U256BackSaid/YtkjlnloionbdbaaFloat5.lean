/- Float, part five: the region, from one Bool and one walk. -/
import Derived.Test.YtkjlnloionbdbaaFloat4
namespace Go.Proofs.Ytkjlnloionbdbaa
set_option linter.unusedVariables false
set_option linter.unusedSimpArgs false
open Go.RowKit

theorem pw_sym {R : Nat → Nat → Prop} (hs : ∀ x y, R x y → R y x) (hr : ∀ x, R x x) : ∀ {l : List Nat}, l.Pairwise R → ∀ x ∈ l, ∀ y ∈ l, R x y
  | [], _, _, h, _, _ => by cases h
  | i :: r, hp, x, hx, y, hy => by
    rw [List.pairwise_cons] at hp
    rcases List.mem_cons.1 hx with h1 | h1 <;> rcases List.mem_cons.1 hy with h2 | h2
    · rw [h1, h2]; exact hr _
    · rw [h1]; exact hp.1 y h2
    · rw [h2]; exact hs _ _ (hp.1 x h1)
    · exact pw_sym hs hr hp.2 x h1 y h2

theorem float_ok {P : Program} {ops : Array Oper} {Z : Nat → Obj} {plan al tail late : List Nat} (h : floatB ops plan al tail late = true)
    (hbox : ∀ k ∈ al, ∃ o, ops[k]? = some o ∧ o.guard = none ∧ ∀ (a : Act) (w : World), (execOp a.eval o).run P w = .ok (.value (ptrOf w.heap.size)) (w.alloc (Z k))) :
    FloatOk P ops Z plan al tail late ∧ tail.Pairwise (fun t t' => Waits ops t' t ∧ ¬ Waits ops t t') ∧ (∀ t ∈ tail, ¬ Waits ops t t) ∧ (∀ t ∈ tail, ∀ x, Waits ops t x → x < ops.size) ∧ (plan ++ (al ++ tail)).length = ops.size := by
  simp only [floatB, Bool.and_eq_true] at h
  obtain ⟨⟨⟨⟨⟨⟨⟨⟨⟨⟨⟨⟨⟨h1, h2⟩, h3⟩, h4⟩, h5⟩, h6⟩, h7⟩, h8⟩, h9⟩, h10⟩, h11⟩, h12⟩, h13⟩, h14⟩ := h
  have wl : ∀ i ∈ plan ++ (al ++ tail), ∀ x, Waits ops i x → x < ops.size := by
    intro i hi x hw
    obtain ⟨o, ho, e, he, _, hx⟩ := hw
    rw [List.all_eq_true] at h8
    have h := h8 i hi
    simp only [ho, List.all_eq_true, decide_eq_true_eq] at h
    have := h e (by simpa using he)
    omega
  have nw : ∀ {i j : Nat}, waitsB ops i j = false → ¬ Waits ops i j := fun h hw => by rw [waitsB_iff, h] at hw; cases hw
  refine ⟨⟨Region.noSelect_spec h1, ?_, ?_, hbox, ?_, ?_, ?_, ?_, ?_, ?_, ?_, ?_⟩, ?_, ?_, fun t ht => wl t (by simp [ht]), by simpa using h4⟩
  · exact (pairsB_spec h2).imp fun h => by simpa using h
  · intro i hi
    rw [List.all_eq_true] at h3
    simpa using h3 i hi
  · intro k hk x hw
    have hx := wl k (by simp [hk]) x hw
    rw [List.all_eq_true] at h5
    have h := h5 k hk
    simp only [Bool.and_eq_true, List.all_eq_true, List.mem_range, Bool.not_eq_true'] at h
    exact nw (h.1.2 x hx) hw
  · have key : ∀ x ∈ al, ∀ y ∈ al, x ≠ y → ∀ d, dstOf ops x = some d → dstOf ops y ≠ some d := by
      refine pw_sym (R := fun x y => x ≠ y → ∀ d, dstOf ops x = some d → dstOf ops y ≠ some d) (fun x y h hne d hd hd' => h hne.symm d hd' hd) (fun x hne => absurd rfl hne) ((pairsB_spec h6).imp fun {x y} h _ d hd hd' => ?_)
      simp [hd, hd'] at h
    intro k hk k' hk' hne d hd
    exact key k' hk' k hk hne d hd
  · intro k hk i hi oi hoi
    rw [List.all_eq_true] at h7
    have h := h7 k hk
    rw [List.all_eq_true] at h
    have h := h i hi
    simp only [hoi] at h
    cases hd : dstOf ops k with
    | none => exact ⟨fun d h => (by cases h), fun d _ h => (by cases h)⟩
    | some d =>
      rw [hd] at h
      simp only [Bool.and_eq_true] at h
      refine ⟨fun d' hd' => ?_, fun d' hd' heq => ?_⟩
      · cases hd'
        simpa using h.1
      · cases heq
        simp [hd'] at h
  · intro i hi x hw
    have hx := wl i (by simp [hi]) x hw
    rw [List.all_eq_true] at h9
    have h := h9 i hi
    rw [List.all_eq_true] at h
    have h := h x (List.mem_range.2 hx)
    rw [waitsB_iff.1 hw] at h
    simpa using h
  · exact (pairsB_spec h10).imp fun h => by
      simp only [Bool.and_eq_true, Bool.not_eq_true'] at h
      exact ⟨fitsB_spec h.1, nw h.2⟩
  · intro t ht i hi
    rw [List.all_eq_true] at h11
    have h := h11 t ht
    rw [List.all_eq_true] at h
    rcases hi with hi | hi
    · have h := h i (by simp [hi.1])
      rw [Bool.or_eq_true] at h
      rcases h with h | h
      · exact absurd (by simpa using h) hi.2
      · exact waitsB_iff.2 h
    · have h := h i (by simp [hi])
      rw [Bool.or_eq_true] at h
      rcases h with h | h
      · exfalso
        rw [List.all_eq_true] at h14
        have h' := h14 i (by simpa using h)
        simp only [Bool.and_eq_true, Bool.not_eq_true'] at h'
        have := h'.1.2
        rw [List.contains_iff_mem.2 hi] at this
        cases this
      · exact waitsB_iff.2 h
  · intro i hi
    rw [List.all_eq_true] at h14
    have h' := h14 i hi
    simp only [Bool.and_eq_true] at h'
    have h := h'.1.1
    cases ho : ops[i]? with
    | none => rw [ho] at h; cases h
    | some o =>
      rw [ho] at h
      cases hop : o.op <;> simp only [hop] at h <;> first | exact ⟨o, _, _, rfl, hop⟩ | cases h
  · intro i hi j hj hne
    rw [List.all_eq_true] at h14
    have h' := h14 i hi
    simp only [Bool.and_eq_true, List.all_eq_true] at h'
    have h := h'.2 j (by simpa using hj)
    rw [Bool.or_eq_true] at h
    rcases h with h | h
    · exact absurd (by simpa using h) hne
    · exact fitsB_spec h
  · exact (pairsB_spec h12).imp fun h => by
      simp only [Bool.and_eq_true, Bool.not_eq_true'] at h
      exact ⟨waitsB_iff.2 h.1, nw h.2⟩
  · intro t ht
    rw [List.all_eq_true] at h13
    exact nw (by simpa using h13 t ht)

theorem pigeon : ∀ (n : Nat) (l : List Nat), l.Nodup → (∀ x ∈ l, x < n) → l.length ≤ n
  | 0, l, _, h => by
    cases l with
    | nil => simp
    | cons x r => exact absurd (h x (by simp)) (by omega)
  | n + 1, l, hn, h => by
    have h1 := pigeon n (l.erase n) (hn.sublist List.erase_sublist) (fun x hx => by
      have h2 := (List.Nodup.mem_erase_iff hn).1 hx
      have h3 := h x h2.2
      have h4 := h2.1
      omega)
    by_cases hm : n ∈ l
    · rw [List.length_erase_of_mem hm] at h1
      omega
    · rw [List.erase_of_not_mem hm] at h1
      omega
/-- THE REGION: its values walked once in the plan's order, in abstract worlds that meet S; its boxes wherever they came; its tail in its one order. -/
theorem wp_float {P : Program} {ops : List Oper} {Q : Exit → Act → World → Prop} {id : Nat} {a : Act} {w : World} (S : World → Prop) (Z : Nat → Obj) (plan al tail late : List Nat) (hm : P.follows .mixedOrders = true)
    (hok : floatB ops.toArray plan al tail late = true)
    (hbox : ∀ k ∈ al, ∃ o, ops.toArray[k]? = some o ∧ o.guard = none ∧ ∀ (a : Act) (w : World), (execOp a.eval o).run P w = .ok (.value (ptrOf w.heap.size)) (w.alloc (Z k)))
    (hSb : ∀ w w', S w → Below w.heap.size w w' → S w') (hS : S w)
    (h : wpG P ops.toArray S (fun a' => ∀ G w', (∀ k ∈ al, G k ≠ none) → S w' → Boxes Z w.heap.size al G w' → w.heap.size ≤ w'.heap.size → wpOps P ops.toArray (QN Q) tail (putAll ops.toArray G al a') w') plan a) : (Code.region id ops.toArray true).wp P Q a w := by
  obtain ⟨ok, t1, t2, t3, hlen⟩ := float_ok (P := P) (Z := Z) hok hbox
  have hS' : S w.drew := hSb _ _ hS (Below.refl _ _).drew
  have hlen' : ops.toArray.size = plan.length + al.length + tail.length := by rw [← hlen]; simp; omega
  have hmem : ∀ j, j < ops.toArray.size → j ∈ plan ++ (al ++ tail) := by
    intro j hj
    refine Decidable.byContradiction fun hn => ?_
    have := pigeon ops.toArray.size (j :: (plan ++ (al ++ tail))) (List.nodup_cons.2 ⟨hn, ok.nodup⟩) (fun x hx => by
      rcases List.mem_cons.1 hx with h | h
      · rw [h]; exact hj
      · exact ok.lt x h)
    rw [List.length_cons, hlen] at this
    omega
  have main : (Code.region id ops.toArray true).wp P (QN Q) a w := ?_
  · refine Code.wp_mono (fun e a w hq => ?_) main
    cases e <;> first | exact hq | exact hq.elim
  refine wp_region_any hm ?_
  rw [show ops.toArray.size = (plan.length + al.length) + tail.length by omega]
  have h0 : putAll ops.toArray (fun _ => none) al a = a := by
    clear hmem hlen hlen' t1 t2 t3 ok h hbox hok
    induction al with
    | nil => rfl
    | cons k r ih => exact ih
  rw [← h0]
  have hrep : ∀ n j, (Array.replicate n false).getD j true = false ↔ j < n := by
    intro n j
    by_cases hj : j < n <;> simp [hj]
  have key := float_go (Q := QN Q) ok hSb w.heap.size tail.length (late_go ok (fun c a w h => h) w.heap.size tail.length (fun a' hE G w' listed hsz hG hS hB hb hl => tail_go tail listed _ w' ((List.nodup_append.1 (List.nodup_append.1 ok.nodup).2.1).2.1) (fun t ht => ok.lt t (by simp [ht])) hsz t1 t2 t3 hl (hE G w' hG hS hB hb)))
    (plan.length + al.length) plan al (Array.replicate ops.toArray.size false) a (fun _ => none) w.drew rfl (List.Sublist.refl _) (List.Sublist.refl _) (fun k hk => by simp [hk]) (by simp) (fun j => ?_) hS' ⟨fun k _ g hg => (by cases hg), fun k _ k' _ _ g hg => (by cases hg)⟩ (Nat.le_refl _) h
  · rw [show plan.length + al.length + tail.length = ops.toArray.size by omega] at key ⊢
    exact key
  · rw [hrep]
    constructor
    · intro hj; simpa using hmem j hj
    · intro hj; exact ok.lt j (by simpa using hj)
end Go.Proofs.Ytkjlnloionbdbaa
