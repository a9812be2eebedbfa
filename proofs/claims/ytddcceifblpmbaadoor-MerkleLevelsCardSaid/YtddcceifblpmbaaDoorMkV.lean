/- merkle.Levels. (hM) -/
import Derived.Test.YtddcceifblpmbaaDoorMkB
namespace Go.Proofs.YtddcceifblpmbaaDoor
set_option linter.unusedVariables false
set_option linter.unusedSimpArgs false
open Go.RowKit
attribute [local go_sem] Oper.semAt_some

theorem eltSl : Elt Tryd.prog 66 60 (.slice none 0 0) 1 24 := ⟨Tryd.underlying66, by kernel_rfl, rfl, by decide, by decide⟩
section
variable {P : Program} {T E : TypeId} {z : Value} {sz wd : Nat}
/-- append onto one's own row: where the new row lies, too -/
theorem run_appW (he : Elt P T E z sz wd) (w : World) (ty : TypeId) (B : Nat) (hB : B ≤ w.heap.size) (ao : Option Addr) (n c : Nat) (xs : List Value) (hr : OwnN B E sz w ao n c xs)
    (ax : Option Addr) (m cx : Nat) (ys : List Value) (hy : Row w ax m cx sz ys) (hm : 0 < m) (hb : (n + m) * wd ≤ 140737488355328) :
    ∃ g cap w' row, (Builtin.append_ #[T, T] ty #[.slice ao n c, .slice ax m cx]).run P w = .ok (.slice (some ⟨g, 0, none⟩) (n + m) cap) w' ∧
      w'.ownsRow B E sz (.slice (some ⟨g, 0, none⟩) (n + m) cap) (n + m) (xs ++ ys) ∧ w.grownBy w' row ∧ (∀ k, row = some k → ao = some ⟨k, 0, none⟩) ∧ (ao = some ⟨g, 0, none⟩ ∨ w.heap.size ≤ g) := by
  rcases hr with ⟨rfl, rfl, rfl, rfl⟩ | ⟨g, rfl, hr⟩
  · obtain ⟨g, cap, w', h1, h2, h3, h4, _⟩ := run_appF he w ty none 0 0 [] (row_nil w sz) ax m cx ys hy (by omega) hb
    exact ⟨g, cap, w', none, h1, ownsRow_base h2 hB, h3, fun k h => (by cases h), .inr h4⟩
  · obtain ⟨g', cap, w', h1, h2, h3, h4, _⟩ := run_appO he w ty B g n c xs hr ax m cx ys hy hb hB
    exact ⟨g', cap, w', some g, h1, h2, h3, fun k h => by (cases h; rfl), h4.elim (fun e => .inl (by rw [e])) (fun e => .inr (by omega))⟩
theorem wpListR_appW (he : Elt P T E z sz wd) {w : World} {ops : Array Oper} {rest : List Oper} {o : Oper} {a : Act} {Q : Exit → Act → World → Prop} {r n0 : Nat} (hgd : o.guard = none) (s x : Operand)
    (ho : o.op = .call { callee := .builtin .append, args := #[s, x], argTypes := #[T, T] })
    (B : Nat) (hB : B ≤ w.heap.size) (ao : Option Addr) (n c : Nat) (xs : List Value) (hs : a.eval s = .slice ao n c) (hr : OwnN B E sz w ao n c xs)
    (ax : Option Addr) (m cx : Nat) (ys : List Value) (hx : a.eval x = .slice ax m cx) (hy : Row w ax m cx sz ys) (hm : 0 < m) (hb : (n + m) * wd ≤ 140737488355328)
    (h : ∀ g cap w' row, w'.ownsRow B E sz (.slice (some ⟨g, 0, none⟩) (n + m) cap) (n + m) (xs ++ ys) → w.grownBy w' row → (∀ k, row = some k → ao = some ⟨k, 0, none⟩) → (ao = some ⟨g, 0, none⟩ ∨ w.heap.size ≤ g) →
      wpListIn (Fence.wide.inRound r) n0 P ops Q rest (a.put o.dst (.slice (some ⟨g, 0, none⟩) (n + m) cap)) w') : wpListIn (Fence.wide.inRound r) n0 P ops Q (o :: rest) a w := by
  refine wpListR_op hgd (by rw [ho]; intro c h; cases h) fun K hK => ?_
  obtain ⟨g, cap, w', row, hrun, h1, h2, h3, h4⟩ := run_appW he w o.type B hB ao n c xs hr ax m cx ys hy hm hb
  unfold Oper.wp
  simp [execOp, ho, resolve, invoke, builtin, hs, hx, hrun, Result.andThen]
  exact hK _ _ (h g cap w' row h1 h2 h3 h4)
end
/-- which block a slice lies in -/
def slOff (v : Value) (b : Nat) : Prop := ∀ ao n c, v = .slice ao n c → ∀ ad, ao = some ad → ad.block ≠ b
theorem VL.grown {L : List HF} {j : Nat} {v : Value} {X Y : World} {row : Option Nat} (h : VL L j v X) (hg : X.grownBy Y row) (ho : ∀ k, row = some k → slOff v k) : VL L j v Y := by
  obtain ⟨ao, n, c, e, hr⟩ := h
  exact ⟨ao, n, c, e, hr.grown hg fun k hk ad ha _ => ho k hk ao n c e ad ha⟩
theorem VL.setFar {L : List HF} {j : Nat} {v : Value} {X : World} (h : VL L j v X) (p : Addr) (u : Value) (ho : slOff v p.block) : VL L j v (X.setCell p u) := by
  obtain ⟨ao, n, c, e, hr⟩ := h
  exact ⟨ao, n, c, e, hr.setFar p u fun ad ha _ => ho ao n c e ad ha⟩
theorem VL.off {L : List HF} {j : Nat} {v : Value} {X : World} {g : Nat} (h : VL L j v X) (hne : hsL (lev L j) ≠ []) (hg : X.heap.size ≤ g) : slOff v g := by
  obtain ⟨ao, n, c, e, hr⟩ := h
  intro ao' n' c' e' ad ha
  rw [e] at e'
  simp only [Value.slice.injEq] at e'
  have := hr.lt ad (by rw [e'.1]; exact ha) hne
  omega
/-- what Levels' own cells hold between two rounds -/
def LsJ (w : World) (L : List HF) (k : Nat) (W : World) : Prop :=
  ∃ (lo : Option Addr) (cp : Nat) (vs : List Value), vs.length = k ∧ Mem W [(w.heap.size, [.slice lo k cp])] ∧ OwnN (w.heap.size + 2) 60 1 W lo k cp vs ∧
    (∀ j v, vs[j]? = some v → VL L j v W ∧ slOff v w.heap.size ∧ ∀ g, lo = some ⟨g, 0, none⟩ → slOff v g) ∧ Below w.heap.size w W ∧ w.heap.size + 2 ≤ W.heap.size
theorem LsJ.book {w : World} {L : List HF} (k : Nat) (X Y : World) (h : LsJ w L k X) (hb : Book (w.heap.size + 2) X Y) : LsJ w L k Y := by
  obtain ⟨lo, cp, vs, h1, h2, h3, h4, h5, h6⟩ := h
  exact ⟨lo, cp, vs, h1, h2.book hb (by simp), h3.book hb, fun j v hj => ⟨VL.book _ _ _ _ _ (h4 j v hj).1 hb, (h4 j v hj).2⟩, h5.trans (hb.below.mono (by omega)), Nat.le_trans h6 hb.size⟩
/-- what Levels hands back -/
def LsPost (w : World) (L : List HF) (n : Nat) (e : Ending) (w' : World) : Prop :=
  ∃ (lo : Option Addr) (cp : Nat) (vs : List Value), e = .returned (.slice lo (levN n) cp) ∧ Row w' lo (levN n) cp 1 vs ∧ (∀ j v, vs[j]? = some v → VL L j v w') ∧ Below w.heap.size w w'

set_option maxRecDepth 100000 in
set_option maxHeartbeats 8000000 in
theorem levelsAll_any (ao : Option Addr) (n c : Nat) (L : List HF) (w : World) (hT : Tab w) (h : Row w ao n c 32 (hsL L)) (hL : ∀ f ∈ L, HB f) :
    Calls Tryd.prog 49 #[.slice ao n c] w (LsPost w L n) := by
  have hln := hs_len h
  have HLt := Lib.hid (h.lt)
  have HN := Lib.hid hln
  refine (callsIn_wide (n := 3)).1 (callsIn_of_wp_marks Tryd.func49 rfl trivial ?_ rfl)
  simp only [Tryd.ntmps49, List.size_toArray, List.length_cons, List.length_nil, Nat.reduceAdd, Nat.reduceSub, Array.replicate_succ, Array.replicate_zero, List.push_toArray, List.append_toArray, List.nil_append, List.cons_append]
  have HR := Lib.hid h
  have HLb := Lib.hid hL
  have HT := Lib.hid hT
  clear h hL hT hln
  have HM0 := Lib.hid (Mem.al (mem_nil w) [.slice none 0 0] 66)
  gi_wp2
  refine ⟨trivial, ?_⟩
  refine (callsIn_wide.2 (levels_any ao n c _)).mono ?_
  rintro e w4 ⟨rfl, hw4⟩
  have hM4 : Mem w4 [(w.heap.size, [.slice none 0 0])] := by rw [hw4]; exact Mem.skip HM0.out _
  have hS4 : w4.heap.size = w.heap.size + 2 := by rw [hw4]; simp
  have hB4 : Below w.heap.size w w4 := by rw [hw4]; (repeat (first | exact Below.refl _ _ | refine Below.drew ?_ | refine bl_drewN ?_ _ | (refine Below.alloc ?_ (by first | exact Nat.le_refl _ | (simp; done) | (simp; omega)) _)))
  have hC4 : w4.cell? ⟨w.heap.size + 1, 0, none⟩ = some (.slice ao n c) := by
    rw [hw4]
    have := World.cell?_alloc_new (w.alloc (.cells #[.slice none 0 0] 66)) #[.slice ao n c] 60 0
    simp only [World.size_alloc, Nat.add_assoc, Nat.reduceAdd] at this
    exact this.trans rfl
  simp only [World.size_alloc, Nat.add_assoc, Nat.reduceAdd]
  clear hw4 HM0
  gi_wp2
  have HRo := Lib.hid (levels_rounds 2 w HT.out ao n c L HR.out HLb.out w4 hB4 (w.heap.size + 1) (by omega) hC4)
  refine wpIn_rounds rfl (enters_of Tryd.func103 (by kernel_rfl) rfl) HRo.out (Below.refl _ _) hB4.size rfl (LsJ w L) (by rw [hS4]; exact LsJ.book) (VL.book _) (fun _ _ h => ko_of_below h)
    ⟨none, 0, [], rfl, hM4, ownN_nil _ _ _ _, fun j v hj => (by simp at hj), hB4, Nat.le_of_eq hS4.symm⟩
    (fun v a' _ => a' = { tmps := #[.slice ao n c, undef, .slice none 0 0, .pointer (some ⟨w.heap.size, 0, none⟩), v, .slice ao n c, .func (.func 103) #[] #[.pointer (some ⟨w.heap.size + 1, 0, none⟩)], v, undef, undef, undef, undef, undef], defers := [] })
    (fun _ _ _ _ h _ => h) ?assign ?body ?done
  case assign =>
    intro l k v W0 W K hk hj hbk hv hK
    gi_wp2
    exact hK _ _ (Below.refl _ _) rfl
  case body =>
    rintro l k v W0 W a' hk ⟨lo, cp, vs, hvl, hmm, hown, hvs, hbl, hsz⟩ hbook ⟨ao2, q, c2, rfl, hrow⟩ hf rfl
    have hM := hmm.book hbook (by rw [hS4]; simp)
    have hO := hown.book hbook
    have hblW : Below w.heap.size w W := hbl.trans (hbook.below.mono (by omega))
    have hszW : w.heap.size + 2 ≤ W.heap.size := Nat.le_trans hsz hbook.size
    have hk13 : k ≤ 12 := by have := levN_le n; omega
    have hne : ∀ j, hsL (lev L j) ≠ [] := by
      intro j e
      have h1 := congrArg List.length e
      rw [hsL_len, lev_len, HN.out] at h1
      have h3 : n ≠ 0 := by intro e; rw [e] at hk; simp [levN] at hk
      have := wid_pos (n := n) (by omega) j
      simp at h1
      omega
    have hq1 := hne k
    have HNe := Lib.hid hne
    have hfar : ∀ ad, ao2 = some ad → ad.block < w.heap.size ∨ W0.heap.size ≤ ad.block := by
      intro ad ha
      rcases hf with ⟨rfl, e⟩ | ⟨ao3, n3, c3, e, h3⟩
      · simp only [Value.slice.injEq] at e
        exact .inl (HLt.out ad (by rw [← e.1]; exact ha) hq1)
      · simp only [Value.slice.injEq] at e
        exact .inr (h3 ad (by rw [← e.1]; exact ha))
    have hlv : ∀ ad, ao2 = some ad → ad.block < W.heap.size := fun ad ha => hrow.lt ad ha hq1
    have hown0 := hown
    have hvsW : ∀ j v, vs[j]? = some v → VL L j v W ∧ slOff v w.heap.size ∧ ∀ g, lo = some ⟨g, 0, none⟩ → slOff v g := fun j v hj => ⟨VL.book _ _ _ _ _ (hvs j v hj).1 hbook, (hvs j v hj).2⟩
    have hoff1 : slOff (.slice ao2 q c2) w.heap.size := by
      intro ao n c e ad ha
      simp only [Value.slice.injEq] at e
      have := hfar ad (by rw [e.1]; exact ha)
      omega
    have hoff2 : ∀ g, lo = some ⟨g, 0, none⟩ → slOff (.slice ao2 q c2) g := by
      intro g hg ao n c e ad ha
      simp only [Value.slice.injEq] at e
      have h1 := hfar ad (by rw [e.1]; exact ha)
      rw [hg] at hown0
      have h2 := hown0.lt
      omega
    have hbs : ∀ x : World, (Instr.buildSlice 66 1 #[(0, .slice ao2 q c2)]).run Tryd.prog x = .ok (.slice (some ⟨x.heap.size, 0, none⟩) 1 1) (x.alloc (.cells #[.slice ao2 q c2] 60)) := fun x => by kernel_rfl
    have hcl := hM.1.2.2.1
    have hfz := hM.1.2.1 0
    have HK13 := Lib.hid hk13
    have HM := Lib.hid hM
    have HO := Lib.hid hO
    have HW := Lib.hid hblW
    have HSz := Lib.hid hszW
    have HRw := Lib.hid hrow
    have HVs := Lib.hid hvsW
    have HF1 := Lib.hid hoff1
    have HF2 := Lib.hid hoff2
    have HLv := Lib.hid hlv
    have HVl := Lib.hid hvl
    have HRs := Lib.hid (show Row (W.alloc (.cells #[.slice ao2 q c2] 60)) (some ⟨W.heap.size, 0, none⟩) 1 1 1 [.slice ao2 q c2] from row_new W #[.slice ao2 q c2] 60 1 1 1 rfl (Nat.le_refl _) (by simp [Value.oneCell']))
    clear hk hmm hown hvs hbl hsz hbook hrow hf hM hO hblW hszW hfar hlv hown0 hvsW hoff1 hoff2 hq1 hne hk13 hvl hS4 hM4 hB4 hC4
    gi_wp2_with (gi_at_builtin; refine wpListR_appW eltSl rfl (.tmp 8) (.tmp 10) rfl (w.heap.size + 2) (by have := HSz.out; rw [World.size_alloc]; omega) lo k cp vs rfl (HO.out.alloc _) (some ⟨W.heap.size, 0, none⟩) 1 1 [.slice ao2 q c2] rfl HRs.out (by decide) (by have := HK13.out; omega) ?_; intro g2 cp2 w7 row hown7 hgrow7 hrow7 hg7; have hlt7 := own_row_lt (HO.out.alloc (.cells #[.slice ao2 q c2] 60)) hrow7; have HM7 := Lib.hid (Mem.grown hgrow7 (by intro p hp kk hkk; have h1 := (hlt7 kk hkk).1; simp only [List.mem_cons, List.not_mem_nil, or_false] at hp; subst hp; show w.heap.size ≠ kk; omega) (Mem.skip HM.out (.cells #[.slice ao2 q c2] 60))); have hc7 := HM7.out.1.2.2.1; have hf7 := HM7.out.1.2.1 0; have HG7 := Lib.hid hgrow7; have HR7 := Lib.hid hrow7; have HO7 := Lib.hid hown7; have HH7 := Lib.hid hg7; have HL7 := Lib.hid hlt7; clear hown7 hgrow7 hrow7 hg7 hlt7)
    have hK : KeepsOthers W w7 := (KeepsOthers.alloc W (.cells #[.slice ao2 q c2] 60)).trans (KeepsOthers.of_grownBy HG7.out (fun j o hj ho => own_isCells (HO.out.alloc (.cells #[.slice ao2 q c2] 60)) j o (HR7.out j hj) ho))
    have hBw : Below w.heap.size W w7 := bl_gr (((Below.refl _ W)).alloc (by have := HSz.out; omega) (.cells #[.slice ao2 q c2] 60)) HG7.out (by have := HSz.out; rw [World.size_alloc]; omega) (fun kk hkk => by have := (HL7.out kk hkk).1; omega)
    have hB7 : Below w.heap.size w w7 := HW.out.trans hBw
    have hvk : VL L k (.slice ao2 q c2) W := ⟨_, _, _, rfl, HRw.out⟩
    have hkeep : ∀ j v, VL L j v W → slOff v w.heap.size → (∀ g, lo = some ⟨g, 0, none⟩ → slOff v g) → VL L j v (w7.setCell ⟨w.heap.size, 0, none⟩ (.slice (some ⟨g2, 0, none⟩) (k + 1) cp2)) ∧ slOff v w.heap.size ∧ ∀ g, some (⟨g2, 0, none⟩ : Addr) = some ⟨g, 0, none⟩ → slOff v g := by
      intro j v h1 h2 h3
      have h4 : VL L j v (W.alloc (.cells #[.slice ao2 q c2] 60)) := h1.grown (World.grownBy_alloc W _ none) (fun k hk => by cases hk)
      refine ⟨(h4.grown HG7.out (fun kk hkk => h3 kk (HR7.out kk hkk))).setFar _ _ h2, h2, ?_⟩
      intro g hg
      cases hg
      rcases HH7.out with h | h
      · exact h3 _ h
      · exact h1.off (HNe.out j) (by rw [World.size_alloc] at h; omega)
    refine ⟨hK.trans (KeepsOthers.setCell _ _ _), ⟨some ⟨g2, 0, none⟩, cp2, vs ++ [.slice ao2 q c2], by simp [HVl.out], ?_, (ownN_of HO7.out).setFar _ _ (by simp), ?_, hB7.setCell (p := ⟨w.heap.size, 0, none⟩) (Nat.le_refl _) _, ?_⟩, (hkeep k _ hvk HF1.out HF2.out).1, hBw.setCell (p := ⟨w.heap.size, 0, none⟩) (Nat.le_refl _) _⟩
    · exact Mem.set (k := 0) (v := .slice (some ⟨g2, 0, none⟩) (k + 1) cp2) (by simp) HM7.out
    · intro j v hj
      rcases Nat.lt_or_ge j vs.length with h | h
      · rw [List.getElem?_append_left h] at hj
        have h1 := HVs.out j v hj
        exact hkeep j v h1.1 h1.2.1 h1.2.2
      · rw [List.getElem?_append_right h] at hj
        have hjk : j = k := by
          have := (List.getElem?_eq_some_iff.1 hj).1
          simp at this
          have := HVl.out
          omega
        subst hjk
        rw [HVl.out, Nat.sub_self] at hj
        cases hj
        exact hkeep j _ hvk HF1.out HF2.out
    · rw [sz_setCell]; have := hBw.size; have := HSz.out; omega
  case done =>
    rintro W0 W2 W ⟨lo, cp, vs, hvl, hmm, hown, hvs, hbl, hsz⟩ hE hbook hD
    have hm2 := (hmm.later hE).book hbook (by rw [hS4]; simp)
    have ho2 := (hown.later hE).book hbook
    have hbW : Below w.heap.size w W := (hbl.trans (hE.mono (by omega))).trans (hbook.below.mono (by omega))
    have hvW : ∀ j v, vs[j]? = some v → VL L j v W := by
      intro j v hj
      obtain ⟨ao, n, c, e, hr⟩ := (hvs j v hj).1
      exact ⟨ao, n, c, e, (hr.later hE).book hbook⟩
    have h1c : ∀ u ∈ vs, u.oneCell' = true := by
      intro u hu
      obtain ⟨j, hj⟩ := List.mem_iff_getElem?.1 hu
      obtain ⟨ao, n, c, e, hr⟩ := (hvs j u hj).1
      rw [e]; rfl
    have HSw := Lib.hid (show w.heap.size ≤ w4.heap.size by omega)
    have HO := Lib.hid (ho2.row h1c)
    have HBW := Lib.hid hbW
    have HDf := Lib.hid hD
    have HVW := Lib.hid hvW
    have hc := hm2.1.2.2.1
    clear hvl hmm hown hvs hbl hsz hE hbook hD hm2 ho2 hbW hvW h1c hS4 hM4 hB4 hC4
    gi_wp2
    have hbk : Book w4.heap.size W (W.putObj w4.heap.size (.deferred none)) := Book.putObj _ (Nat.le_refl _) HDf.out rfl
    refine leaves_mark (v := .slice lo (levN n) cp) HDf.out (by first | exact results_tmp rfl _ _ _ | simp [results, Tryd.results49, Result.andThen]) ⟨lo, cp, vs, rfl, HO.out.book hbk, fun j v hj => VL.book _ _ _ _ _ (HVW.out j v hj) hbk, bl_putObj HBW.out HSw.out _⟩
end Go.Proofs.YtddcceifblpmbaaDoor
