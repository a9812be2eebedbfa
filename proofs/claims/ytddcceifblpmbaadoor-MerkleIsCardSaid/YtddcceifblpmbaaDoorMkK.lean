/- merkle.Branch (made by gen_mkb.py). (hM) Merged: MkB, MkV, MkS, MkC, MkR1, MkR2, MkR3, MkR5, MkR6, MkR7, MkR8, MkR4, MkJ, MkK. -/
import Derived.Test.YtddcceifblpmbaaDoorUndL
import Derived.Test.YtddcceifblpmbaaDoorMkO
import Derived.Test.YtddcceifblpmbaaDoorRf7
import Derived.Test.YtddcceifblpmbaaDoorAt
import Derived.Test.YtddcceifblpmbaaDoorLyes
import Derived.Test.YtddcceifblpmbaaDoorMk3
/- merkle.Branch (made by gen_mkb.py). (hM) -/
namespace Go.Proofs.YtddcceifblpmbaaDoor
set_option linter.unusedVariables false
set_option linter.unusedSimpArgs false
open Go.RowKit
attribute [local go_sem] Oper.semAt_some

theorem OwnN.setFar {B : Nat} {E : TypeId} {sz : Nat} {w : World} {ao : Option Addr} {n c : Nat} {xs : List Value} (h : OwnN B E sz w ao n c xs) (p : Addr) (v : Value) (hp : p.block < B) : OwnN B E sz (w.setCell p v) ao n c xs := by
  rcases h with h | ⟨g, h1, h2⟩
  · exact .inl h
  · have hg := (h2.lt g rfl).1
    refine .inr ⟨g, h1, h2.1, ?_⟩
    rcases h2.2 with h3 | ⟨g', cap, cur, e1, e2, e3, e4⟩
    · exact .inl h3
    · refine .inr ⟨g', cap, cur, e1, e2, ?_, e4⟩
      simp only [Value.slice.injEq, Option.some.injEq, Addr.mk.injEq] at e1
      exact (Below.heap_setCell w p v g' (by omega)).trans e3
theorem bl_gr {B : Nat} {a w w' : World} {row : Option Nat} (h : Below B a w) (hg : w.grownBy w' row) (hB : B ≤ w.heap.size) (hr : ∀ k, row = some k → B ≤ k) : Below B a w' := h.grown hg hB hr
theorem own_isCells {B : Nat} {E : TypeId} {sz : Nat} {w : World} {ao : Option Addr} {n c : Nat} {xs : List Value} (h : OwnN B E sz w ao n c xs) : ∀ (j : Nat) (o : Obj), ao = some ⟨j, 0, none⟩ → w.heap[j]? = some o → o.isCells = true := by
  intro j o hj ho
  rcases h with ⟨h, _⟩ | ⟨g, h1, h2⟩
  · rw [h] at hj; cases hj
  · rw [h1] at hj
    simp only [Option.some.injEq, Addr.mk.injEq, and_true] at hj
    subst hj
    rcases h2.2 with ⟨h3, _⟩ | ⟨g', cap, cur, e1, e2, e3, e4⟩
    · cases h3
    · simp only [Value.slice.injEq, Option.some.injEq, Addr.mk.injEq] at e1
      rw [← e1.1.1, ho] at e3
      cases e3
      rfl
theorem own_putObj {B : Nat} {E : TypeId} {sz D : Nat} {w : World} {v : Value} {n : Nat} {xs : List Value} {o ob : Obj} (h : w.ownsRow B E sz v n xs) (hD : w.heap[D]? = some o) (hc : o.isCells = false) : (w.putObj D ob).ownsRow B E sz v n xs := by
  refine ⟨h.1, ?_⟩
  rcases h.2 with h3 | ⟨g', cap, cur, e1, e2, e3, e4⟩
  · exact .inl h3
  · refine .inr ⟨g', cap, cur, e1, e2, ?_, e4⟩
    refine (World.putObj_heap_other ?_).trans e3
    rintro rfl
    rw [hD] at e3
    cases e3
    cases hc
theorem sz_setCell (w : World) (p : Addr) (v : Value) : (w.setCell p v).heap.size = w.heap.size := by simp
/-- what Branch's own cells hold between two rounds -/
def BrJ (w : World) (L : List HF) (n i0 k : Nat) (W : World) : Prop :=
  ∃ (lo : Option Addr) (cp : Nat), Mem W [(w.heap.size + 1, [.slice lo (min k (hgt n)) cp]), (w.heap.size, [.int .i64 ((i0 / 2 ^ min k (hgt n) : Nat) : Int)])] ∧
    OwnN (w.heap.size + 3) 23 32 W lo (min k (hgt n)) cp (hsL (brL L i0 (min k (hgt n)))) ∧ Below w.heap.size w W ∧ w.heap.size + 3 ≤ W.heap.size
theorem BrJ.book {w : World} {L : List HF} {n i0 : Nat} (k : Nat) (X Y : World) (h : BrJ w L n i0 k X) (hb : Book (w.heap.size + 3) X Y) : BrJ w L n i0 k Y := by
  obtain ⟨lo, cp, h1, h2, h3, h4⟩ := h
  exact ⟨lo, cp, h1.book hb (by simp), h2.book hb, h3.trans (hb.below.mono (by omega)), Nat.le_trans h4 hb.size⟩
/-- what Branch hands back -/
def BrPost (w : World) (L : List HF) (n i0 : Nat) (e : Ending) (w' : World) : Prop :=
  ∃ (lo : Option Addr) (cp : Nat), e = .returned (.tuple #[.slice lo (hgt n) cp, .bool true]) ∧ OwnN w.heap.size 23 32 w' lo (hgt n) cp (hsL (brL L i0 (hgt n))) ∧ Below w.heap.size w w'

set_option maxRecDepth 100000 in
set_option maxHeartbeats 8000000 in
theorem branch_any (ao : Option Addr) (n c : Nat) (L : List HF) (i0 : Nat) (w : World) (hT : Tab w) (h : Row w ao n c 32 (hsL L)) (hL : ∀ f ∈ L, HB f) (hi0 : i0 < n) (hn4 : n ≤ 4096) :
    Calls Tryd.prog 46 #[.slice ao n c, .int .i64 (i0 : Int)] w (BrPost w L n i0) := by
  have hln := hs_len h
  have HLt := Lib.hid (h.lt)
  have HN := Lib.hid hln
  refine (callsIn_wide (n := 3)).1 (callsIn_of_wp_marks Tryd.func46 rfl trivial ?_ rfl)
  simp only [Tryd.ntmps46, List.size_toArray, List.length_cons, List.length_nil, Nat.reduceAdd, Nat.reduceSub, Array.replicate_succ, Array.replicate_zero, List.push_toArray, List.append_toArray, List.nil_append, List.cons_append]
  have HR := Lib.hid h
  have HLb := Lib.hid hL
  have HT := Lib.hid hT
  have HI0 := Lib.hid hi0
  have HN4 := Lib.hid hn4
  have e1 : ¬ (i0 : Int) < 0 := by omega
  have e2 : ¬ (n : Int) ≤ (i0 : Int) := by omega
  have e3 : ¬ (4096 : Int) < (n : Int) := by omega
  have hh12 := hgt_small 12 n (by simpa using hn4)
  have HH12 := Lib.hid hh12
  clear h hL hT hln hi0 hn4 hh12
  have hM0 := Mem.al (Mem.al (mem_nil w) [.int .i64 (i0 : Int)] 3) [.slice none 0 0] 60
  simp only [World.size_alloc] at hM0
  have HM0 := Lib.hid hM0
  clear hM0
  gi_wp2
  refine ⟨trivial, ?_⟩
  refine (callsIn_wide.2 (levels_any ao n c _)).mono ?_
  rintro e w4 ⟨rfl, hw4⟩
  have hM4 : Mem w4 [(w.heap.size + 1, [.slice none 0 0]), (w.heap.size, [.int .i64 (i0 : Int)])] := by rw [hw4]; exact Mem.skip HM0.out _
  have hS4 : w4.heap.size = w.heap.size + 3 := by rw [hw4]; simp
  have hB4 : Below w.heap.size w w4 := by rw [hw4]; (repeat (first | exact Below.refl _ _ | refine Below.drew ?_ | refine bl_drewN ?_ _ | (refine Below.alloc ?_ (by first | exact Nat.le_refl _ | (simp; done) | (simp; omega)) _)))
  have hC4 : w4.cell? ⟨w.heap.size + 2, 0, none⟩ = some (.slice ao n c) := by
    rw [hw4]
    have := World.cell?_alloc_new ((w.alloc (.cells #[.int .i64 (i0 : Int)] 3)).alloc (.cells #[.slice none 0 0] 60)) #[.slice ao n c] 60 0
    simp only [World.size_alloc, Nat.add_assoc, Nat.reduceAdd] at this
    exact this.trans rfl
  simp only [World.size_alloc, Nat.add_assoc, Nat.reduceAdd]
  clear hw4 HM0
  gi_wp2
  have HRo := Lib.hid (levels_rounds 2 w HT.out ao n c L HR.out HLb.out w4 hB4 (w.heap.size + 2) (by omega) hC4)
  refine wpIn_rounds rfl (enters_of Tryd.func103 (by kernel_rfl) rfl) HRo.out (Below.refl _ _) hB4.size rfl (BrJ w L n i0) (by rw [hS4]; exact BrJ.book) (VL.book _) (fun _ _ h => ko_of_below h)
    ⟨none, 0, by simpa using hM4, by simpa [brL, hsL] using ownN_nil _ _ _ _, hB4, Nat.le_of_eq hS4.symm⟩
    (fun v a' _ => a' = { tmps := #[.slice ao n c, .int .i64 (i0 : Int), undef, .pointer (some ⟨w.heap.size, 0, none⟩), .slice none 0 0, .bool false, .pointer (some ⟨w.heap.size + 1, 0, none⟩), v, .int .i64 (i0 : Int), .bool false, .bool false, .int .i64 (i0 : Int), .slice ao n c, .int .i64 (n : Int), .bool false, .bool false, .bool false, .slice ao n c, .int .i64 (n : Int), .bool false, .bool false, .slice ao n c, .func (.func 103) #[] #[.pointer (some ⟨w.heap.size + 2, 0, none⟩)], v, undef, undef, undef, undef, undef, undef, undef, undef, undef, undef, undef, undef, undef, undef, undef], defers := [] })
    (fun _ _ _ _ h _ => h) ?assign ?body ?done
  case assign =>
    intro l k v W0 W K hk hj hbk hv hK
    gi_wp2
    exact hK _ _ (Below.refl _ _) rfl
  case body =>
    rintro l k v W0 W a' hk ⟨lo, cp, hmm, hown, hbl, hsz⟩ hbook ⟨ao2, q, c2, rfl, hrow⟩ hf rfl
    have hql : q = wid n k := by have := hs_len hrow; rw [lev_len, HN.out] at this; exact this.symm
    have hM := hmm.book hbook (by rw [hS4]; simp)
    have hO := hown.book hbook
    have hblW : Below w.heap.size w W := hbl.trans (hbook.below.mono (by omega))
    have hszW : w.heap.size + 3 ≤ W.heap.size := Nat.le_trans hsz hbook.size
    have hn0 : n ≠ 0 := by have := HI0.out; omega
    have hkh : k ≤ hgt n := by unfold levN at hk; split at hk <;> omega
    have hfar : ∀ ad, ao2 = some ad → hsL (lev L k) ≠ [] → ad.block < w.heap.size ∨ W0.heap.size ≤ ad.block := by
      intro ad ha hne
      rcases hf with ⟨rfl, e⟩ | ⟨ao3, n3, c3, e, h3⟩
      · simp only [Value.slice.injEq] at e
        exact .inl (HLt.out ad (by rw [← e.1]; exact ha) hne)
      · simp only [Value.slice.injEq] at e
        exact .inr (h3 ad (by rw [← e.1]; exact ha))
    have hlk : (lev L k).length = q := hs_len hrow
    by_cases h1 : 1 < q
    · have hkl : k < hgt n := by
        rcases Nat.lt_or_ge k (hgt n) with h | h
        · exact h
        · have e : k = hgt n := by omega
          rw [hql, e, wid_top (by omega)] at h1
          omega
      have hmin : min k (hgt n) = k := by omega
      rw [hmin] at hM hO hown
      obtain ⟨bb, off, rfl⟩ := row_addr hrow (by intro e; have := congrArg List.length e; rw [hsL_len, hlk] at this; simp at this; omega)
      have hfr := hfar _ rfl (by intro e; have := congrArg List.length e; rw [hsL_len, hlk] at this; simp at this; omega)
      simp only at hfr
      obtain ⟨j, hj⟩ : ∃ j, i0 / 2 ^ k = j := ⟨_, rfl⟩
      have hjq : j < q := by
        rw [← hj, hql]
        have := (climb_lev (L := L) (i := i0) (by rw [HN.out]; exact HI0.out) k).2
        rwa [HN.out] at this
      rw [hj] at hM
      obtain ⟨s, hs⟩ : ∃ s, sibN q j = s := ⟨_, rfl⟩
      have hsq : s < q := by rw [← hs]; exact sib_lt hjq
      obtain ⟨fs, hfs⟩ : ∃ f, (lev L k)[s]? = some f := ⟨_, List.getElem?_eq_getElem (by omega)⟩
      obtain ⟨j2, hj2⟩ : ∃ j2, j / 2 = j2 := ⟨_, rfl⟩
      have hq4 : q ≤ 4096 := by rw [hql]; exact Nat.le_trans (wid_le n (by omega) k) HN4.out
      have hbr : brL L i0 (k + 1) = brL L i0 k ++ [fs] := by
        rw [brL, HN.out, ← hql, hj, hs, List.getD_eq_getElem?_getD, hfs]; rfl
      have hsq0 : 0 ≤ (s : Int) := by omega
      have hsqi : (s : Int) < (q : Int) := by omega
      have hsqn : s < q := hsq
      have h1i : (1 : Int) < (q : Int) := by omega
      have hd1 : (j : Int).tdiv 2 = (j2 : Int) := by rw [Int.tdiv_eq_ediv_of_nonneg (by omega)]; omega
      have hd2 : (j : Int) / 2 = (j2 : Int) := by omega
      have hd3 : IntKind.i64.wrap (j2 : Int) = (j2 : Int) := by rw [IntKind.wrap_i64]; omega
      have HSb := Lib.hid (fun (x : World) => (hs ▸ sibling_any (some ⟨bb, off, none⟩) q c2 j (by omega) x : Calls Tryd.prog 85 #[.slice (some ⟨bb, off, none⟩) q c2, .int .i64 (j : Int)] x fun e w' => e = .returned (.int .i64 (s : Int)) ∧ x = w'))
      have HLs := Lib.hid hfs
      have HBr := Lib.hid hbr
      have HJ2 := Lib.hid (show i0 / 2 ^ (k + 1) = j2 by rw [Nat.pow_succ, ← Nat.div_div_eq_div_mul, hj, hj2])
      have HK13 := Lib.hid (show k ≤ 12 by have := HH12.out; omega)
      have HKl := Lib.hid hkl
      have HSz := Lib.hid hszW
      have HW := Lib.hid hblW
      have HO := Lib.hid (show OwnN (w.heap.size + 3) 23 32 W.drew lo k cp (hsL (brL L i0 k)) from hO.later (Below.refl _ _).drew)
      have HAp := Lib.hid (show ∀ kk, lo = some ⟨kk, 0, none⟩ → ∀ ad, some (⟨bb, off, none⟩ : Addr) = some ad → hsL (lev L k) ≠ [] → ad.block ≠ kk from by
        intro kk hkk ad ha _
        cases ha
        rw [hkk] at hown
        have := hown.lt
        simp only
        omega)
      have HOA := Lib.hid (HO.out.alloc (.cells (b8l fs 32).toArray 23))
      have HCl := Lib.hid (own_isCells HOA.out)
      have HS0 := Lib.hid (show Row W.drew (some ⟨bb, off, none⟩) q c2 32 (hsL (lev L k)) ∧ Mem W.drew [(w.heap.size + 1, [.slice lo k cp]), (w.heap.size, [.int .i64 (j : Int)])] from ⟨hrow.drew, Mem.drew hM⟩)
      have HS1 := Lib.hid (show Row (W.drew.alloc (.cells (b8l fs 32).toArray 23)) (some ⟨bb, off, none⟩) q c2 32 (hsL (lev L k)) ∧ Mem (W.drew.alloc (.cells (b8l fs 32).toArray 23)) [(w.heap.size + 1, [.slice lo k cp]), (w.heap.size, [.int .i64 (j : Int)])] from ⟨HS0.out.1.alloc _, Mem.skip HS0.out.2 _⟩)
      have HB1 := Lib.hid (show Below w.heap.size w (W.drew.alloc (.cells (b8l fs 32).toArray 23)) from (hblW.drew).alloc (by show w.heap.size ≤ W.heap.size; omega) _)
      have HB1w := Lib.hid (show Below w.heap.size W (W.drew.alloc (.cells (b8l fs 32).toArray 23)) from ((Below.refl _ W).drew).alloc (by show w.heap.size ≤ W.heap.size; omega) _)
      have HK1 := Lib.hid (show KeepsOthers W (W.drew.alloc (.cells (b8l fs 32).toArray 23)) from (ko_drew W).trans (KeepsOthers.alloc _ _))
      have HFr := Lib.hid (show bb ≠ w.heap.size + 1 ∧ bb ≠ w.heap.size by omega)
      clear hk hmm hown hbl hsz hbook hrow hf hql hM hO hblW hszW hn0 hkh hfar hlk hkl hmin hfr hj hjq hs hsq hfs hj2 hq4 hbr hS4 hM4 hB4 hC4 h1
      gi_wp2
      refine planU_round 9 (fun x => Row x (some ⟨bb, off, none⟩) q c2 32 (hsL (lev L k)) ∧ Mem x [(w.heap.size + 1, [.slice lo k cp]), (w.heap.size, [.int .i64 (j : Int)])]) [4, 7, 8, 9] [0, 1, 2, 3, 4, 5, 6, 7, 8, 9] (by kernel_rfl) (by kernel_rfl) HS0.out (fun hHeld => ?_)
      iterate 4 (refine wpU_take rfl (by rfl) (by rfl) (by intro w' hSw; (try dsimp only [Mem, cellsAt] at hSw); go_simp; (try with_reducible rfl)) (by assumption) ?_; (try simp only [Act.put, List.setIfInBounds_toArray, List.set_cons_zero, List.set_cons_succ]))
      (refine wpU_step rfl (by rfl) (fun K hK => ?_); go_simp)
      ((with_reducible refine (HSb.out _).mono ?_); rintro e v1 ⟨rfl, rfl⟩; (refine hK.out _ _ _ (fun _ h => h) (hHeld) (fun hHeld => ?_); clear hK; clear K; (try simp only [Act.put, List.setIfInBounds_toArray, List.set_cons_zero, List.set_cons_succ])))
      iterate 1 (refine wpU_take rfl (by rfl) (by rfl) (by intro w' hSw; (try dsimp only [Mem, cellsAt] at hSw); go_simp; (try with_reducible rfl)) (by assumption) ?_; (try simp only [Act.put, List.setIfInBounds_toArray, List.set_cons_zero, List.set_cons_succ]))
      (refine wpU_yield rfl (by rfl) (Go.yieldsIf_load_mid (by rfl) 23 (.tmp 32) rfl bb ((off + s * 32)) rfl (b8l fs 32) _ (fun w' h' => hs_range h'.1 HLs.out) Tryd.underlying23 rfl (by rw [b8l_len]; kernel_rfl)) (by assumption) ?_; (try simp only [Act.put, List.setIfInBounds_toArray, List.set_cons_zero, List.set_cons_succ]))
      (refine wpU_step rfl (by rfl) (fun K hK => ?_))
      (refine step_bsH rfl (.tmp 33) fs rfl rfl ?_; (refine hK.out _ _ _ (fun _ h => h) (HS1.out) (fun hHeld => ?_); clear hK; clear K; (try simp only [Act.put, List.setIfInBounds_toArray, List.set_cons_zero, List.set_cons_succ])))
      (refine wpU_step rfl (by rfl) (fun K hK => ?_))
      (refine step_appN eltHash _ rfl (.tmp 27) (.tmp 34) rfl (w.heap.size + 3) (by have := HSz.out; show w.heap.size + 3 ≤ (W.drew.alloc _).heap.size; rw [World.size_alloc]; show w.heap.size + 3 ≤ W.heap.size + 1; omega) lo k cp (hsL (brL L i0 k)) rfl HOA.out (some ⟨W.drew.heap.size, 0, none⟩) 1 1 (b8l fs 32) rfl (row_hash W.drew fs) (fun _ => by decide) (by have := HK13.out; omega) ?_; intro g2 cp2 w7 row hown7 hgrow7 hrow7; have hlt7 := own_row_lt HOA.out hrow7; have HO7 := Lib.hid (ownN_of hown7); have hlt8 := hown7.lt g2 rfl; have HM7 := Lib.hid (Mem.grown hgrow7 (by intro p hp kk hkk; have h1 := (hlt7 kk hkk).1; simp at hp; rcases hp with rfl | rfl <;> (simp only; omega)) HS1.out.2); have HR7 := Lib.hid (HS1.out.1.grown hgrow7 (by intro kk hkk ad ha hx; exact HAp.out kk (hrow7 kk hkk) ad ha hx)); have HB7 := Lib.hid (below_grown (w0 := w) HB1.out hgrow7 (fun kk hkk => by have := (hlt7 kk hkk).1; omega)); have HB7w := Lib.hid (show Below w.heap.size W w7 from (bl_gr HB1w.out hgrow7 (by have := HSz.out; show w.heap.size ≤ (W.drew.alloc _).heap.size; rw [World.size_alloc]; show w.heap.size ≤ W.heap.size + 1; omega) (fun kk hkk => by have := (hlt7 kk hkk).1; omega))); have HK7 := Lib.hid (HK1.out.trans (KeepsOthers.of_grownBy hgrow7 (fun j o hj ho => HCl.out j o (hrow7 j hj) ho))); have HG2 := Lib.hid hlt8; clear hown7 hgrow7 hrow7 hlt7 hlt8; (refine hK.out _ _ _ (fun _ h => h) (⟨HR7.out, HM7.out⟩) (fun hHeld => ?_); clear hK; clear K; (try simp only [Act.put, List.setIfInBounds_toArray, List.set_cons_zero, List.set_cons_succ])))
      have hc7 := HM7.out.1.2.2.1
      have hf7 := HM7.out.1.2.1 0
      (refine wpU_last rfl (by rfl) (fun K hK => ?_); go_simp)
      (refine hK.out _ _ ?_; clear hK; clear K; (try simp only [Act.put, List.setIfInBounds_toArray, List.set_cons_zero, List.set_cons_succ]))
      (refine wpU_nilR ?_)
      obtain ⟨W8, hW8⟩ : ∃ x, w7.setCell ⟨w.heap.size + 1, 0, none⟩ (.slice (some ⟨g2, 0, none⟩) (k + 1) cp2) = x := ⟨_, rfl⟩
      rw [hW8]
      have HM8 := Lib.hid (show Mem W8 [(w.heap.size + 1, [.slice (some ⟨g2, 0, none⟩) (k + 1) cp2]), (w.heap.size, [.int .i64 (j : Int)])] from by rw [← hW8]; exact Mem.set (by simp) HM7.out)
      have HR8 := Lib.hid (show Row W8 (some ⟨bb, off, none⟩) q c2 32 (hsL (lev L k)) from by rw [← hW8]; exact HR7.out.setFar _ _ (by intro ad h _; cases h; exact HFr.out.1))
      have HO8 := Lib.hid (show OwnN (w.heap.size + 3) 23 32 W8 (some ⟨g2, 0, none⟩) (k + 1) cp2 (hsL (brL L i0 k) ++ b8l fs 32) from by rw [← hW8]; exact HO7.out.setFar _ _ (by simp))
      have HB8 := Lib.hid (show Below w.heap.size w W8 from by rw [← hW8]; exact HB7.out.setCell (p := ⟨w.heap.size + 1, 0, none⟩) (Nat.le_succ _) _)
      have HB8w := Lib.hid (show Below w.heap.size W W8 from by rw [← hW8]; exact HB7w.out.setCell (p := ⟨w.heap.size + 1, 0, none⟩) (Nat.le_succ _) _)
      have HK8 := Lib.hid (show KeepsOthers W W8 from by rw [← hW8]; exact HK7.out.trans (KeepsOthers.setCell _ _ _))
      clear hW8 HM7 HR7 HO7 HB7 HB7w HK7
      have hc8 := HM8.out.2.1.2.2.1
      have hf8 := HM8.out.2.1.2.1 0
      gi_wp2
      refine ⟨HK8.out.trans (KeepsOthers.setCell _ _ _), ⟨some ⟨g2, 0, none⟩, cp2, ?_, ?_, HB8.out.setCell (p := ⟨w.heap.size, 0, none⟩) (Nat.le_refl _) _, ?_⟩, ⟨_, _, _, rfl, HR8.out.setFar _ _ (by intro ad h _; cases h; exact HFr.out.2)⟩, HB8w.out.setCell (p := ⟨w.heap.size, 0, none⟩) (Nat.le_refl _) _⟩
      · rw [show min (k + 1) (hgt n) = k + 1 by have := HKl.out; omega, HJ2.out]
        have h1 : Mem W8 ((w.heap.size, [.int .i64 (j : Int)]) :: [(w.heap.size + 1, [.slice (some ⟨g2, 0, none⟩) (k + 1) cp2])]) := ⟨HM8.out.2.1, HM8.out.1, trivial⟩
        have h2 := Mem.setN (k := 0) (v := .int .i64 (j2 : Int)) (by simp) h1
        exact ⟨h2.2.1, h2.1, trivial⟩
      · rw [show min (k + 1) (hgt n) = k + 1 by have := HKl.out; omega, HBr.out, hsL_app, show hsL [fs] = b8l fs 32 by simp [hsL]]
        exact HO8.out.setFar _ _ (by simp)
      · have := HB8w.out.size; have := HSz.out; rw [sz_setCell]; omega
    · have hkt : k = hgt n := hgt_of (by omega) (by rw [← hql]; exact h1) hkh
      have h1i : ¬ (1 : Int) < (q : Int) := by omega
      have HE := Lib.hid (show BrJ w L n i0 (k + 1) W ∧ VL L k (.slice ao2 q c2) W from ⟨⟨lo, cp, by rw [show min (k + 1) (hgt n) = min k (hgt n) by omega]; exact hM, by rw [show min (k + 1) (hgt n) = min k (hgt n) by omega]; exact hO, hblW, hszW⟩, ⟨_, _, _, rfl, hrow⟩⟩)
      clear hk hmm hown hbl hsz hbook hrow hf hql hM hO hblW hszW hn0 hkh hfar hlk hS4 hM4 hB4 hC4 h1 hkt
      gi_wp2
      exact ⟨KeepsOthers.refl _, HE.out.1, HE.out.2, Below.refl _ _⟩
  case done =>
    rintro W0 W2 W ⟨lo, cp, hmm, hown, hbl, hsz⟩ hE hbook hD
    have hlv : levN n = hgt n + 1 := by unfold levN; rw [if_neg (by have := HI0.out; have := HN4.out; omega)]
    rw [hlv, show min (hgt n + 1) (hgt n) = hgt n by omega] at hmm hown
    have hm2 := (hmm.later hE).book hbook (by rw [hS4]; simp)
    have ho2 := (hown.later hE).book hbook
    have hbW : Below w.heap.size w W := (hbl.trans (hE.mono (by omega))).trans (hbook.below.mono (by omega))
    have HSw := Lib.hid (show w.heap.size ≤ w4.heap.size by omega)
    have HO := Lib.hid ho2
    have HBW := Lib.hid hbW
    have HDf := Lib.hid hD
    have hc := hm2.1.2.2.1
    clear hlv hmm hown hbl hsz hE hbook hD hm2 ho2 hbW hS4 hM4 hB4 hC4
    gi_wp2
    refine leaves_mark (v := .tuple #[.slice lo (hgt n) cp, .bool true]) HDf.out (by first | exact results_tmp2 rfl _ _ _ | simp [results, Tryd.results46, Result.andThen]) ⟨lo, cp, rfl, ?_, bl_putObj HBW.out HSw.out _⟩
    rcases HO.out with ⟨h1, h2, h3, h4⟩ | ⟨g, h1, h2⟩
    · exact .inl ⟨h1, h2, h3, h4⟩
    · exact .inr ⟨g, h1, own_putObj (ownsRow_base h2 (by omega)) HDf.out rfl⟩
end Go.Proofs.YtddcceifblpmbaaDoor

/- merkle.Levels. (hM) -/
namespace Go.Proofs.YtddcceifblpmbaaDoor
set_option linter.unusedVariables false
set_option linter.unusedSimpArgs false
open Go.RowKit
attribute [local go_sem] Oper.semAt_some

theorem eltSl : Elt Tryd.prog 66 60 (.slice none 0 0) 1 24 := ⟨Tryd.underlying66, by kernel_rfl, rfl, by decide, by decide⟩
section
variable {P : Program} {T E : TypeId} {z : Value} {sz wd : Nat}
/-- append onto one's own row: where the new row lies, too -/
theorem run_appW (he : Elt P T E z sz wd) (w : World) (ty : TypeId) (B : Nat) (hB : B ≤ w.heap.size) (ao : Option Addr) (n c : Nat) (xs : List Value) (hr : OwnN B E sz w ao n c xs)
    (ax : Option Addr) (m cx : Nat) (ys : List Value) (hy : Row w ax m cx sz ys) (hm : 0 < m) (hb : (n + m) * wd ≤ 140737488355328) :
    ∃ g cap w' row, (Builtin.append_ #[T, T] ty #[.slice ao n c, .slice ax m cx]).run P w = .ok (.slice (some ⟨g, 0, none⟩) (n + m) cap) w' ∧
      w'.ownsRow B E sz (.slice (some ⟨g, 0, none⟩) (n + m) cap) (n + m) (xs ++ ys) ∧ w.grownBy w' row ∧ (∀ k, row = some k → ao = some ⟨k, 0, none⟩) ∧ (ao = some ⟨g, 0, none⟩ ∨ w.heap.size ≤ g) := by
  rcases hr with ⟨rfl, rfl, rfl, rfl⟩ | ⟨g, rfl, hr⟩
  · obtain ⟨g, cap, w', h1, h2, h3, h4, _⟩ := run_appF he w ty none 0 0 [] (row_nil w sz) ax m cx ys hy (by omega) hb
    exact ⟨g, cap, w', none, h1, ownsRow_base h2 hB, h3, fun k h => (by cases h), .inr h4⟩
  · obtain ⟨g', cap, w', h1, h2, h3, h4, _⟩ := run_appO he w ty B g n c xs hr ax m cx ys hy hb hB
    exact ⟨g', cap, w', some g, h1, h2, h3, fun k h => by (cases h; rfl), h4.elim (fun e => .inl (by rw [e])) (fun e => .inr (by omega))⟩
theorem wpListR_appW (he : Elt P T E z sz wd) {w : World} {ops : Array Oper} {rest : List Oper} {o : Oper} {a : Act} {Q : Exit → Act → World → Prop} {r n0 : Nat} (hgd : o.guard = none) (s x : Operand)
    (ho : o.op = .call { callee := .builtin .append, args := #[s, x], argTypes := #[T, T] })
    (B : Nat) (hB : B ≤ w.heap.size) (ao : Option Addr) (n c : Nat) (xs : List Value) (hs : a.eval s = .slice ao n c) (hr : OwnN B E sz w ao n c xs)
    (ax : Option Addr) (m cx : Nat) (ys : List Value) (hx : a.eval x = .slice ax m cx) (hy : Row w ax m cx sz ys) (hm : 0 < m) (hb : (n + m) * wd ≤ 140737488355328)
    (h : ∀ g cap w' row, w'.ownsRow B E sz (.slice (some ⟨g, 0, none⟩) (n + m) cap) (n + m) (xs ++ ys) → w.grownBy w' row → (∀ k, row = some k → ao = some ⟨k, 0, none⟩) → (ao = some ⟨g, 0, none⟩ ∨ w.heap.size ≤ g) →
      wpListIn (Fence.wide.inRound r) n0 P ops Q rest (a.put o.dst (.slice (some ⟨g, 0, none⟩) (n + m) cap)) w') : wpListIn (Fence.wide.inRound r) n0 P ops Q (o :: rest) a w := by
  refine wpListR_op hgd (by rw [ho]; intro c h; cases h) fun K hK => ?_
  obtain ⟨g, cap, w', row, hrun, h1, h2, h3, h4⟩ := run_appW he w o.type B hB ao n c xs hr ax m cx ys hy hm hb
  unfold Oper.wp
  simp [execOp, ho, resolve, invoke, builtin, hs, hx, hrun, Result.andThen]
  exact hK _ _ (h g cap w' row h1 h2 h3 h4)
end
/-- which block a slice lies in -/
def slOff (v : Value) (b : Nat) : Prop := ∀ ao n c, v = .slice ao n c → ∀ ad, ao = some ad → ad.block ≠ b
theorem VL.grown {L : List HF} {j : Nat} {v : Value} {X Y : World} {row : Option Nat} (h : VL L j v X) (hg : X.grownBy Y row) (ho : ∀ k, row = some k → slOff v k) : VL L j v Y := by
  obtain ⟨ao, n, c, e, hr⟩ := h
  exact ⟨ao, n, c, e, hr.grown hg fun k hk ad ha _ => ho k hk ao n c e ad ha⟩
theorem VL.setFar {L : List HF} {j : Nat} {v : Value} {X : World} (h : VL L j v X) (p : Addr) (u : Value) (ho : slOff v p.block) : VL L j v (X.setCell p u) := by
  obtain ⟨ao, n, c, e, hr⟩ := h
  exact ⟨ao, n, c, e, hr.setFar p u fun ad ha _ => ho ao n c e ad ha⟩
theorem VL.off {L : List HF} {j : Nat} {v : Value} {X : World} {g : Nat} (h : VL L j v X) (hne : hsL (lev L j) ≠ []) (hg : X.heap.size ≤ g) : slOff v g := by
  obtain ⟨ao, n, c, e, hr⟩ := h
  intro ao' n' c' e' ad ha
  rw [e] at e'
  simp only [Value.slice.injEq] at e'
  have := hr.lt ad (by rw [e'.1]; exact ha) hne
  omega
/-- what Levels' own cells hold between two rounds -/
def LsJ (w : World) (L : List HF) (k : Nat) (W : World) : Prop :=
  ∃ (lo : Option Addr) (cp : Nat) (vs : List Value), vs.length = k ∧ Mem W [(w.heap.size, [.slice lo k cp])] ∧ OwnN (w.heap.size + 2) 60 1 W lo k cp vs ∧
    (∀ j v, vs[j]? = some v → VL L j v W ∧ slOff v w.heap.size ∧ ∀ g, lo = some ⟨g, 0, none⟩ → slOff v g) ∧ Below w.heap.size w W ∧ w.heap.size + 2 ≤ W.heap.size
theorem LsJ.book {w : World} {L : List HF} (k : Nat) (X Y : World) (h : LsJ w L k X) (hb : Book (w.heap.size + 2) X Y) : LsJ w L k Y := by
  obtain ⟨lo, cp, vs, h1, h2, h3, h4, h5, h6⟩ := h
  exact ⟨lo, cp, vs, h1, h2.book hb (by simp), h3.book hb, fun j v hj => ⟨VL.book _ _ _ _ _ (h4 j v hj).1 hb, (h4 j v hj).2⟩, h5.trans (hb.below.mono (by omega)), Nat.le_trans h6 hb.size⟩
/-- what Levels hands back -/
def LsPost (w : World) (L : List HF) (n : Nat) (e : Ending) (w' : World) : Prop :=
  ∃ (lo : Option Addr) (cp : Nat) (vs : List Value), e = .returned (.slice lo (levN n) cp) ∧ Row w' lo (levN n) cp 1 vs ∧ (∀ j v, vs[j]? = some v → VL L j v w') ∧ Below w.heap.size w w'

set_option maxRecDepth 100000 in
set_option maxHeartbeats 8000000 in
theorem levelsAll_any (ao : Option Addr) (n c : Nat) (L : List HF) (w : World) (hT : Tab w) (h : Row w ao n c 32 (hsL L)) (hL : ∀ f ∈ L, HB f) :
    Calls Tryd.prog 49 #[.slice ao n c] w (LsPost w L n) := by
  have hln := hs_len h
  have HLt := Lib.hid (h.lt)
  have HN := Lib.hid hln
  refine (callsIn_wide (n := 3)).1 (callsIn_of_wp_marks Tryd.func49 rfl trivial ?_ rfl)
  simp only [Tryd.ntmps49, List.size_toArray, List.length_cons, List.length_nil, Nat.reduceAdd, Nat.reduceSub, Array.replicate_succ, Array.replicate_zero, List.push_toArray, List.append_toArray, List.nil_append, List.cons_append]
  have HR := Lib.hid h
  have HLb := Lib.hid hL
  have HT := Lib.hid hT
  clear h hL hT hln
  have HM0 := Lib.hid (Mem.al (mem_nil w) [.slice none 0 0] 66)
  gi_wp2
  refine ⟨trivial, ?_⟩
  refine (callsIn_wide.2 (levels_any ao n c _)).mono ?_
  rintro e w4 ⟨rfl, hw4⟩
  have hM4 : Mem w4 [(w.heap.size, [.slice none 0 0])] := by rw [hw4]; exact Mem.skip HM0.out _
  have hS4 : w4.heap.size = w.heap.size + 2 := by rw [hw4]; simp
  have hB4 : Below w.heap.size w w4 := by rw [hw4]; (repeat (first | exact Below.refl _ _ | refine Below.drew ?_ | refine bl_drewN ?_ _ | (refine Below.alloc ?_ (by first | exact Nat.le_refl _ | (simp; done) | (simp; omega)) _)))
  have hC4 : w4.cell? ⟨w.heap.size + 1, 0, none⟩ = some (.slice ao n c) := by
    rw [hw4]
    have := World.cell?_alloc_new (w.alloc (.cells #[.slice none 0 0] 66)) #[.slice ao n c] 60 0
    simp only [World.size_alloc, Nat.add_assoc, Nat.reduceAdd] at this
    exact this.trans rfl
  simp only [World.size_alloc, Nat.add_assoc, Nat.reduceAdd]
  clear hw4 HM0
  gi_wp2
  have HRo := Lib.hid (levels_rounds 2 w HT.out ao n c L HR.out HLb.out w4 hB4 (w.heap.size + 1) (by omega) hC4)
  refine wpIn_rounds rfl (enters_of Tryd.func103 (by kernel_rfl) rfl) HRo.out (Below.refl _ _) hB4.size rfl (LsJ w L) (by rw [hS4]; exact LsJ.book) (VL.book _) (fun _ _ h => ko_of_below h)
    ⟨none, 0, [], rfl, hM4, ownN_nil _ _ _ _, fun j v hj => (by simp at hj), hB4, Nat.le_of_eq hS4.symm⟩
    (fun v a' _ => a' = { tmps := #[.slice ao n c, undef, .slice none 0 0, .pointer (some ⟨w.heap.size, 0, none⟩), v, .slice ao n c, .func (.func 103) #[] #[.pointer (some ⟨w.heap.size + 1, 0, none⟩)], v, undef, undef, undef, undef, undef], defers := [] })
    (fun _ _ _ _ h _ => h) ?assign ?body ?done
  case assign =>
    intro l k v W0 W K hk hj hbk hv hK
    gi_wp2
    exact hK _ _ (Below.refl _ _) rfl
  case body =>
    rintro l k v W0 W a' hk ⟨lo, cp, vs, hvl, hmm, hown, hvs, hbl, hsz⟩ hbook ⟨ao2, q, c2, rfl, hrow⟩ hf rfl
    have hM := hmm.book hbook (by rw [hS4]; simp)
    have hO := hown.book hbook
    have hblW : Below w.heap.size w W := hbl.trans (hbook.below.mono (by omega))
    have hszW : w.heap.size + 2 ≤ W.heap.size := Nat.le_trans hsz hbook.size
    have hk13 : k ≤ 12 := by have := levN_le n; omega
    have hne : ∀ j, hsL (lev L j) ≠ [] := by
      intro j e
      have h1 := congrArg List.length e
      rw [hsL_len, lev_len, HN.out] at h1
      have h3 : n ≠ 0 := by intro e; rw [e] at hk; simp [levN] at hk
      have := wid_pos (n := n) (by omega) j
      simp at h1
      omega
    have hq1 := hne k
    have HNe := Lib.hid hne
    have hfar : ∀ ad, ao2 = some ad → ad.block < w.heap.size ∨ W0.heap.size ≤ ad.block := by
      intro ad ha
      rcases hf with ⟨rfl, e⟩ | ⟨ao3, n3, c3, e, h3⟩
      · simp only [Value.slice.injEq] at e
        exact .inl (HLt.out ad (by rw [← e.1]; exact ha) hq1)
      · simp only [Value.slice.injEq] at e
        exact .inr (h3 ad (by rw [← e.1]; exact ha))
    have hlv : ∀ ad, ao2 = some ad → ad.block < W.heap.size := fun ad ha => hrow.lt ad ha hq1
    have hown0 := hown
    have hvsW : ∀ j v, vs[j]? = some v → VL L j v W ∧ slOff v w.heap.size ∧ ∀ g, lo = some ⟨g, 0, none⟩ → slOff v g := fun j v hj => ⟨VL.book _ _ _ _ _ (hvs j v hj).1 hbook, (hvs j v hj).2⟩
    have hoff1 : slOff (.slice ao2 q c2) w.heap.size := by
      intro ao n c e ad ha
      simp only [Value.slice.injEq] at e
      have := hfar ad (by rw [e.1]; exact ha)
      omega
    have hoff2 : ∀ g, lo = some ⟨g, 0, none⟩ → slOff (.slice ao2 q c2) g := by
      intro g hg ao n c e ad ha
      simp only [Value.slice.injEq] at e
      have h1 := hfar ad (by rw [e.1]; exact ha)
      rw [hg] at hown0
      have h2 := hown0.lt
      omega
    have hbs : ∀ x : World, (Instr.buildSlice 66 1 #[(0, .slice ao2 q c2)]).run Tryd.prog x = .ok (.slice (some ⟨x.heap.size, 0, none⟩) 1 1) (x.alloc (.cells #[.slice ao2 q c2] 60)) := fun x => by kernel_rfl
    have hcl := hM.1.2.2.1
    have hfz := hM.1.2.1 0
    have HK13 := Lib.hid hk13
    have HM := Lib.hid hM
    have HO := Lib.hid hO
    have HW := Lib.hid hblW
    have HSz := Lib.hid hszW
    have HRw := Lib.hid hrow
    have HVs := Lib.hid hvsW
    have HF1 := Lib.hid hoff1
    have HF2 := Lib.hid hoff2
    have HLv := Lib.hid hlv
    have HVl := Lib.hid hvl
    have HRs := Lib.hid (show Row (W.alloc (.cells #[.slice ao2 q c2] 60)) (some ⟨W.heap.size, 0, none⟩) 1 1 1 [.slice ao2 q c2] from row_new W #[.slice ao2 q c2] 60 1 1 1 rfl (Nat.le_refl _) (by simp [Value.oneCell']))
    clear hk hmm hown hvs hbl hsz hbook hrow hf hM hO hblW hszW hfar hlv hown0 hvsW hoff1 hoff2 hq1 hne hk13 hvl hS4 hM4 hB4 hC4
    gi_wp2_with (gi_at_builtin; refine wpListR_appW eltSl rfl (.tmp 8) (.tmp 10) rfl (w.heap.size + 2) (by have := HSz.out; rw [World.size_alloc]; omega) lo k cp vs rfl (HO.out.alloc _) (some ⟨W.heap.size, 0, none⟩) 1 1 [.slice ao2 q c2] rfl HRs.out (by decide) (by have := HK13.out; omega) ?_; intro g2 cp2 w7 row hown7 hgrow7 hrow7 hg7; have hlt7 := own_row_lt (HO.out.alloc (.cells #[.slice ao2 q c2] 60)) hrow7; have HM7 := Lib.hid (Mem.grown hgrow7 (by intro p hp kk hkk; have h1 := (hlt7 kk hkk).1; simp only [List.mem_cons, List.not_mem_nil, or_false] at hp; subst hp; show w.heap.size ≠ kk; omega) (Mem.skip HM.out (.cells #[.slice ao2 q c2] 60))); have hc7 := HM7.out.1.2.2.1; have hf7 := HM7.out.1.2.1 0; have HG7 := Lib.hid hgrow7; have HR7 := Lib.hid hrow7; have HO7 := Lib.hid hown7; have HH7 := Lib.hid hg7; have HL7 := Lib.hid hlt7; clear hown7 hgrow7 hrow7 hg7 hlt7)
    have hK : KeepsOthers W w7 := (KeepsOthers.alloc W (.cells #[.slice ao2 q c2] 60)).trans (KeepsOthers.of_grownBy HG7.out (fun j o hj ho => own_isCells (HO.out.alloc (.cells #[.slice ao2 q c2] 60)) j o (HR7.out j hj) ho))
    have hBw : Below w.heap.size W w7 := bl_gr (((Below.refl _ W)).alloc (by have := HSz.out; omega) (.cells #[.slice ao2 q c2] 60)) HG7.out (by have := HSz.out; rw [World.size_alloc]; omega) (fun kk hkk => by have := (HL7.out kk hkk).1; omega)
    have hB7 : Below w.heap.size w w7 := HW.out.trans hBw
    have hvk : VL L k (.slice ao2 q c2) W := ⟨_, _, _, rfl, HRw.out⟩
    have hkeep : ∀ j v, VL L j v W → slOff v w.heap.size → (∀ g, lo = some ⟨g, 0, none⟩ → slOff v g) → VL L j v (w7.setCell ⟨w.heap.size, 0, none⟩ (.slice (some ⟨g2, 0, none⟩) (k + 1) cp2)) ∧ slOff v w.heap.size ∧ ∀ g, some (⟨g2, 0, none⟩ : Addr) = some ⟨g, 0, none⟩ → slOff v g := by
      intro j v h1 h2 h3
      have h4 : VL L j v (W.alloc (.cells #[.slice ao2 q c2] 60)) := h1.grown (World.grownBy_alloc W _ none) (fun k hk => by cases hk)
      refine ⟨(h4.grown HG7.out (fun kk hkk => h3 kk (HR7.out kk hkk))).setFar _ _ h2, h2, ?_⟩
      intro g hg
      cases hg
      rcases HH7.out with h | h
      · exact h3 _ h
      · exact h1.off (HNe.out j) (by rw [World.size_alloc] at h; omega)
    refine ⟨hK.trans (KeepsOthers.setCell _ _ _), ⟨some ⟨g2, 0, none⟩, cp2, vs ++ [.slice ao2 q c2], by simp [HVl.out], ?_, (ownN_of HO7.out).setFar _ _ (by simp), ?_, hB7.setCell (p := ⟨w.heap.size, 0, none⟩) (Nat.le_refl _) _, ?_⟩, (hkeep k _ hvk HF1.out HF2.out).1, hBw.setCell (p := ⟨w.heap.size, 0, none⟩) (Nat.le_refl _) _⟩
    · exact Mem.set (k := 0) (v := .slice (some ⟨g2, 0, none⟩) (k + 1) cp2) (by simp) HM7.out
    · intro j v hj
      rcases Nat.lt_or_ge j vs.length with h | h
      · rw [List.getElem?_append_left h] at hj
        have h1 := HVs.out j v hj
        exact hkeep j v h1.1 h1.2.1 h1.2.2
      · rw [List.getElem?_append_right h] at hj
        have hjk : j = k := by
          have := (List.getElem?_eq_some_iff.1 hj).1
          simp at this
          have := HVl.out
          omega
        subst hjk
        rw [HVl.out, Nat.sub_self] at hj
        cases hj
        exact hkeep j _ hvk HF1.out HF2.out
    · rw [sz_setCell]; have := hBw.size; have := HSz.out; omega
  case done =>
    rintro W0 W2 W ⟨lo, cp, vs, hvl, hmm, hown, hvs, hbl, hsz⟩ hE hbook hD
    have hm2 := (hmm.later hE).book hbook (by rw [hS4]; simp)
    have ho2 := (hown.later hE).book hbook
    have hbW : Below w.heap.size w W := (hbl.trans (hE.mono (by omega))).trans (hbook.below.mono (by omega))
    have hvW : ∀ j v, vs[j]? = some v → VL L j v W := by
      intro j v hj
      obtain ⟨ao, n, c, e, hr⟩ := (hvs j v hj).1
      exact ⟨ao, n, c, e, (hr.later hE).book hbook⟩
    have h1c : ∀ u ∈ vs, u.oneCell' = true := by
      intro u hu
      obtain ⟨j, hj⟩ := List.mem_iff_getElem?.1 hu
      obtain ⟨ao, n, c, e, hr⟩ := (hvs j u hj).1
      rw [e]; rfl
    have HSw := Lib.hid (show w.heap.size ≤ w4.heap.size by omega)
    have HO := Lib.hid (ho2.row h1c)
    have HBW := Lib.hid hbW
    have HDf := Lib.hid hD
    have HVW := Lib.hid hvW
    have hc := hm2.1.2.2.1
    clear hvl hmm hown hvs hbl hsz hE hbook hD hm2 ho2 hbW hvW h1c hS4 hM4 hB4 hC4
    gi_wp2
    have hbk : Book w4.heap.size W (W.putObj w4.heap.size (.deferred none)) := Book.putObj _ (Nat.le_refl _) HDf.out rfl
    refine leaves_mark (v := .slice lo (levN n) cp) HDf.out (by first | exact results_tmp rfl _ _ _ | simp [results, Tryd.results49, Result.andThen]) ⟨lo, cp, vs, rfl, HO.out.book hbk, fun j v hj => VL.book _ _ _ _ _ (HVW.out j v hj) hbk, bl_putObj HBW.out HSw.out _⟩
end Go.Proofs.YtddcceifblpmbaaDoor

/- florinref03.Same of two rows of the same hashes (made by gen_mks.py). (hM) -/
namespace Go.Proofs.YtddcceifblpmbaaDoor
set_option linter.unusedVariables false
set_option linter.unusedSimpArgs false
open Go.RowKit

theorem neq_h10 (f g : Nat → Int) (b : Bool) (hb : (!(hl f == hl g)) = b) (w : World) : (binOp .neq 23 (arr32 f) (arr32 g)).run Tryd.prog w = .ok (.bool b) w := by
  have := neqArr Tryd.prog 32 23 5 .u8 Tryd.underlying23 Tryd.underlying5 (by kernel_rfl) (hl f) (hl g) (hl_len f) (hl_len g) w
  rw [hb] at this
  unfold arr32
  rw [hl_cells, hl_cells]
  exact this
set_option maxRecDepth 100000 in
theorem same3_yes (ao bo : Option Addr) (n c d : Nat) (L : List HF) (w : World) (h1 : Row w ao n c 32 (hsL L)) (h2 : Row w bo n d 32 (hsL L)) (hn : n ≤ 100000) :
    Calls Tryd.prog 51 #[.slice ao n c, .slice bo n d] w fun e w' => e = .returned (.bool true) ∧ Below w.heap.size w w' := by
  have HL := Lib.hid (hs_len h1)
  have HN := Lib.hid hn
  have HR1 := Lib.hid h1
  have HR2 := Lib.hid h2
  clear h1 h2 hn
  go_enter Tryd.func51, Tryd.ntmps51
  go_wp2
  go_loopw [5] (fun k wr => ∃ i : Nat, i ≤ n ∧ k = .int .i64 (i : Int) ∧ Below w.heap.size w wr) (fun k _ => n + 1 - (intOf k).toNat)
  case atStart => exact ⟨0, Nat.zero_le _, rfl, Below.refl _ _⟩
  case round =>
    obtain ⟨i, hi, rfl, hbr⟩ := hrel
    by_cases hlt : i < n
    · obtain ⟨f, hf⟩ : ∃ f, L[i]? = some f := ⟨_, List.getElem?_eq_getElem (by have := HL.out; omega)⟩
      obtain ⟨b1, o1, rfl⟩ := row_addr HR1.out (by intro e; have := congrArg List.length e; rw [hsL_len, HL.out] at this; simp at this; omega)
      obtain ⟨b2, o2, rfl⟩ := row_addr HR2.out (by intro e; have := congrArg List.length e; rw [hsL_len, HL.out] at this; simp at this; omega)
      have HLi := Lib.hid hf
      have hne := neq_h10 f f false (by simp)
      have k1 : (i : Int) < (n : Int) := by omega
      have k2 : 0 ≤ (i : Int) := by omega
      have k3 : IntKind.i64.wrap ((i : Int) + 1) = ((i + 1 : Nat) : Int) := by rw [IntKind.wrap_i64]; have := HN.out; omega
      clear hf
      go_wp2
      refine wp_plan (fun x => Row x (some ⟨b1, o1, none⟩) n c 32 (hsL L) ∧ Row x (some ⟨b2, o2, none⟩) n d 32 (hsL L)) [] [0, 1, 2, 3, 4, 5, 6, 7, 8] (by kernel_rfl) (by kernel_rfl) (⟨(HR1.out.later hbr).drew, (HR2.out.later hbr).drew⟩) (fun hHeld => ?_)
      iterate 3 (refine wpT_take rfl (by rfl) (by rfl) (by intro w' hSw; (try dsimp only [Mem, cellsAt] at hSw); go_simp; (try with_reducible rfl)) (by assumption) ?_; (try simp only [Act.put, List.setIfInBounds_toArray, List.set_cons_zero, List.set_cons_succ]))
      (refine wpT_yield rfl (by rfl) (Go.yieldsIf_load_mid (by rfl) 23 (.tmp 19) rfl b1 ((o1 + i * 32)) rfl (b8l f 32) _ (fun w' h' => hs_range h'.1 HLi.out) Tryd.underlying23 rfl (by rw [b8l_len]; kernel_rfl)) (by assumption) ?_; (try simp only [Act.put, List.setIfInBounds_toArray, List.set_cons_zero, List.set_cons_succ]))
      iterate 3 (refine wpT_take rfl (by rfl) (by rfl) (by intro w' hSw; (try dsimp only [Mem, cellsAt] at hSw); go_simp; (try with_reducible rfl)) (by assumption) ?_; (try simp only [Act.put, List.setIfInBounds_toArray, List.set_cons_zero, List.set_cons_succ]))
      (refine wpT_yield rfl (by rfl) (Go.yieldsIf_load_mid (by rfl) 23 (.tmp 23) rfl b2 ((o2 + i * 32)) rfl (b8l f 32) _ (fun w' h' => hs_range h'.2 HLi.out) Tryd.underlying23 rfl (by rw [b8l_len]; kernel_rfl)) (by assumption) ?_; (try simp only [Act.put, List.setIfInBounds_toArray, List.set_cons_zero, List.set_cons_succ]))
      iterate 1 (refine wpT_take rfl (by rfl) (by rfl) (by intro w' hSw; (try dsimp only [Mem, cellsAt] at hSw); go_simp; (try with_reducible rfl)) (by assumption) ?_; (try simp only [Act.put, List.setIfInBounds_toArray, List.set_cons_zero, List.set_cons_succ]))
      (refine wpT_nil ?_)
      go_wp2
      refine ⟨⟨i + 1, by omega, by first | rfl | go_num | (congr 1), hbr.drew⟩, by simp [intOf]; omega⟩
    · have k1 : ¬ (i : Int) < (n : Int) := by omega
      go_wp2
      go_ret
      exact ⟨rfl, hbr⟩
end Go.Proofs.YtddcceifblpmbaaDoor

/- merkle.Climb (made by gen_mkc.py). (hM) -/
namespace Go.Proofs.YtddcceifblpmbaaDoor
set_option linter.unusedVariables false
set_option linter.unusedSimpArgs false
open Go.RowKit

/-- a box of one's own written over whole: the walk goes on in an abstract world -/
theorem wpList_over {P : Program} {w : World} {ops : Array Oper} {rest : List Oper} {op : Oper} {a : Act} {Q : Exit → Act → World → Prop} (hgd : op.guard = none) (x y : Operand) (T : TypeId) (ho : op.op = .store T x y) (b : Nat)
    (us vs : List Value) (hx : a.eval x = .pointer (some ⟨b, 0, none⟩)) (hy : a.eval y = .agg us.toArray) (d : TypeDesc) (hu : P.underlying T = some d) (hd : d.isRow = true) (hi : (P.info? T).map (·.size) = some us.length)
    {L : List (Nat × List Value)} (hm : Mem w ((b, vs) :: L)) (hne : ∀ p ∈ L, p.1 ≠ b) (hl : us.length = vs.length) (h1 : ∀ u ∈ us, u.oneCell' = true) {w0 : World} (hB : Below w0.heap.size w0 w) (hb : w0.heap.size ≤ b)
    (h : ∀ W, Mem W ((b, us) :: L) → Below w0.heap.size w0 W → wpList P ops Q rest (a.put op.dst undef) W) : wpList P ops Q (op :: rest) a w := by
  refine Go.wpList_store_mid hgd T x y ho b 0 us.toArray hx hy ?_ (by rw [hi]; simp) (Go.all_oneCell_toArray h1) ?_
  · have := thereW (n := us.length) hm.1 (by omega)
    simpa using this
  · exact h _ (Mem.over hne hm hl) (bl_setCellsW hb _ _ _ hB)
theorem climb_b {x : HF} (hx : HB x) : ∀ (r : List HF) (i : Nat), (∀ f ∈ r, HB f) → HB (climbF x r i)
  | [], _, _ => hx
  | o :: r, i, h => by
    rw [climbF]
    refine climb_b ?_ r _ (fun f hf => h f (by simp [hf]))
    split <;> exact pairF_b _ _
def ClRel (w : World) (x : HF) (Br : List HF) (m i0 : Nat) (i kk : Value) (wr : World) : Prop :=
  ∃ k : Nat, k ≤ m ∧ kk = .int .i64 (k : Int) ∧ i = .int .i64 ((i0 / 2 ^ k : Nat) : Int) ∧ Mem wr [(w.heap.size + 1, b8l zH 32), (w.heap.size, b8l (climbF x (Br.take k) i0) 32)] ∧ Below w.heap.size w wr

set_option maxRecDepth 100000 in
set_option maxHeartbeats 8000000 in
theorem climb_any (x : HF) (hx : HB x) (ao : Option Addr) (m c : Nat) (Br : List HF) (i : Int) (hi : -9223372036854775808 ≤ i ∧ i ≤ 9223372036854775807) (w : World) (hT : Tab w) (h : Row w ao m c 32 (hsL Br)) (hL : ∀ f ∈ Br, HB f) (hm : m ≤ 100000) :
    Calls Tryd.prog 52 #[arr32 x, .slice ao m c, .int .i64 i] w fun e w' => e = .returned (arr32 (climbF x Br i.toNat)) ∧ Below w.heap.size w w' := by
  have hl := hs_len h
  obtain ⟨i0, hi0⟩ : ∃ n, i.toNat = n := ⟨_, rfl⟩
  have hmx : max i 0 = (i0 : Int) := by omega
  have hmx2 : (if i < 0 then 0 else i) = (i0 : Int) := by split <;> omega
  have hi63 : i0 ≤ 9223372036854775807 := by omega
  have HI := Lib.hid hi63
  have HR := Lib.hid h
  have HLb := Lib.hid hL
  have HN := Lib.hid hm
  have HLn := Lib.hid hl
  have HT := Lib.hid hT
  rw [hi0]
  have hM0 := Mem.al (Mem.al (mem_nil w) (b8l x 32) 23) (b8l zH 32) 23
  simp only [World.size_alloc] at hM0
  have HM0 := Lib.hid hM0
  have HB0 := Lib.hid (bl_al (bl_al (Below.refl w.heap.size w) (.cells (b8l x 32).toArray 23)) (.cells (b8l zH 32).toArray 23))
  clear h hL hm hl hT hM0 hi63
  go_enter Tryd.func52, Tryd.ntmps52
  go_wp2
  go_loopw [2, 13] (fun i k wr => ClRel w x Br m i0 i k wr) (fun _ k _ => m + 1 - (intOf k).toNat)
  case atStart => exact ⟨0, Nat.zero_le _, rfl, by simp [hmx], HM0.out, HB0.out⟩
  case round =>
    obtain ⟨k, hk, rfl, rfl, hmm, hB⟩ := hrel
    obtain ⟨j, hj⟩ : ∃ j, i0 / 2 ^ k = j := ⟨_, rfl⟩
    obtain ⟨y, hy⟩ : ∃ y, climbF x (Br.take k) i0 = y := ⟨_, rfl⟩
    rw [hj]
    rw [hy] at hmm
    have hM := Lib.hid hmm
    have hF : True := trivial
    by_cases hlt : k < m
    · obtain ⟨o, ho⟩ : ∃ f, Br[k]? = some f := ⟨_, List.getElem?_eq_getElem (by have := HLn.out; omega)⟩
      obtain ⟨bb, off, rfl⟩ := row_addr HR.out (by intro e; have := congrArg List.length e; rw [hsL_len, HLn.out] at this; simp at this; omega)
      have hob := HLb.out o (List.mem_of_getElem? ho)
      have hyb : HB y := by rw [← hy]; exact climb_b hx _ _ (fun f hf => HLb.out f (List.mem_of_mem_take hf))
      obtain ⟨j2, hj2⟩ : ∃ j2, j / 2 = j2 := ⟨_, rfl⟩
      have hjj : j ≤ 9223372036854775807 := by rw [← hj]; exact Nat.le_trans (Nat.div_le_self _ _) HI.out
      obtain ⟨z, hz⟩ : ∃ z, (if j % 2 = 1 then pairF o y else pairF y o) = z := ⟨_, rfl⟩
      have hst : climbF x (Br.take (k + 1)) i0 = z := by
        have e : Br.take (k + 1) = Br.take k ++ [o] := by rw [List.take_add_one, ho]; rfl
        rw [e, climb_snoc, hy, List.length_take, Nat.min_eq_left (by have := HLn.out; omega), hj, hz]
      have HSt := Lib.hid hst
      have HJ2 := Lib.hid (show i0 / 2 ^ (k + 1) = j2 by rw [Nat.pow_succ, ← Nat.div_div_eq_div_mul, hj, hj2])
      have HRw := Lib.hid (fun (q : World) (hb : Below w.heap.size w q) => HR.out.later hb)
      have HLo := Lib.hid ho
      obtain ⟨g8, hg8⟩ : ∃ b, wr.heap.size = b := ⟨_, rfl⟩
      have HG8 := Lib.hid hg8
      have HGs := Lib.hid (show w.heap.size + 1 < g8 from by have := hmm.1.1; omega)
      have HNe := Lib.hid (show ∀ p ∈ [(g8, b8l o 32), (w.heap.size + 1, b8l zH 32)], p.1 ≠ w.heap.size from by
        have h2 := HGs.out
        intro p hp
        simp only [List.mem_cons, List.not_mem_nil, or_false] at hp
        rcases hp with rfl | rfl
        · show g8 ≠ _; omega
        · show w.heap.size + 1 ≠ _; omega)
      clear hg8
      have hlti : (k : Int) < (m : Int) := by omega
      have hk0 : 0 ≤ (k : Int) := by omega
      have hd1 : (j : Int).tdiv 2 = (j2 : Int) := by rw [Int.tdiv_eq_ediv_of_nonneg (by omega)]; omega
      have hd2 : (j : Int) / 2 = (j2 : Int) := by omega
      have hd3 : IntKind.i64.wrap (j2 : Int) = (j2 : Int) := by rw [IntKind.wrap_i64]; omega
      have hw1 : IntKind.i64.wrap ((k : Int) + 1) = ((k + 1 : Nat) : Int) := by rw [IntKind.wrap_i64]; have := HN.out; omega
      by_cases ho1 : j % 2 = 1
      · rw [if_pos ho1] at hz
        have hr1 : (j : Int).tmod 2 = 1 := by rw [Int.tmod_eq_emod_of_nonneg (by omega)]; omega
        have HP1 := Lib.hid (fun (q : World) (hb : Below w.heap.size w q) => (hz ▸ pair_any o y hob hyb q (HT.out.later hb) : Calls Tryd.prog 22 #[arr32 o, arr32 y] q fun e w' => e = .returned (arr32 z) ∧ Below q.heap.size q w'))
        clear ho1 hz hst hj2 hjj hob hyb hj hy hmm ho
        go_wp2_with (first |
    ((with_reducible_and_instances refine at_load 15 ?_); refine Go.wpList_load_mid rfl 23 (.tmp 15) rfl bb (off + k * 32) rfl (b8l o 32) _ (hs_range (HRw.out _ hB) HLo.out) Tryd.underlying23 rfl (by rw [b8l_len]; kernel_rfl) ?_) |
    ((with_reducible_and_instances refine at_store 8 ?_); refine wpList_store_newV rfl (.tmp 8) (.tmp 16) 23 rfl _ (b8l o 32) _ Tryd.underlying23 rfl (by rw [b8l_len]; kernel_rfl) (by rw [b8l_len]; rfl) (b8l_one o 32) rfl (rfl) hM.out ?_; intro W1 hMW hbW; have hBW := bl_then hB hbW; rw [HG8.out] at hMW; simp only [HG8.out]; clear hM hF hB; have hM := Lib.hid hMW; have hB := hBW; have hF : True := trivial; clear hMW hbW hBW) |
    ((with_reducible_and_instances refine at_load 8 ?_); refine Go.wpList_load_mid rfl 23 (.tmp 8) rfl g8 0 rfl (b8l o 32) _ (rangeAt_of (Mem.get hM.out (by simp))) Tryd.underlying23 rfl (by rw [b8l_len]; kernel_rfl) ?_) |
    ((with_reducible_and_instances refine at_load 3 ?_); refine Go.wpList_load_mid rfl 23 (.tmp 3) rfl w.heap.size 0 rfl (b8l y 32) _ (rangeAt_of (Mem.get hM.out (by simp))) Tryd.underlying23 rfl (by rw [b8l_len]; kernel_rfl) ?_) |
    (go_at_call 22; (with_reducible refine (HP1.out _ hB).mono ?_); rintro e w2 ⟨rfl, hb⟩; have hB : Below w.heap.size w w2 := (by refine bl_then ?_ hb; (repeat (first | exact hB | refine bl_al ?_ _ | refine Below.setCell ?_ (by first | exact hgs | exact Nat.le_succ_of_le hgs | exact hgs2 | exact hgs3) _ | refine Below.drew ?_ | refine bl_drewN ?_ _))); (first | with_reducible have hM2 := Mem.later hb (hM.out) | with_reducible have hM2 := Mem.later hb (Mem.al (hM.out) _ _) | with_reducible have hM2 := Mem.later hb (Mem.al (Mem.al (hM.out) _ _) _ _) | with_reducible have hM2 := Mem.later hb (Mem.al (Mem.al (Mem.al (hM.out) _ _) _ _) _ _) | with_reducible have hM2 := Mem.later hb (Mem.al (Mem.al (Mem.al (Mem.al (hM.out) _ _) _ _) _ _) _ _) | with_reducible have hM2 := Mem.later hb (Mem.drew (hM.out)) | with_reducible have hM2 := Mem.later hb (Mem.drew (Mem.al (hM.out) _ _)) | with_reducible have hM2 := Mem.later hb (Mem.al (Mem.drew (hM.out)) _ _) | with_reducible have hM2 := Mem.later hb (Mem.al (Mem.drew (Mem.al (hM.out) _ _)) _ _) | with_reducible have hM2 := Mem.later hb (Mem.drew (Mem.al (Mem.al (hM.out) _ _) _ _)) | with_reducible have hM2 := Mem.later hb (Mem.al (Mem.al (Mem.drew (hM.out)) _ _) _ _) | with_reducible have hM2 := Mem.later hb (Mem.drew (Mem.drew (hM.out))) | with_reducible have hM2 := Mem.later hb (Mem.drew (Mem.al (Mem.drew (hM.out)) _ _)) | with_reducible have hM2 := Mem.later hb (Mem.drew (Mem.al (Mem.al (Mem.al (hM.out) _ _) _ _) _ _)) | with_reducible have hM2 := Mem.later hb (Mem.al (Mem.al (Mem.drew (Mem.al (hM.out) _ _)) _ _) _ _) | with_reducible have hM2 := Mem.later hb (Mem.drew (Mem.al (Mem.drew (Mem.al (hM.out) _ _)) _ _)) | with_reducible have hM2 := Mem.later hb (Mem.al (Mem.al (Mem.al (Mem.al (Mem.al (hM.out) _ _) _ _) _ _) _ _) _ _) | with_reducible have hM2 := Mem.later hb (Mem.al (Mem.al (Mem.al (Mem.al (Mem.al (Mem.al (hM.out) _ _) _ _) _ _) _ _) _ _) _ _) | with_reducible have hM2 := Mem.later hb (Mem.al (Mem.al (Mem.al (Mem.al (Mem.al (Mem.al (Mem.al (hM.out) _ _) _ _) _ _) _ _) _ _) _ _) _ _) | with_reducible have hM2 := Mem.later hb (Mem.al (Mem.al (Mem.al (Mem.al (Mem.al (Mem.al (Mem.al (Mem.al (hM.out) _ _) _ _) _ _) _ _) _ _) _ _) _ _) _ _)); (try simp only [World.size_alloc, size_drew] at hM2); clear hM; have hM := Lib.hid hM2; clear hF; have hF := hM2; (try simp only [Mem, cellsAt, World.size_alloc, Nat.zero_add, Nat.reduceAdd, and_true] at hF); clear hM2; clear hb) |
    ((with_reducible_and_instances refine at_store 3 ?_); refine wpList_over rfl (.tmp 3) (.tmp 22) 23 rfl w.heap.size (b8l z 32) _ rfl rfl _ Tryd.underlying23 rfl (by rw [b8l_len]; kernel_rfl) (L := [(g8, b8l o 32), (w.heap.size + 1, b8l zH 32)]) ⟨hM.out.2.2.1, hM.out.1, hM.out.2.1, trivial⟩ HNe.out (by rw [b8l_len, b8l_len]) (b8l_one z 32) hB (Nat.le_refl _) ?_; intro W3 hm3 hb3; clear hM hB hF; have hM := Lib.hid hm3; have hB := hb3; have hF : True := trivial; clear hm3 hb3))
        refine ⟨⟨k + 1, by omega, by first | rfl | go_num | (congr 1), by rw [HJ2.out], by rw [HSt.out]; exact ⟨hM.out.2.2.1, hM.out.1, trivial⟩, hB⟩, by simp [intOf]; omega⟩
      · rw [if_neg ho1] at hz
        have hr1 : (j : Int).tmod 2 = 0 := by rw [Int.tmod_eq_emod_of_nonneg (by omega)]; omega
        have HP2 := Lib.hid (fun (q : World) (hb : Below w.heap.size w q) => (hz ▸ pair_any y o hyb hob q (HT.out.later hb) : Calls Tryd.prog 22 #[arr32 y, arr32 o] q fun e w' => e = .returned (arr32 z) ∧ Below q.heap.size q w'))
        clear ho1 hz hst hj2 hjj hob hyb hj hy hmm ho
        go_wp2_with (first |
    ((with_reducible_and_instances refine at_load 15 ?_); refine Go.wpList_load_mid rfl 23 (.tmp 15) rfl bb (off + k * 32) rfl (b8l o 32) _ (hs_range (HRw.out _ hB) HLo.out) Tryd.underlying23 rfl (by rw [b8l_len]; kernel_rfl) ?_) |
    ((with_reducible_and_instances refine at_store 8 ?_); refine wpList_store_newV rfl (.tmp 8) (.tmp 16) 23 rfl _ (b8l o 32) _ Tryd.underlying23 rfl (by rw [b8l_len]; kernel_rfl) (by rw [b8l_len]; rfl) (b8l_one o 32) rfl (rfl) hM.out ?_; intro W1 hMW hbW; have hBW := bl_then hB hbW; rw [HG8.out] at hMW; simp only [HG8.out]; clear hM hF hB; have hM := Lib.hid hMW; have hB := hBW; have hF : True := trivial; clear hMW hbW hBW) |
    ((with_reducible_and_instances refine at_load 8 ?_); refine Go.wpList_load_mid rfl 23 (.tmp 8) rfl g8 0 rfl (b8l o 32) _ (rangeAt_of (Mem.get hM.out (by simp))) Tryd.underlying23 rfl (by rw [b8l_len]; kernel_rfl) ?_) |
    ((with_reducible_and_instances refine at_load 3 ?_); refine Go.wpList_load_mid rfl 23 (.tmp 3) rfl w.heap.size 0 rfl (b8l y 32) _ (rangeAt_of (Mem.get hM.out (by simp))) Tryd.underlying23 rfl (by rw [b8l_len]; kernel_rfl) ?_) |
    (go_at_call 22; (with_reducible refine (HP2.out _ hB).mono ?_); rintro e w2 ⟨rfl, hb⟩; have hB : Below w.heap.size w w2 := (by refine bl_then ?_ hb; (repeat (first | exact hB | refine bl_al ?_ _ | refine Below.setCell ?_ (by first | exact hgs | exact Nat.le_succ_of_le hgs | exact hgs2 | exact hgs3) _ | refine Below.drew ?_ | refine bl_drewN ?_ _))); (first | with_reducible have hM2 := Mem.later hb (hM.out) | with_reducible have hM2 := Mem.later hb (Mem.al (hM.out) _ _) | with_reducible have hM2 := Mem.later hb (Mem.al (Mem.al (hM.out) _ _) _ _) | with_reducible have hM2 := Mem.later hb (Mem.al (Mem.al (Mem.al (hM.out) _ _) _ _) _ _) | with_reducible have hM2 := Mem.later hb (Mem.al (Mem.al (Mem.al (Mem.al (hM.out) _ _) _ _) _ _) _ _) | with_reducible have hM2 := Mem.later hb (Mem.drew (hM.out)) | with_reducible have hM2 := Mem.later hb (Mem.drew (Mem.al (hM.out) _ _)) | with_reducible have hM2 := Mem.later hb (Mem.al (Mem.drew (hM.out)) _ _) | with_reducible have hM2 := Mem.later hb (Mem.al (Mem.drew (Mem.al (hM.out) _ _)) _ _) | with_reducible have hM2 := Mem.later hb (Mem.drew (Mem.al (Mem.al (hM.out) _ _) _ _)) | with_reducible have hM2 := Mem.later hb (Mem.al (Mem.al (Mem.drew (hM.out)) _ _) _ _) | with_reducible have hM2 := Mem.later hb (Mem.drew (Mem.drew (hM.out))) | with_reducible have hM2 := Mem.later hb (Mem.drew (Mem.al (Mem.drew (hM.out)) _ _)) | with_reducible have hM2 := Mem.later hb (Mem.drew (Mem.al (Mem.al (Mem.al (hM.out) _ _) _ _) _ _)) | with_reducible have hM2 := Mem.later hb (Mem.al (Mem.al (Mem.drew (Mem.al (hM.out) _ _)) _ _) _ _) | with_reducible have hM2 := Mem.later hb (Mem.drew (Mem.al (Mem.drew (Mem.al (hM.out) _ _)) _ _)) | with_reducible have hM2 := Mem.later hb (Mem.al (Mem.al (Mem.al (Mem.al (Mem.al (hM.out) _ _) _ _) _ _) _ _) _ _) | with_reducible have hM2 := Mem.later hb (Mem.al (Mem.al (Mem.al (Mem.al (Mem.al (Mem.al (hM.out) _ _) _ _) _ _) _ _) _ _) _ _) | with_reducible have hM2 := Mem.later hb (Mem.al (Mem.al (Mem.al (Mem.al (Mem.al (Mem.al (Mem.al (hM.out) _ _) _ _) _ _) _ _) _ _) _ _) _ _) | with_reducible have hM2 := Mem.later hb (Mem.al (Mem.al (Mem.al (Mem.al (Mem.al (Mem.al (Mem.al (Mem.al (hM.out) _ _) _ _) _ _) _ _) _ _) _ _) _ _) _ _)); (try simp only [World.size_alloc, size_drew] at hM2); clear hM; have hM := Lib.hid hM2; clear hF; have hF := hM2; (try simp only [Mem, cellsAt, World.size_alloc, Nat.zero_add, Nat.reduceAdd, and_true] at hF); clear hM2; clear hb) |
    ((with_reducible_and_instances refine at_store 3 ?_); refine wpList_over rfl (.tmp 3) (.tmp 25) 23 rfl w.heap.size (b8l z 32) _ rfl rfl _ Tryd.underlying23 rfl (by rw [b8l_len]; kernel_rfl) (L := [(g8, b8l o 32), (w.heap.size + 1, b8l zH 32)]) ⟨hM.out.2.2.1, hM.out.1, hM.out.2.1, trivial⟩ HNe.out (by rw [b8l_len, b8l_len]) (b8l_one z 32) hB (Nat.le_refl _) ?_; intro W3 hm3 hb3; clear hM hB hF; have hM := Lib.hid hm3; have hB := hb3; have hF : True := trivial; clear hm3 hb3))
        refine ⟨⟨k + 1, by omega, by first | rfl | go_num | (congr 1), by rw [HJ2.out], by rw [HSt.out]; exact ⟨hM.out.2.2.1, hM.out.1, trivial⟩, hB⟩, by simp [intOf]; omega⟩
    · have hkm : k = m := by omega
      have e : Br.take k = Br := List.take_of_length_le (by have := HLn.out; omega)
      rw [e] at hy
      have hlti : ¬ (k : Int) < (m : Int) := by omega
      have HY := Lib.hid hy
      clear hkm e hj hy hmm
      go_wp2_with (first |
    ((with_reducible_and_instances refine at_load 3 ?_); refine Go.wpList_load_mid rfl 23 (.tmp 3) rfl w.heap.size 0 rfl (b8l y 32) _ (rangeAt_of (Mem.get hM.out (by simp))) Tryd.underlying23 rfl (by rw [b8l_len]; kernel_rfl) ?_) |
    ((with_reducible_and_instances refine at_store 6 ?_); refine wpList_over rfl (.tmp 6) (.tmp 29) 23 rfl (w.heap.size + 1) (b8l y 32) _ rfl rfl _ Tryd.underlying23 rfl (by rw [b8l_len]; kernel_rfl) (L := [(w.heap.size, b8l y 32)]) ⟨hM.out.1, hM.out.2.1, trivial⟩ (by simp) (by rw [b8l_len, b8l_len]) (b8l_one y 32) hB (Nat.le_succ _) ?_; intro W3 hm3 hb3; clear hM hB hF; have hM := Lib.hid hm3; have hB := hb3; have hF : True := trivial; clear hm3 hb3))
      have hl2 := Go.run_loadVar_mid (P := Tryd.prog) W3 (w.heap.size + 1) 0 23 (b8l y 32) _ (rangeAt_of hM.out.1.2.2) Tryd.underlying23 rfl (by rw [b8l_len]; kernel_rfl)
      refine bodyPost_ret (v := arr32 y) (by simp [results, Tryd.results52, asAddr, hl2, Act.put]; try rfl) rfl ⟨by rw [HY.out], hB⟩
end Go.Proofs.YtddcceifblpmbaaDoor

/- florinref03.Pair, florinref10.up, Levels (made by gen_mkr1.py). (hM) -/
namespace Go.Proofs.YtddcceifblpmbaaDoor
set_option linter.unusedVariables false
set_option linter.unusedSimpArgs false
open Go.RowKit

set_option maxRecDepth 100000 in
set_option maxHeartbeats 2000000 in
theorem rpair_any (f g : HF) (hf : HB f) (hg : HB g) (w : World) : Calls Tryd.prog 23 #[arr32 f, arr32 g] w fun e w' => e = .returned (arr32 (pairF f g)) ∧ Below w.heap.size w w' := by
  have hcb : ∀ i, 0 ≤ catF f 32 g i ∧ catF f 32 g i < 256 := fun i => by unfold catF; split; exact hf i; exact hg _
  have HD := Lib.hid (fun (x : World) (ao : Option Addr) (c : Nat) (hr : Row x ao 64 c 1 (bcells (catF f 32 g) 64)) => rdouble_any ao 64 c (catF f 32 g) x hr hcb (by omega))
  obtain ⟨F, hF0⟩ : ∃ F, pairF f g = F := ⟨_, rfl⟩
  have hF1 : shaF (shaF (catF f 32 g) 64) 32 = F := hF0
  rw [hF1] at HD
  rw [hF0]
  have hM0 := Mem.al (Mem.al (Mem.al (mem_nil w) (b8l f 32) 23) (b8l g 32) 23) (b8l zH 32) 23
  simp only [World.size_alloc, Nat.add_assoc, Nat.reduceAdd] at hM0
  have hB0 := bl_al (bl_al (bl_al (Below.refl w.heap.size w) (.cells (b8l f 32).toArray 23)) (.cells (b8l g 32).toArray 23)) (.cells (b8l zH 32).toArray 23)
  obtain ⟨w2, hw2⟩ : ∃ x, ((w.alloc (.cells (b8l f 32).toArray 23)).alloc (.cells (b8l g 32).toArray 23)).alloc (.cells (b8l zH 32).toArray 23) = x := ⟨_, rfl⟩
  rw [hw2] at hM0 hB0
  have HW2 := Lib.hid hw2
  have hM := Lib.hid hM0
  have hB := hB0
  have hF : True := trivial
  clear hF0 hF1 hcb hM0 hB0 hw2
  go_enter Tryd.func23, Tryd.ntmps23
  go_wp2_with (first | ((with_reducible_and_instances refine at_bslice ?_); refine (?_ : Hid _).out))
  refine Lib.hid ?_
  change wpList _ _ _ _ _ (((w.alloc (.cells (b8l f 32).toArray 23)).alloc (.cells (b8l g 32).toArray 23)).alloc (.cells (b8l zH 32).toArray 23))
  rw [HW2.out]
  clear HW2
  simp only [Nat.add_assoc, Nat.reduceAdd]
  go_wp2_with (first |
    ((with_reducible_and_instances refine at_app 6 ?_); refine wpList_appN eltU8 w2 _ (below_alloc w2 _) rfl (.tmp 6) (.tmp 7) rfl (some ⟨w2.heap.size, 0, none⟩) 0 0 [] rfl (ownN_lit0 _ _ _ _ (Nat.le_refl _)) (some ⟨w.heap.size, 0, none⟩) 32 32 (bcells f 32) rfl ((row_ofW (f := f) (n := 32) hM.out.2.2.1.2.2).later (below_alloc w2 _)) (fun h => by cases h) (by omega) ?_; intro g1 cp1 w3 hown1 hb2; have HO1 := Lib.hid (ownN_of hown1); have HB2 := Lib.hid hb2; clear hown1 hb2) |
    ((with_reducible_and_instances refine at_app 9 ?_); refine wpList_appN eltU8 w2 w3 HB2.out rfl (.tmp 9) (.tmp 10) rfl (some ⟨g1, 0, none⟩) 32 cp1 (bcells f 32) rfl HO1.out (some ⟨w.heap.size + 1, 0, none⟩) 32 32 (bcells g 32) rfl ((row_ofW (f := g) (n := 32) hM.out.2.1.2.2).later HB2.out) (fun h => by cases h) (by omega) ?_; intro g2 cp2 w4 hown2 hb3; rw [catF_cells] at hown2; have HR2 := Lib.hid (row_own hown2 (bcells_one _ _)); have hM3 := Mem.later hb3 hM.out; have hB3 := bl_then hB hb3; clear hM hB hF hown2 hb3; have hM := Lib.hid hM3; have hB := hB3; have hF : True := trivial; clear hM3 hB3) |
    (go_at_call 70; (with_reducible refine (HD.out _ _ _ HR2.out).mono ?_); rintro e w5 ⟨rfl, hb⟩; have hB : Below w.heap.size w w5 := (by refine bl_then ?_ hb; (repeat (first | exact hB | refine bl_al ?_ _ | refine Below.setCell ?_ (by first | exact hgs | exact Nat.le_succ_of_le hgs | exact hgs2 | exact hgs3) _ | refine Below.drew ?_ | refine bl_drewN ?_ _))); (first | with_reducible have hM2 := Mem.later hb (hM.out) | with_reducible have hM2 := Mem.later hb (Mem.al (hM.out) _ _) | with_reducible have hM2 := Mem.later hb (Mem.al (Mem.al (hM.out) _ _) _ _) | with_reducible have hM2 := Mem.later hb (Mem.al (Mem.al (Mem.al (hM.out) _ _) _ _) _ _) | with_reducible have hM2 := Mem.later hb (Mem.al (Mem.al (Mem.al (Mem.al (hM.out) _ _) _ _) _ _) _ _) | with_reducible have hM2 := Mem.later hb (Mem.drew (hM.out)) | with_reducible have hM2 := Mem.later hb (Mem.drew (Mem.al (hM.out) _ _)) | with_reducible have hM2 := Mem.later hb (Mem.al (Mem.drew (hM.out)) _ _) | with_reducible have hM2 := Mem.later hb (Mem.al (Mem.drew (Mem.al (hM.out) _ _)) _ _) | with_reducible have hM2 := Mem.later hb (Mem.drew (Mem.al (Mem.al (hM.out) _ _) _ _)) | with_reducible have hM2 := Mem.later hb (Mem.al (Mem.al (Mem.drew (hM.out)) _ _) _ _) | with_reducible have hM2 := Mem.later hb (Mem.drew (Mem.drew (hM.out))) | with_reducible have hM2 := Mem.later hb (Mem.drew (Mem.al (Mem.drew (hM.out)) _ _)) | with_reducible have hM2 := Mem.later hb (Mem.drew (Mem.al (Mem.al (Mem.al (hM.out) _ _) _ _) _ _)) | with_reducible have hM2 := Mem.later hb (Mem.al (Mem.al (Mem.drew (Mem.al (hM.out) _ _)) _ _) _ _) | with_reducible have hM2 := Mem.later hb (Mem.drew (Mem.al (Mem.drew (Mem.al (hM.out) _ _)) _ _)) | with_reducible have hM2 := Mem.later hb (Mem.al (Mem.al (Mem.al (Mem.al (Mem.al (hM.out) _ _) _ _) _ _) _ _) _ _) | with_reducible have hM2 := Mem.later hb (Mem.al (Mem.al (Mem.al (Mem.al (Mem.al (Mem.al (hM.out) _ _) _ _) _ _) _ _) _ _) _ _) | with_reducible have hM2 := Mem.later hb (Mem.al (Mem.al (Mem.al (Mem.al (Mem.al (Mem.al (Mem.al (hM.out) _ _) _ _) _ _) _ _) _ _) _ _) _ _) | with_reducible have hM2 := Mem.later hb (Mem.al (Mem.al (Mem.al (Mem.al (Mem.al (Mem.al (Mem.al (Mem.al (hM.out) _ _) _ _) _ _) _ _) _ _) _ _) _ _) _ _)); (try simp only [World.size_alloc, size_drew] at hM2); clear hM; have hM := Lib.hid hM2; clear hF; have hF := hM2; (try simp only [Mem, cellsAt, World.size_alloc, Nat.zero_add, Nat.reduceAdd, and_true] at hF); clear hM2; clear hb) |
    ((with_reducible_and_instances refine at_store 4 ?_); refine wpList_over rfl (.tmp 4) (.tmp 13) 23 rfl (w.heap.size + 2) (bcells F 32) _ rfl rfl _ Tryd.underlying23 rfl (by rw [bcells_len]; kernel_rfl) hM.out (by simp) (by rw [b8l_len, bcells_len]) (bcells_one F 32) hB (Nat.le_add_right _ _) ?_; intro W6 hm6 hb6; clear hM hB hF; have hM := Lib.hid hm6; have hB := hb6; have hF : True := trivial; clear hm6 hb6))
  have hl := Go.run_loadVar_mid (P := Tryd.prog) W6 (w.heap.size + 2) 0 23 (bcells F 32) _ (rangeAt_of hM.out.1.2.2) Tryd.underlying23 rfl (by rw [bcells_len]; kernel_rfl)
  refine bodyPost_ret (v := h32 F) (by simp [results, Tryd.results23, asAddr, hl, Act.put]) rfl ⟨rfl, hB⟩

set_option maxRecDepth 100000 in
set_option maxHeartbeats 4000000 in
theorem rup_any (ao : Option Addr) (n c : Nat) (L : List HF) (w : World) (h : Row w ao n c 32 (hsL L)) (hL : ∀ f ∈ L, HB f) (hn : n ≤ 100000) :
    Calls Tryd.prog 86 #[.slice ao n c] w fun e w' => ∃ (lo : Option Addr) (m cap : Nat), e = .returned (.slice lo m cap) ∧ m = (n + 1) / 2 ∧ OwnN w.heap.size 23 32 w' lo m cap (hsL (upL L)) ∧ Below w.heap.size w w' := by
  have hl := hs_len h
  have HR := Lib.hid h
  have HLb := Lib.hid hL
  have HN := Lib.hid hn
  have HLn := Lib.hid hl
  have hB0 := Below.refl w.heap.size w
  clear h hL hn hl
  go_enter Tryd.func86, Tryd.ntmps86
  go_wp2
  go_loopw [3, 4] (fun l i wr => AbRel w n L l i wr) (fun _ i _ => n + 2 - (intOf i).toNat)
  case atStart => exact ⟨0, none, 0, Nat.zero_le _, rfl, rfl, by simpa [hsL] using ownN_nil _ _ _ _, hB0⟩
  case round =>
    obtain ⟨j, lo, cap, hj, rfl, rfl, hown, hbr⟩ := hrel
    have HO := Lib.hid hown
    clear hown
    obtain ⟨i, hi⟩ : ∃ i, 2 * j = i := ⟨_, rfl⟩
    rw [hi]
    by_cases hlt : i < n
    · obtain ⟨f1, hf1⟩ : ∃ f, L[i]? = some f := ⟨_, List.getElem?_eq_getElem (by have := HLn.out; omega)⟩
      obtain ⟨q, hq⟩ : ∃ q, sibN n i = q := ⟨_, rfl⟩
      have hqn : q < n := by rw [← hq]; exact sib_lt hlt
      obtain ⟨f2, hf2⟩ : ∃ f, L[q]? = some f := ⟨_, List.getElem?_eq_getElem (by have := HLn.out; omega)⟩
      obtain ⟨b, off, rfl⟩ := row_addr HR.out (by intro e; have := congrArg List.length e; rw [hsL_len, HLn.out] at this; simp at this; omega)
      have hq2 : q = if i + 1 < n then i + 1 else i := by rw [← hq, sib_even (by omega)]
      obtain ⟨d, hd⟩ : ∃ d, i + 1 = d := ⟨_, rfl⟩
      obtain ⟨e, he⟩ : ∃ e, n - 1 = e := ⟨_, rfl⟩
      have hlti : (i : Int) < (n : Int) := by omega
      have hqni : (q : Int) < (n : Int) := by omega
      have hi0 : 0 ≤ (i : Int) := by omega
      have hq0 : 0 ≤ (q : Int) := by omega
      have k1 : IntKind.i64.wrap ((i : Int) + 1) = (d : Int) := by rw [IntKind.wrap_i64]; have := HN.out; omega
      have k2 : IntKind.i64.wrap ((n : Int) - 1) = (e : Int) := by rw [IntKind.wrap_i64]; have := HN.out; omega
      have k4 : min (d : Int) (e : Int) = (q : Int) := by rw [hq2]; split <;> omega
      have k5 : (if (d : Int) < (e : Int) then (d : Int) else (e : Int)) = (q : Int) := by rw [hq2]; split <;> split <;> omega
      have hpr := fun (x : World) (hb : Below w.heap.size w x) => rpair_any f1 f2 (HLb.out f1 (List.mem_of_getElem? hf1)) (HLb.out f2 (List.mem_of_getElem? hf2)) x
      obtain ⟨F, hF0⟩ : ∃ F, pairF f1 f2 = F := ⟨_, rfl⟩
      simp only [hF0] at hpr
      have HPr := Lib.hid hpr
      have hup : upE L j = F := by
        unfold upE
        rw [hi, HLn.out, hq, List.getD_eq_getElem?_getD, List.getD_eq_getElem?_getD, hf1, hf2]
        exact hF0
      have HU := Lib.hid hup
      have HRw := Lib.hid (fun (x : World) (hb : Below wr.heap.size wr x) => HR.out.later (bl_then hbr hb))
      have HL1 := Lib.hid hf1
      have HL2 := Lib.hid hf2
      have HI := Lib.hid hi
      have k3 : IntKind.i64.wrap ((i : Int) + 2) = ((i + 2 : Nat) : Int) := by rw [IntKind.wrap_i64]; have := HN.out; omega
      have hBq : Below w.heap.size w wr.drew := hbr.drew
      clear hf1 hf2 hq hpr hF0 hup hi hq2 hd he
      go_wp2
      refine wp_plan (fun x => Row x (some ⟨b, off, none⟩) n c 32 (hsL L)) [14, 15, 16] [0, 1, 2, 3, 4, 5, 6, 7, 8, 9, 10, 11, 12, 13, 14, 15, 16, 17] (by kernel_rfl) (by kernel_rfl) (HRw.out _ (Below.refl _ _).drew) (fun hHeld => ?_)
      iterate 4 (refine wpT_take rfl (by rfl) (by rfl) (by intro w' hSw; (try dsimp only [Mem, cellsAt] at hSw); go_simp; (try with_reducible rfl)) (by assumption) ?_; (try simp only [Act.put, List.setIfInBounds_toArray, List.set_cons_zero, List.set_cons_succ]))
      (refine wpT_yield rfl (by rfl) (Go.yieldsIf_load_mid (by rfl) 23 (.tmp 14) rfl b ((off + i * 32)) rfl (b8l f1 32) _ (fun w' h' => hs_range h' HL1.out) Tryd.underlying23 rfl (by rw [b8l_len]; kernel_rfl)) (by assumption) ?_; (try simp only [Act.put, List.setIfInBounds_toArray, List.set_cons_zero, List.set_cons_succ]))
      iterate 8 (refine wpT_take rfl (by rfl) (by rfl) (by intro w' hSw; (try dsimp only [Mem, cellsAt] at hSw); go_simp; (try with_reducible rfl)) (by assumption) ?_; (try simp only [Act.put, List.setIfInBounds_toArray, List.set_cons_zero, List.set_cons_succ]))
      (refine wpT_yield rfl (by rfl) (Go.yieldsIf_load_mid (by rfl) 23 (.tmp 23) rfl b ((off + q * 32)) rfl (b8l f2 32) _ (fun w' h' => hs_range h' HL2.out) Tryd.underlying23 rfl (by rw [b8l_len]; kernel_rfl)) (by assumption) ?_; (try simp only [Act.put, List.setIfInBounds_toArray, List.set_cons_zero, List.set_cons_succ]))
      (refine wpT_step rfl (by rfl) (fun K hK => ?_); go_simp)
      ((with_reducible refine (HPr.out _ hBq).mono ?_); rintro e v2 ⟨rfl, hb⟩; have HBq2 := Lib.hid (bl_then hBq hb); have HB2 := Lib.hid (bl_then (Below.refl wr.heap.size wr).drew hb); clear hb; (refine hK.out _ _ _ (fun _ h => h) (HRw.out _ HB2.out) (fun hHeld => ?_); clear hK; clear K; (try simp only [Act.put, List.setIfInBounds_toArray, List.set_cons_zero, List.set_cons_succ])))
      (refine wpT_step rfl (by rfl) (fun K hK => ?_))
      (refine step_bsH rfl (.tmp 25) F rfl rfl ?_; (refine hK.out _ _ _ (fun _ h => h) (HRw.out _ (bl_al HB2.out _)) (fun hHeld => ?_); clear hK; clear K; (try simp only [Act.put, List.setIfInBounds_toArray, List.set_cons_zero, List.set_cons_succ])))
      (refine wpT_step rfl (by rfl) (fun K hK => ?_))
      (refine step_appN eltHash _ rfl (.tmp 11) (.tmp 26) rfl w.heap.size (bl_al HBq2.out _).size lo j cap (hsL ((upL L).take j)) rfl (HO.out.later (bl_al HB2.out _)) (some ⟨v2.heap.size, 0, none⟩) 1 1 (b8l F 32) rfl (row_hash v2 F) (fun _ => by decide) (by have := HN.out; omega) ?_; intro g2 cp2 w7 row hown7 hgrow7 hrow7; have hlt7 := own_row_lt HO.out hrow7; have hB7 := below_grown (bl_al HBq2.out _) hgrow7 (fun k hk => (hlt7 k hk).1); have HO7 := Lib.hid hown7; have HR7 := HR.out.later hB7; clear hown7 hgrow7 hrow7 hlt7; (refine hK.out _ _ _ (fun _ h => h) (HR7) (fun hHeld => ?_); clear hK; clear K; (try simp only [Act.put, List.setIfInBounds_toArray, List.set_cons_zero, List.set_cons_succ])))
      iterate 1 (refine wpT_take rfl (by rfl) (by rfl) (by intro w' hSw; (try dsimp only [Mem, cellsAt] at hSw); go_simp; (try with_reducible rfl)) (by assumption) ?_; (try simp only [Act.put, List.setIfInBounds_toArray, List.set_cons_zero, List.set_cons_succ]))
      (refine wpT_nil ?_)
      go_wp2
      refine ⟨⟨j + 1, some ⟨g2, 0, none⟩, cp2, by have := HI.out; omega, by (have := HI.out; subst this; first | rfl | go_num | (congr 1)), rfl, ?_, hB7⟩, by simp [intOf]; omega⟩
      have h7 := HO7.out
      have e : (upL L).take (j + 1) = (upL L).take j ++ [F] := by rw [List.take_add_one, upL_get L j (by have := HLn.out; have := HI.out; omega), HU.out]; rfl
      rw [e, hsL_app, show hsL [F] = b8l F 32 by simp [hsL]]
      exact .inr ⟨g2, rfl, h7⟩
    · have hj2 : j = (n + 1) / 2 := by omega
      have hlti : ¬ (i : Int) < (n : Int) := by omega
      have e : (upL L).take j = upL L := List.take_of_length_le (by rw [upL_len, HLn.out]; omega)
      rw [e] at HO
      have HJ := Lib.hid hj2
      clear e hj2 hi
      go_wp2
      go_ret
      exact ⟨lo, j, cap, rfl, HJ.out, HO.out, hbr⟩
end Go.Proofs.YtddcceifblpmbaaDoor

/- florinref10.Levels. (hM) -/
namespace Go.Proofs.YtddcceifblpmbaaDoor
set_option linter.unusedVariables false
set_option linter.unusedSimpArgs false
open Go.RowKit

section
variable {P : Program} {T E : TypeId} {z : Value} {sz wd : Nat}
theorem wpList_appW (he : Elt P T E z sz wd) {w : World} {ops : Array Oper} {rest : List Oper} {o : Oper} {a : Act} {Q : Exit → Act → World → Prop} (hgd : o.guard = none) (s x : Operand)
    (ho : o.op = .call { callee := .builtin .append, args := #[s, x], argTypes := #[T, T] })
    (B : Nat) (hB : B ≤ w.heap.size) (ao : Option Addr) (n c : Nat) (xs : List Value) (hs : a.eval s = .slice ao n c) (hr : OwnN B E sz w ao n c xs)
    (ax : Option Addr) (m cx : Nat) (ys : List Value) (hx : a.eval x = .slice ax m cx) (hy : Row w ax m cx sz ys) (hm : 0 < m) (hb : (n + m) * wd ≤ 140737488355328)
    (h : ∀ g cap w' row, w'.ownsRow B E sz (.slice (some ⟨g, 0, none⟩) (n + m) cap) (n + m) (xs ++ ys) → w.grownBy w' row → (∀ k, row = some k → ao = some ⟨k, 0, none⟩) → (ao = some ⟨g, 0, none⟩ ∨ w.heap.size ≤ g) →
      wpList P ops Q rest (a.put o.dst (.slice (some ⟨g, 0, none⟩) (n + m) cap)) w') : wpList P ops Q (o :: rest) a w := by
  refine wpList_plain hgd fun K hK => ?_
  obtain ⟨g, cap, w', row, hrun, h1, h2, h3, h4⟩ := run_appW he w o.type B hB ao n c xs hr ax m cx ys hy hm hb
  unfold Oper.wp
  simp [execOp, ho, resolve, invoke, builtin, hs, hx, hrun, Result.andThen]
  exact hK _ _ (h g cap w' row h1 h2 h3 h4)
end
/-- rows of levels -/
def LvV (L : List HF) (lo : Option Addr) (vs : List Value) (W : World) : Prop := ∀ j v, vs[j]? = some v → VL L j v W ∧ ∀ g, lo = some ⟨g, 0, none⟩ → slOff v g
theorem VL.later {L : List HF} {j : Nat} {v : Value} {X Y : World} (h : VL L j v X) (hb : Below X.heap.size X Y) : VL L j v Y := by
  obtain ⟨ao, n, c, e, hr⟩ := h
  exact ⟨ao, n, c, e, hr.later hb⟩
theorem LvV.later {L : List HF} {lo : Option Addr} {vs : List Value} {X Y : World} (h : LvV L lo vs X) (hb : Below X.heap.size X Y) : LvV L lo vs Y := fun j v hj => ⟨(h j v hj).1.later hb, (h j v hj).2⟩
/-- one level more -/
theorem LvV.app {L : List HF} {lo : Option Addr} {vs : List Value} {k : Nat} {v0 : Value} {X Y : World} {row : Option Nat} {g : Nat} (h : LvV L lo vs X) (hk : vs.length = k) (h0 : VL L k v0 X) (h1 : ∀ g, lo = some ⟨g, 0, none⟩ → slOff v0 g)
    (hne : ∀ j, hsL (lev L j) ≠ []) (hg : X.grownBy Y row) (hr : ∀ k, row = some k → lo = some ⟨k, 0, none⟩) (hn : lo = some ⟨g, 0, none⟩ ∨ X.heap.size ≤ g) : LvV L (some ⟨g, 0, none⟩) (vs ++ [v0]) Y := by
  have key : ∀ j v, VL L j v X → (∀ g, lo = some ⟨g, 0, none⟩ → slOff v g) → VL L j v Y ∧ ∀ g', some (⟨g, 0, none⟩ : Addr) = some ⟨g', 0, none⟩ → slOff v g' := by
    intro j v h2 h3
    refine ⟨h2.grown hg fun kk hkk => h3 kk (hr kk hkk), ?_⟩
    intro g' hg'
    cases hg'
    rcases hn with h | h
    · exact h3 _ h
    · exact h2.off (hne j) h
  intro j v hj
  rcases Nat.lt_or_ge j vs.length with h2 | h2
  · rw [List.getElem?_append_left h2] at hj
    exact key j v (h j v hj).1 (h j v hj).2
  · rw [List.getElem?_append_right h2] at hj
    have hjk : j = k := by
      have := (List.getElem?_eq_some_iff.1 hj).1
      simp at this
      omega
    subst hjk
    rw [hk, Nat.sub_self] at hj
    cases hj
    exact key j _ h0 h1
def RlRel (w : World) (L : List HF) (n : Nat) (out at_ : Value) (wr : World) : Prop :=
  ∃ (k : Nat) (lo : Option Addr) (cp : Nat) (vs : List Value), k ≤ hgt n ∧ out = .slice lo (k + 1) cp ∧ vs.length = k + 1 ∧ vs[k]? = some at_ ∧ OwnN w.heap.size 60 1 wr lo (k + 1) cp vs ∧ LvV L lo vs wr ∧ Below w.heap.size w wr
theorem hs_ne {L : List HF} {n : Nat} (hl : L.length = n) (hn : 1 ≤ n) (j : Nat) : hsL (lev L j) ≠ [] := by
  intro e
  have h1 := congrArg List.length e
  rw [hsL_len, lev_len, hl] at h1
  have := wid_pos (n := n) hn j
  simp at h1
  omega
theorem row_sl (W : World) (v : Value) (h : v.oneCell' = true) : Row (W.alloc (.cells #[v] 60)) (some ⟨W.heap.size, 0, none⟩) 1 1 1 [v] := row_new W #[v] 60 1 1 1 rfl (Nat.le_refl _) (by intro u hu; simp at hu; rw [hu]; exact h)

set_option maxRecDepth 100000 in
set_option maxHeartbeats 8000000 in
theorem rlevels_all (ao : Option Addr) (n c : Nat) (L : List HF) (w : World) (h : Row w ao n c 32 (hsL L)) (hL : ∀ f ∈ L, HB f) (h1 : 1 ≤ n) (h4 : n ≤ 4096) :
    Calls Tryd.prog 50 #[.slice ao n c] w (LsPost w L n) := by
  have hln := hs_len h
  have HN := Lib.hid hln
  have HR := Lib.hid (fun (x : World) (hb : Below w.heap.size w x) => h.later hb)
  have HLb := Lib.hid hL
  have HH := Lib.hid (hgt_small 12 n (by simpa using h4))
  have H14 := Lib.hid (And.intro h1 h4)
  have HNe := Lib.hid (hs_ne hln h1)
  have e1 : ((n : Int) == 0) = false := by simp; omega
  have e2 : ¬ (4096 : Int) < (n : Int) := by omega
  have hbs : ∀ (ao : Option Addr) (q c : Nat) (x : World), (Instr.buildSlice 66 1 #[(0, .slice ao q c)]).run Tryd.prog x = .ok (.slice (some ⟨x.heap.size, 0, none⟩) 1 1) (x.alloc (.cells #[.slice ao q c] 60)) := fun ao q c x => by kernel_rfl
  have hB := Below.refl w.heap.size w
  clear h hL hln h1 h4
  go_enter Tryd.func50, Tryd.ntmps50
  go_wp2_with (first |
    ((with_reducible_and_instances refine at_app 13 ?_); refine wpList_appN eltHash w _ (below_alloc w _) rfl (.tmp 13) (.tmp 14) rfl (some ⟨w.heap.size, 0, none⟩) 0 0 [] rfl (ownN_lit0 _ _ _ _ (Nat.le_refl _)) ao n c (hsL L) rfl ((HR.out _ hB).alloc _) (fun h => by cases h) (by have := H14.out; omega) ?_; intro g1 cp1 w1 hown1 hb1; simp only [Nat.zero_add, List.nil_append] at hown1; have HO1 := Lib.hid hown1; have HB1 := Lib.hid hb1; clear hown1 hb1) |
    ((with_reducible_and_instances refine at_app 16 ?_); refine wpList_appW eltSl rfl (.tmp 16) (.tmp 18) rfl w.heap.size (by have := HB1.out.size; rw [World.size_alloc]; omega) none 0 0 [] rfl (ownN_nil _ _ _ _) (some ⟨w1.heap.size, 0, none⟩) 1 1 [.slice (some ⟨g1, 0, none⟩) n cp1] rfl (row_sl w1 _ rfl) (by decide) (by decide) ?_; intro g2 cp2 w2 row hown2 hgrow2 hrow2 hg2; simp only [Nat.zero_add, List.nil_append] at hown2; have HO2 := Lib.hid hown2; have HV2 := Lib.hid (LvV.app (k := 0) (v0 := .slice (some ⟨g1, 0, none⟩) n cp1) (lo := none) (vs := []) (L := L) (fun j v hj => by simp at hj) rfl ⟨_, _, _, rfl, (row_own HO1.out (hsL_one _)).alloc _⟩ (fun g h => by cases h) HNe.out hgrow2 hrow2 hg2); have HB2 := Lib.hid (bl_gr ((HB1.out).alloc (HB1.out.size) (.cells #[.slice (some ⟨g1, 0, none⟩) n cp1] 60)) hgrow2 (by have := HB1.out.size; rw [World.size_alloc]; omega) (fun k hk => by cases hrow2 k hk)); clear hown2 hgrow2 hrow2 hg2))
  go_loopw [3, 4] (fun out at_ wr => RlRel w L n out at_ wr) (fun _ a _ => slLen a)
  case atStart => exact ⟨0, _, _, _, Nat.zero_le _, rfl, rfl, rfl, .inr ⟨g2, rfl, HO2.out⟩, HV2.out, HB2.out⟩
  case round =>
    obtain ⟨k, lo, cp, vs, hk, rfl, hvl, hat, hown, hvs, hbr⟩ := hrel
    obtain ⟨⟨ao2, q, c2, rfl, hrow⟩, hoff⟩ := hvs k _ hat
    have hql : q = wid n k := by have := hs_len hrow; rw [lev_len, HN.out] at this; exact this.symm
    have hn14 := H14.out
    have hq2 : q ≤ 4096 := by rw [hql]; exact Nat.le_trans (wid_le n hn14.1 k) hn14.2
    have HQ := Lib.hid (And.intro hql (And.intro hk hvl))
    have HO := Lib.hid hown
    have HV := Lib.hid hvs
    have HBr := Lib.hid hbr
    have HAt := Lib.hid hat
    by_cases h1 : 1 < q
    · have hkl : k < hgt n := by
        rcases Nat.lt_or_ge k (hgt n) with h | h
        · exact h
        · have e : k = hgt n := by omega
          rw [hql, e, wid_top hn14.1] at h1
          omega
      have h1i : (1 : Int) < (q : Int) := by omega
      have HKl := Lib.hid hkl
      have HUp := Lib.hid (rup_any ao2 q c2 (lev L k) wr hrow (lev_b HLb.out k) (by omega))
      clear hk hvl hat hown hvs hrow hoff hql hn14 hq2 hkl hbr h1
      go_wp2_with (first |
        (go_at_call 86; (refine (HUp.out).mono ?_); rintro e w4 ⟨lo4, m4, c4, rfl, hm4, ho4, hb4⟩; have HO4 := Lib.hid ho4; have HM4 := Lib.hid hm4; have HB4 := Lib.hid hb4; clear ho4 hm4 hb4) |
        ((with_reducible_and_instances refine at_app 25 ?_); refine wpList_appW eltSl rfl (.tmp 25) (.tmp 27) rfl w.heap.size (by have := HBr.out.size; have := HB4.out.size; rw [World.size_alloc]; omega) lo (k + 1) cp vs rfl ((HO.out.later HB4.out).alloc _) (some ⟨w4.heap.size, 0, none⟩) 1 1 [.slice lo4 m4 c4] rfl (row_sl w4 _ rfl) (by decide) (by have := HKl.out; have := HH.out; omega) ?_; intro g2 cp3 w5 row hown2 hgrow2 hrow2 hg2; have HO5 := Lib.hid hown2; have HG5 := Lib.hid hgrow2; have HR5 := Lib.hid hrow2; have HH5 := Lib.hid hg2; clear hown2 hgrow2 hrow2 hg2))
      refine ⟨⟨k + 1, some ⟨g2, 0, none⟩, cp3, vs ++ [.slice lo4 m4 c4], HKl.out, rfl, by simp [HQ.out.2.2], by rw [List.getElem?_append_right (by rw [HQ.out.2.2]; omega), HQ.out.2.2]; simp, .inr ⟨g2, rfl, HO5.out⟩, ?_, ?_⟩, by have := HM4.out; simp only [slLen]; omega⟩
      · have hrow4 := HO4.out.row (hsL_one _)
        refine LvV.app (k := k + 1) (X := w4.alloc (.cells #[.slice lo4 m4 c4] 60)) (LvV.later (HV.out.later HB4.out) (below_alloc _ _)) HQ.out.2.2 ⟨_, _, _, rfl, hrow4.alloc _⟩ ?_ HNe.out HG5.out HR5.out HH5.out
        intro g hg ao n c e ad ha
        simp only [Value.slice.injEq] at e
        have h1 := HO.out
        rw [hg] at h1
        have h2 := h1.lt
        have h3 := HO4.out
        rw [e.1, ha] at h3
        rcases h3 with ⟨h3, _⟩ | ⟨g', h3, h4⟩
        · cases h3
        · cases h3
          have := (h4.lt g' rfl).1
          simp only
          omega
      · exact bl_gr ((bl_then HBr.out HB4.out).alloc (by have := HBr.out.size; have := HB4.out.size; omega) _) HG5.out (by have := HBr.out.size; have := HB4.out.size; rw [World.size_alloc]; omega) (fun kk hkk => by
          have h1 := HO.out
          rw [HR5.out kk hkk] at h1
          exact h1.lt.1)
    · have hkt : k = hgt n := hgt_of hn14.1 (by rw [← hql]; exact h1) hk
      have h1i : ¬ (1 : Int) < (q : Int) := by omega
      have HKt := Lib.hid hkt
      clear hk hvl hat hown hvs hrow hoff hql hn14 hq2 hbr h1 hkt
      go_wp2
      go_ret
      have hN : levN n = k + 1 := by unfold levN; rw [if_neg (by have := H14.out; omega), HKt.out]
      refine ⟨lo, cp, vs, by rw [hN]; rfl, ?_, fun j v hj => (HV.out j v hj).1, HBr.out⟩
      rw [hN]
      refine HO.out.row fun u hu => ?_
      obtain ⟨j, hj⟩ := List.mem_iff_getElem?.1 hu
      obtain ⟨ao, n, c, e, hr⟩ := (HV.out j u hj).1
      rw [e]; rfl
end Go.Proofs.YtddcceifblpmbaaDoor

/- florinref10.Levels: the levels as they lie (made by gen_mkr6.py). (hM) -/
namespace Go.Proofs.YtddcceifblpmbaaDoor
set_option linter.unusedVariables false
set_option linter.unusedSimpArgs false
open Go.RowKit

/-- all levels, as they lie -/
def LvG (L : List HF) (n N bl ol : Nat) (A B C : Nat → Nat) (W : World) : Prop :=
  ∀ j, j < N → W.cell? ⟨bl, ol + j, none⟩ = some (.slice (some ⟨A j, B j, none⟩) (wid n j) (C j)) ∧ Row W (some ⟨A j, B j, none⟩) (wid n j) (C j) 32 (hsL (lev L j))
theorem LvG.later {L : List HF} {n N bl ol : Nat} {A B C : Nat → Nat} {X Y : World} (h : LvG L n N bl ol A B C X) (hb : Below X.heap.size X Y) : LvG L n N bl ol A B C Y := fun j hj =>
  ⟨(hb.cell (p := ⟨bl, ol + j, none⟩) (World.block_lt_of_cell? X ⟨bl, ol + j, none⟩ (h j hj).1)).trans (h j hj).1, (h j hj).2.later hb⟩
theorem rlevels_yes (ao : Option Addr) (n c : Nat) (L : List HF) (w : World) (h : Row w ao n c 32 (hsL L)) (hL : ∀ f ∈ L, HB f) (h1 : 1 ≤ n) (h4 : n ≤ 4096) :
    Calls Tryd.prog 50 #[.slice ao n c] w fun e w' => ∃ (bl ol cp : Nat) (A B C : Nat → Nat), e = .returned (.slice (some ⟨bl, ol, none⟩) (hgt n + 1) cp) ∧ LvG L n (hgt n + 1) bl ol A B C w' ∧ Below w.heap.size w w' := by
  have hl := hs_len h
  have hN : levN n = hgt n + 1 := by unfold levN; rw [if_neg (by omega)]
  refine (rlevels_all ao n c L w h hL h1 h4).mono ?_
  rintro e w' ⟨lo, cp, vs, rfl, hr, hv, hB⟩
  rw [hN] at hr ⊢
  have hvl : vs.length = hgt n + 1 := by have := hr.len; omega
  obtain ⟨bl, ol, rfl⟩ := row_addr hr (by intro e; rw [e] at hvl; simp at hvl)
  have key : ∀ j, ∃ x : Nat × Nat × Nat, j < hgt n + 1 → w'.cell? ⟨bl, ol + j, none⟩ = some (.slice (some ⟨x.1, x.2.1, none⟩) (wid n j) x.2.2) ∧ Row w' (some ⟨x.1, x.2.1, none⟩) (wid n j) x.2.2 32 (hsL (lev L j)) := by
    intro j
    by_cases hj : j < hgt n + 1
    · obtain ⟨v, hvj⟩ : ∃ v, vs[j]? = some v := ⟨_, List.getElem?_eq_getElem (by omega)⟩
      obtain ⟨aj, q, cj, rfl, hrow⟩ := hv j v hvj
      have hq : q = wid n j := by have := hs_len hrow; rw [lev_len, hl] at this; exact this.symm
      subst hq
      have hne : hsL (lev L j) ≠ [] := by
        intro e
        have := congrArg List.length e
        rw [hsL_len, lev_len, hl] at this
        have := wid_pos (n := n) h1 j
        simp at *
        omega
      obtain ⟨x, y, rfl⟩ := row_addr hrow hne
      exact ⟨⟨x, y, cj⟩, fun _ => ⟨(hr.cells _ rfl j _ hvj).2, hrow⟩⟩
    · exact ⟨⟨0, 0, 0⟩, fun h => absurd h hj⟩
  exact ⟨bl, ol, cp, fun j => (key j).choose.1, fun j => (key j).choose.2.1, fun j => (key j).choose.2.2, rfl, fun j hj => (key j).choose_spec hj, hB⟩


set_option maxRecDepth 100000 in
set_option maxHeartbeats 8000000 in
theorem rlevels_no (ao : Option Addr) (c : Nat) (w : World) : Calls Tryd.prog 50 #[.slice ao 0 c] w fun e w' => e = .returned (.slice none 0 0) ∧ Below w.heap.size w w' := by
  have hB := Below.refl w.heap.size w
  go_enter Tryd.func50, Tryd.ntmps50
  go_wp2
  go_ret
  exact ⟨rfl, by (repeat (first | exact Below.refl _ _ | refine Below.drew ?_ | refine bl_drewN ?_ _ | (refine Below.alloc ?_ (by first | exact Nat.le_refl _ | (simp; done) | (simp; omega)) _)))⟩
end Go.Proofs.YtddcceifblpmbaaDoor

/- florinref10.Climb (made by gen_mkr5.py). (hM) -/
namespace Go.Proofs.YtddcceifblpmbaaDoor
set_option linter.unusedVariables false
set_option linter.unusedSimpArgs false
open Go.RowKit

set_option maxRecDepth 100000 in
set_option maxHeartbeats 8000000 in
theorem rclimb_any (x : HF) (hx : HB x) (ao : Option Addr) (m c : Nat) (Br : List HF) (i : Int) (hi : -9223372036854775808 ≤ i ∧ i ≤ 9223372036854775807) (w : World) (h : Row w ao m c 32 (hsL Br)) (hL : ∀ f ∈ Br, HB f) (hm : m ≤ 100000) :
    Calls Tryd.prog 53 #[arr32 x, .slice ao m c, .int .i64 i] w fun e w' => e = .returned (arr32 (climbF x Br i.toNat)) ∧ Below w.heap.size w w' := by
  have hl := hs_len h
  obtain ⟨i0, hi0⟩ : ∃ n, i.toNat = n := ⟨_, rfl⟩
  have hmx : max i 0 = (i0 : Int) := by omega
  have hmx2 : (if i < 0 then 0 else i) = (i0 : Int) := by split <;> omega
  have hi63 : i0 ≤ 9223372036854775807 := by omega
  have HI := Lib.hid hi63
  have HR := Lib.hid h
  have HLb := Lib.hid hL
  have HN := Lib.hid hm
  have HLn := Lib.hid hl
  rw [hi0]
  have hM0 := Mem.al (Mem.al (mem_nil w) (b8l x 32) 23) (b8l zH 32) 23
  simp only [World.size_alloc] at hM0
  have HM0 := Lib.hid hM0
  have HB0 := Lib.hid (bl_al (bl_al (Below.refl w.heap.size w) (.cells (b8l x 32).toArray 23)) (.cells (b8l zH 32).toArray 23))
  clear h hL hm hl hM0 hi63
  go_enter Tryd.func53, Tryd.ntmps53
  go_wp2
  go_loopw [2, 7] (fun i k wr => ClRel w x Br m i0 i k wr) (fun _ k _ => m + 1 - (intOf k).toNat)
  case atStart => exact ⟨0, Nat.zero_le _, rfl, by simp [hmx], HM0.out, HB0.out⟩
  case round =>
    obtain ⟨k, hk, rfl, rfl, hmm, hB⟩ := hrel
    obtain ⟨j, hj⟩ : ∃ j, i0 / 2 ^ k = j := ⟨_, rfl⟩
    obtain ⟨y, hy⟩ : ∃ y, climbF x (Br.take k) i0 = y := ⟨_, rfl⟩
    rw [hj]
    rw [hy] at hmm
    have hM := Lib.hid hmm
    have hF : True := trivial
    by_cases hlt : k < m
    · obtain ⟨o, ho⟩ : ∃ f, Br[k]? = some f := ⟨_, List.getElem?_eq_getElem (by have := HLn.out; omega)⟩
      obtain ⟨bb, off, rfl⟩ := row_addr HR.out (by intro e; have := congrArg List.length e; rw [hsL_len, HLn.out] at this; simp at this; omega)
      have hob := HLb.out o (List.mem_of_getElem? ho)
      have hyb : HB y := by rw [← hy]; exact climb_b hx _ _ (fun f hf => HLb.out f (List.mem_of_mem_take hf))
      obtain ⟨j2, hj2⟩ : ∃ j2, j / 2 = j2 := ⟨_, rfl⟩
      have hjj : j ≤ 9223372036854775807 := by rw [← hj]; exact Nat.le_trans (Nat.div_le_self _ _) HI.out
      obtain ⟨z, hz⟩ : ∃ z, (if j % 2 = 1 then pairF o y else pairF y o) = z := ⟨_, rfl⟩
      have hst : climbF x (Br.take (k + 1)) i0 = z := by
        have e : Br.take (k + 1) = Br.take k ++ [o] := by rw [List.take_add_one, ho]; rfl
        rw [e, climb_snoc, hy, List.length_take, Nat.min_eq_left (by have := HLn.out; omega), hj, hz]
      have HSt := Lib.hid hst
      have HJ2 := Lib.hid (show i0 / 2 ^ (k + 1) = j2 by rw [Nat.pow_succ, ← Nat.div_div_eq_div_mul, hj, hj2])
      have HRw := Lib.hid (fun (q : World) (hb : Below w.heap.size w q) => HR.out.later hb)
      have HLo := Lib.hid ho
      have HNe := Lib.hid (show ∀ p ∈ [(w.heap.size + 1, b8l zH 32)], p.1 ≠ w.heap.size from by simp)
      have hlti : (k : Int) < (m : Int) := by omega
      have hk0 : 0 ≤ (k : Int) := by omega
      have hd1 : (j : Int).tdiv 2 = (j2 : Int) := by rw [Int.tdiv_eq_ediv_of_nonneg (by omega)]; omega
      have hd2 : (j : Int) / 2 = (j2 : Int) := by omega
      have hd3 : IntKind.i64.wrap (j2 : Int) = (j2 : Int) := by rw [IntKind.wrap_i64]; omega
      have hw1 : IntKind.i64.wrap ((k : Int) + 1) = ((k + 1 : Nat) : Int) := by rw [IntKind.wrap_i64]; have := HN.out; omega
      by_cases ho1 : j % 2 = 1
      · rw [if_pos ho1] at hz
        have hr1 : (j : Int).tmod 2 = 1 := by rw [Int.tmod_eq_emod_of_nonneg (by omega)]; omega
        have HP := Lib.hid (fun (q : World) (_ : Below w.heap.size w q) => (hz ▸ rpair_any o y hob hyb q : Calls Tryd.prog 23 #[arr32 o, arr32 y] q fun e w' => e = .returned (arr32 z) ∧ Below q.heap.size q w'))
        clear ho1 hz hst hj2 hjj hob hyb hj hy hmm ho
        go_wp2
        refine wp_planU 6 (fun x => Mem x [(w.heap.size + 1, b8l zH 32), (w.heap.size, b8l y 32)] ∧ Row x (some ⟨bb, off, none⟩) m c 32 (hsL Br)) [5, 6] [0, 1, 2, 3, 4, 5, 6] (by kernel_rfl) (by kernel_rfl) ⟨Mem.drew hM.out, HRw.out _ hB.drew⟩ (fun hHeld => ?_)
        iterate 3 (refine wpU_take rfl (by rfl) (by rfl) (by intro w' hSw; (try dsimp only [Mem, cellsAt] at hSw); go_simp; (try with_reducible rfl)) (by assumption) ?_; (try simp only [Act.put, List.setIfInBounds_toArray, List.set_cons_zero, List.set_cons_succ]))
        (refine wpU_yield rfl (by rfl) (Go.yieldsIf_load_mid (by rfl) 23 (.tmp 27) rfl bb ((off + k * 32)) rfl (b8l o 32) _ (fun w' h' => hs_range h'.2 HLo.out) Tryd.underlying23 rfl (by rw [b8l_len]; kernel_rfl)) (by assumption) ?_; (try simp only [Act.put, List.setIfInBounds_toArray, List.set_cons_zero, List.set_cons_succ]))
        (refine wpU_yield rfl (by rfl) (Go.yieldsIf_load_mid (by rfl) 23 (.tmp 3) rfl w.heap.size (0) rfl (b8l y 32) _ (fun w' h' => rangeAt_of (Mem.get h'.1 (by simp))) Tryd.underlying23 rfl (by rw [b8l_len]; kernel_rfl)) (by assumption) ?_; (try simp only [Act.put, List.setIfInBounds_toArray, List.set_cons_zero, List.set_cons_succ]))
        (refine wpU_step rfl (by rfl) (fun K hK => ?_); go_simp)
        ((with_reducible refine (HP.out _ hB.drew).mono ?_); rintro e v1 ⟨rfl, hb⟩; have hB5 := bl_then hB.drew hb; have hM5 := Lib.hid (Mem.later hb (Mem.drew hM.out)); clear hb; (refine hK.out _ _ _ (fun _ h => h) (⟨hM5.out, HRw.out _ hB5⟩) (fun hHeld => ?_); clear hK; clear K; (try simp only [Act.put, List.setIfInBounds_toArray, List.set_cons_zero, List.set_cons_succ])))
        have hth := thereW (n := 32) hM5.out.2.1 (by rw [b8l_len]; omega)
        have hM6 : Mem (v1.setCells w.heap.size 0 (b8l z 32).toArray.toList) [(w.heap.size, b8l z 32), (w.heap.size + 1, b8l zH 32)] := Mem.over (us := b8l z 32) (L := [(w.heap.size + 1, b8l zH 32)]) HNe.out (Mem.swap hM5.out) (by rw [b8l_len, b8l_len])
        have hB6 : Below w.heap.size w (v1.setCells w.heap.size 0 (b8l z 32).toArray.toList) := bl_setCellsW (Nat.le_refl _) _ _ _ hB5
        (refine wpU_last rfl (by rfl) (fun K hK => ?_))
        (refine step_storeW rfl 23 (.tmp 3) (.tmp 30) rfl w.heap.size 0 (b8l z 32).toArray rfl rfl (by simpa [b8l_len] using hth) (by simp only [List.size_toArray, b8l_len]; kernel_rfl) (Go.all_oneCell_toArray (b8l_one z 32)) ?_)
        (refine hK.out _ _ ?_; clear hK; clear K; (try simp only [Act.put, List.setIfInBounds_toArray, List.set_cons_zero, List.set_cons_succ]))
        (refine wpU_nil ?_)
        revert hM6 hB6
        generalize v1.setCells w.heap.size 0 (b8l z 32).toArray.toList = W6
        intro hM6 hB6
        replace hM6 := Lib.hid hM6
        clear hM5 hB5 hth hHeld hM hF hB
        go_wp2
        refine ⟨⟨k + 1, by omega, by first | rfl | go_num | (congr 1), by rw [HJ2.out], by rw [HSt.out]; exact ⟨hM6.out.2.1, hM6.out.1, trivial⟩, hB6⟩, by simp [intOf]; omega⟩
      · rw [if_neg ho1] at hz
        have hr1 : (j : Int).tmod 2 = 0 := by rw [Int.tmod_eq_emod_of_nonneg (by omega)]; omega
        have HP := Lib.hid (fun (q : World) (_ : Below w.heap.size w q) => (hz ▸ rpair_any y o hyb hob q : Calls Tryd.prog 23 #[arr32 y, arr32 o] q fun e w' => e = .returned (arr32 z) ∧ Below q.heap.size q w'))
        clear ho1 hz hst hj2 hjj hob hyb hj hy hmm ho
        go_wp2
        refine wp_planU 6 (fun x => Mem x [(w.heap.size + 1, b8l zH 32), (w.heap.size, b8l y 32)] ∧ Row x (some ⟨bb, off, none⟩) m c 32 (hsL Br)) [5, 6] [0, 1, 2, 3, 4, 5, 6] (by kernel_rfl) (by kernel_rfl) ⟨Mem.drew hM.out, HRw.out _ hB.drew⟩ (fun hHeld => ?_)
        (refine wpU_yield rfl (by rfl) (Go.yieldsIf_load_mid (by rfl) 23 (.tmp 3) rfl w.heap.size (0) rfl (b8l y 32) _ (fun w' h' => rangeAt_of (Mem.get h'.1 (by simp))) Tryd.underlying23 rfl (by rw [b8l_len]; kernel_rfl)) (by assumption) ?_; (try simp only [Act.put, List.setIfInBounds_toArray, List.set_cons_zero, List.set_cons_succ]))
        iterate 3 (refine wpU_take rfl (by rfl) (by rfl) (by intro w' hSw; (try dsimp only [Mem, cellsAt] at hSw); go_simp; (try with_reducible rfl)) (by assumption) ?_; (try simp only [Act.put, List.setIfInBounds_toArray, List.set_cons_zero, List.set_cons_succ]))
        (refine wpU_yield rfl (by rfl) (Go.yieldsIf_load_mid (by rfl) 23 (.tmp 22) rfl bb ((off + k * 32)) rfl (b8l o 32) _ (fun w' h' => hs_range h'.2 HLo.out) Tryd.underlying23 rfl (by rw [b8l_len]; kernel_rfl)) (by assumption) ?_; (try simp only [Act.put, List.setIfInBounds_toArray, List.set_cons_zero, List.set_cons_succ]))
        (refine wpU_step rfl (by rfl) (fun K hK => ?_); go_simp)
        ((with_reducible refine (HP.out _ hB.drew).mono ?_); rintro e v1 ⟨rfl, hb⟩; have hB5 := bl_then hB.drew hb; have hM5 := Lib.hid (Mem.later hb (Mem.drew hM.out)); clear hb; (refine hK.out _ _ _ (fun _ h => h) (⟨hM5.out, HRw.out _ hB5⟩) (fun hHeld => ?_); clear hK; clear K; (try simp only [Act.put, List.setIfInBounds_toArray, List.set_cons_zero, List.set_cons_succ])))
        have hth := thereW (n := 32) hM5.out.2.1 (by rw [b8l_len]; omega)
        have hM6 : Mem (v1.setCells w.heap.size 0 (b8l z 32).toArray.toList) [(w.heap.size, b8l z 32), (w.heap.size + 1, b8l zH 32)] := Mem.over (us := b8l z 32) (L := [(w.heap.size + 1, b8l zH 32)]) HNe.out (Mem.swap hM5.out) (by rw [b8l_len, b8l_len])
        have hB6 : Below w.heap.size w (v1.setCells w.heap.size 0 (b8l z 32).toArray.toList) := bl_setCellsW (Nat.le_refl _) _ _ _ hB5
        (refine wpU_last rfl (by rfl) (fun K hK => ?_))
        (refine step_storeW rfl 23 (.tmp 3) (.tmp 24) rfl w.heap.size 0 (b8l z 32).toArray rfl rfl (by simpa [b8l_len] using hth) (by simp only [List.size_toArray, b8l_len]; kernel_rfl) (Go.all_oneCell_toArray (b8l_one z 32)) ?_)
        (refine hK.out _ _ ?_; clear hK; clear K; (try simp only [Act.put, List.setIfInBounds_toArray, List.set_cons_zero, List.set_cons_succ]))
        (refine wpU_nil ?_)
        revert hM6 hB6
        generalize v1.setCells w.heap.size 0 (b8l z 32).toArray.toList = W6
        intro hM6 hB6
        replace hM6 := Lib.hid hM6
        clear hM5 hB5 hth hHeld hM hF hB
        go_wp2
        refine ⟨⟨k + 1, by omega, by first | rfl | go_num | (congr 1), by rw [HJ2.out], by rw [HSt.out]; exact ⟨hM6.out.2.1, hM6.out.1, trivial⟩, hB6⟩, by simp [intOf]; omega⟩
    · have hkm : k = m := by omega
      have e : Br.take k = Br := List.take_of_length_le (by have := HLn.out; omega)
      rw [e] at hy
      have hlti : ¬ (k : Int) < (m : Int) := by omega
      have HY := Lib.hid hy
      clear hkm e hj hy hmm
      go_wp2_with (first |
    ((with_reducible_and_instances refine at_load 3 ?_); refine Go.wpList_load_mid rfl 23 (.tmp 3) rfl w.heap.size 0 rfl (b8l y 32) _ (rangeAt_of (Mem.get hM.out (by simp))) Tryd.underlying23 rfl (by rw [b8l_len]; kernel_rfl) ?_) |
    ((with_reducible_and_instances refine at_store 6 ?_); refine wpList_over rfl (.tmp 6) (.tmp 33) 23 rfl (w.heap.size + 1) (b8l y 32) _ rfl rfl _ Tryd.underlying23 rfl (by rw [b8l_len]; kernel_rfl) (L := [(w.heap.size, b8l y 32)]) ⟨hM.out.1, hM.out.2.1, trivial⟩ (by simp) (by rw [b8l_len, b8l_len]) (b8l_one y 32) hB (Nat.le_succ _) ?_; intro W3 hm3 hb3; clear hM hB hF; have hM := Lib.hid hm3; have hB := hb3; have hF : True := trivial; clear hm3 hb3))
      have hl2 := Go.run_loadVar_mid (P := Tryd.prog) W3 (w.heap.size + 1) 0 23 (b8l y 32) _ (rangeAt_of hM.out.1.2.2) Tryd.underlying23 rfl (by rw [b8l_len]; kernel_rfl)
      refine bodyPost_ret (v := arr32 y) (by simp [results, Tryd.results53, asAddr, hl2, Act.put]; try rfl) rfl ⟨by rw [HY.out], hB⟩
end Go.Proofs.YtddcceifblpmbaaDoor

/- florinref10.Root (made by gen_mkr6.py). (hM) -/
namespace Go.Proofs.YtddcceifblpmbaaDoor
set_option linter.unusedVariables false
set_option linter.unusedSimpArgs false
open Go.RowKit
theorem hs_range0r {w : World} {g off n c : Nat} {L : List HF} (h : Row w (some ⟨g, off, none⟩) n c 32 (hsL L)) {f : HF} (hi : L[0]? = some f) : w.rangeAt g off (b8l f 32) := by
  have := hs_range h hi
  rwa [Nat.zero_mul, Nat.add_zero] at this

theorem tw_of {L : List HF} {n N : Nat} {b : Bool} (hl : L.length = n) (hN : levN n = N) (h : b = true ↔ likeT L N) : b = twB L := by
  cases b
  · exact (tw_false (by rw [hl, hN]; intro h2; exact absurd (h.2 h2) (by simp))).symm
  · exact (tw_true (by rw [hl, hN]; exact h.1 rfl)).symm
set_option maxRecDepth 100000 in
set_option maxHeartbeats 8000000 in
theorem rroot_yes (ao : Option Addr) (n c : Nat) (L : List HF) (w : World) (h : Row w ao n c 32 (hsL L)) (hL : ∀ f ∈ L, HB f) (h1 : 1 ≤ n) (h4 : n ≤ 4096) :
    Calls Tryd.prog 45 #[.slice ao n c] w fun e w' => e = .returned (.tuple #[arr32 (rootF L), .bool (twB L)]) ∧ Below w.heap.size w w' := by
  have hln := hs_len h
  obtain ⟨t, htt⟩ : ∃ t, hgt n = t := ⟨_, rfl⟩
  obtain ⟨N, hNN⟩ : ∃ N, t + 1 = N := ⟨_, rfl⟩
  obtain ⟨R, hR⟩ : ∃ R, rootF L = R := ⟨_, rfl⟩
  have hh := hgt_small 12 n (by simp; omega)
  rw [htt] at hh
  have hlN : levN n = N := by unfold levN; rw [if_neg (by omega), htt, hNN]
  have htop : (lev L t)[0]? = some R := by
    have h3 := wid_top (n := n) (by omega)
    rw [htt] at h3
    obtain ⟨f, hf⟩ : ∃ f, (lev L t)[0]? = some f := ⟨_, List.getElem?_eq_getElem (by rw [lev_len, hln, h3]; omega)⟩
    have : rootF L = f := by
      unfold rootF
      rw [hln, if_neg (by rw [hlN]; omega), htt, List.getD_eq_getElem?_getD, hf]; rfl
    rw [hf, ← hR, this]
  have hM0 := Mem.al (mem_nil w) (b8l zH 32) 23
  have hB0 := bl_al (Below.refl w.heap.size w) (.cells (b8l zH 32).toArray 23)
  have HLv := Lib.hid (show Calls Tryd.prog 50 #[.slice ao n c] (w.alloc (.cells (b8l zH 32).toArray 23)) fun e w' => ∃ (bl ol cp : Nat) (A B C : Nat → Nat), e = .returned (.slice (some ⟨bl, ol, none⟩) N cp) ∧ LvG L n N bl ol A B C w' ∧ Below w.heap.size w w' ∧ Mem w' [(w.heap.size, b8l zH 32)] from by
    have := rlevels_yes ao n c L _ (h.later hB0) hL h1 h4
    rw [htt, hNN] at this
    refine this.mono ?_
    rintro e w' ⟨bl, ol, cp, A, B, C, h1, h2, h3⟩
    exact ⟨bl, ol, cp, A, B, C, h1, h2, bl_then hB0 h3, Mem.later h3 hM0⟩)
  have HLt := Lib.hid htop
  have HLn := Lib.hid hln
  have HlN := Lib.hid hlN
  have HNs := Lib.hid (And.intro h4 (And.intro h1 (And.intro hh (And.intro htt hNN))))
  have HRt := Lib.hid hR
  rw [hR]
  have k2 : ((N : Int) == 0) = false := by simp; omega
  have k6 : IntKind.i64.wrap ((N : Int) - 1) = (t : Int) := by rw [IntKind.wrap_i64]; omega
  have k7 : (t : Int) < (N : Int) := by omega
  have k8 : t < N := by omega
  have k9 : 0 ≤ (t : Int) := by omega
  clear h hL h1 h4 hln hR hh htt hNN htop hlN hM0 hB0
  go_enter Tryd.func45, Tryd.ntmps45
  go_wp2_with (first |
    (go_at_call 50; (refine (HLv.out).mono ?_); rintro e w2 ⟨bl, ol, cp, A, B, C, rfl, hlv, hb2, hm2⟩; have HV2 := Lib.hid hlv; have HB2 := Lib.hid hb2; have HM2 := Lib.hid hm2; clear hlv hb2 hm2))
  go_loopw [5, 6] (fun al h wr => ∃ (k : Nat) (b : Bool), k ≤ N ∧ h = .int .i64 (k : Int) ∧ al = .bool b ∧ (b = true ↔ likeT L k) ∧ Below w2.heap.size w2 wr) (fun _ h _ => N + 1 - (intOf h).toNat)
  case atStart => exact ⟨0, false, Nat.zero_le _, rfl, rfl, by simp [likeT], Below.refl _ _⟩
  case round =>
    obtain ⟨k, b, hk, rfl, rfl, hbk, hbr⟩ := hrel
    have HBk := Lib.hid hbk
    clear hbk
    by_cases hlt : k < N
    · obtain ⟨q, hq⟩ : ∃ q, wid n k = q := ⟨_, rfl⟩
      obtain ⟨ak, hak⟩ : ∃ x, A k = x := ⟨_, rfl⟩
      obtain ⟨bk, hbk⟩ : ∃ x, B k = x := ⟨_, rfl⟩
      obtain ⟨ck, hck⟩ : ∃ x, C k = x := ⟨_, rfl⟩
      have hn := HNs.out
      have hqn : q ≤ 4096 := by rw [← hq]; exact Nat.le_trans (wid_le n hn.2.1 k) hn.1
      have hlk : (lev L k).length = q := by rw [lev_len, HLn.out, hq]
      have HSk := Lib.hid (show ∀ x : World, Below w2.heap.size w2 x → x.cell? ⟨bl, ol + k, none⟩ = some (.slice (some ⟨ak, bk, none⟩) q ck) ∧ Row x (some ⟨ak, bk, none⟩) q ck 32 (hsL (lev L k)) from fun x hb => by have := (HV2.out.later hb) k hlt; rw [hak, hbk, hck, hq] at this; exact this)
      have HLk := Lib.hid hlk
      have HQ := Lib.hid hqn
      have k10 : (k : Int) < (N : Int) := by omega
      have k11 : 0 ≤ (k : Int) := by omega
      have k12 : k < N := hlt
      have k13 : IntKind.i64.wrap ((k : Int) + 1) = ((k + 1 : Nat) : Int) := by rw [IntKind.wrap_i64]; omega
      clear hak hbk hck hq hqn hn hlk
      go_wp2
      go_loopw [5, 7] (fun al i wr => ∃ (j : Nat) (b2 : Bool), 2 * j ≤ q + 1 ∧ i = .int .i64 ((2 * j : Nat) : Int) ∧ al = .bool b2 ∧ (b2 = true ↔ likeT L k ∨ ∃ j', j' < j ∧ likeAt (lev L k) j') ∧ Below w2.heap.size w2 wr) (fun _ i _ => q + 3 - (intOf i).toNat)
      case atStart => exact ⟨0, b, by omega, rfl, rfl, by rw [HBk.out]; simp, hbr⟩
      case round =>
        obtain ⟨j, b2, hj, rfl, rfl, hb2, hbr2⟩ := hrel
        obtain ⟨i, hi⟩ : ∃ i, 2 * j = i := ⟨_, rfl⟩
        obtain ⟨d, hd⟩ : ∃ d, i + 1 = d := ⟨_, rfl⟩
        rw [hi]
        have hq9 := HQ.out
        have HB3 := Lib.hid hb2
        have HI := Lib.hid hi
        have HD := Lib.hid hd
        have hcj := (HSk.out _ hbr2).1
        have k14 : IntKind.i64.wrap ((i : Int) + 1) = (d : Int) := by rw [IntKind.wrap_i64]; omega
        by_cases hdq : d < q
        · have k20 : (d : Int) < (q : Int) := by omega
          have k21 : (i : Int) < (q : Int) := by omega
          have k22 : 0 ≤ (i : Int) := by omega
          have k23 : 0 ≤ (d : Int) := by omega
          have k24 : IntKind.i64.wrap ((i : Int) + 2) = ((i + 2 : Nat) : Int) := by rw [IntKind.wrap_i64]; omega
          have k25 : i < q := by omega
          have k26 : d < q := hdq
          obtain ⟨f1, hf1⟩ : ∃ f, (lev L k)[i]? = some f := ⟨_, List.getElem?_eq_getElem (by have := HLk.out; omega)⟩
          obtain ⟨f2, hf2⟩ : ∃ f, (lev L k)[d]? = some f := ⟨_, List.getElem?_eq_getElem (by have := HLk.out; omega)⟩
          have HL1 := Lib.hid hf1
          have HL2 := Lib.hid hf2
          have hlike : likeAt (lev L k) j ↔ hl f1 = hl f2 := by
            unfold likeAt
            rw [HLk.out, hi, hd, List.getD_eq_getElem?_getD, List.getD_eq_getElem?_getD, hf1, hf2]
            simp [hdq]
          have HLi := Lib.hid hlike
          obtain ⟨t1, ht⟩ : ∃ t, (hl f1 == hl f2) = t := ⟨_, rfl⟩
          have heq := eq_h f1 f2 t1 ht
          have HTt := Lib.hid ht
          clear hf1 hf2 hlike ht hq9 hi hd hb2
          cases b2
          · go_wp2
            refine wp_plan (fun x => x.cell? ⟨bl, ol + k, none⟩ = some (.slice (some ⟨ak, bk, none⟩) q ck) ∧ Row x (some ⟨ak, bk, none⟩) q ck 32 (hsL (lev L k))) [] [0, 1, 2, 3, 4, 5, 6, 7, 8, 9, 10, 11, 12, 13, 14, 15, 16, 17, 18, 19] (by kernel_rfl) (by kernel_rfl) (HSk.out _ hbr2.drew) (fun hHeld => ?_)
            iterate 8 (refine wpT_take rfl (by rfl) (by rfl) (by intro w' hSw; (try dsimp only [Mem, cellsAt] at hSw); go_simp; (try with_reducible rfl)) (by assumption) ?_; (try simp only [Act.put, List.setIfInBounds_toArray, List.set_cons_zero, List.set_cons_succ]))
            (refine wpT_yield rfl (by rfl) (Go.yieldsIf_load_mid (by rfl) 23 (.tmp 37) rfl ak ((bk + i * 32)) rfl (b8l f1 32) _ (fun w' h' => hs_range h'.2 HL1.out) Tryd.underlying23 rfl (by rw [b8l_len]; kernel_rfl)) (by assumption) ?_; (try simp only [Act.put, List.setIfInBounds_toArray, List.set_cons_zero, List.set_cons_succ]))
            iterate 7 (refine wpT_take rfl (by rfl) (by rfl) (by intro w' hSw; (try dsimp only [Mem, cellsAt] at hSw); go_simp; (try with_reducible rfl)) (by assumption) ?_; (try simp only [Act.put, List.setIfInBounds_toArray, List.set_cons_zero, List.set_cons_succ]))
            (refine wpT_yield rfl (by rfl) (Go.yieldsIf_load_mid (by rfl) 23 (.tmp 45) rfl ak ((bk + d * 32)) rfl (b8l f2 32) _ (fun w' h' => hs_range h'.2 HL2.out) Tryd.underlying23 rfl (by rw [b8l_len]; kernel_rfl)) (by assumption) ?_; (try simp only [Act.put, List.setIfInBounds_toArray, List.set_cons_zero, List.set_cons_succ]))
            iterate 3 (refine wpT_take rfl (by rfl) (by rfl) (by intro w' hSw; (try dsimp only [Mem, cellsAt] at hSw); go_simp; (try with_reducible rfl)) (by assumption) ?_; (try simp only [Act.put, List.setIfInBounds_toArray, List.set_cons_zero, List.set_cons_succ]))
            (refine wpT_nil ?_)
            go_wp2
            refine ⟨⟨j + 1, t1, by have := HI.out; have := HD.out; omega, by have := HI.out; subst this; first | rfl | go_num | (congr 1), rfl, ?_, hbr2.drew⟩, by simp [intOf]; omega⟩
            have h1 := HB3.out
            have h2 := HLi.out
            have h3 := HTt.out
            have h4 : t1 = true ↔ likeAt (lev L k) j := by rw [h2, ← h3]; simp
            rw [h4]
            constructor
            · intro h; exact .inr ⟨j, by omega, h⟩
            · rintro (h | ⟨j', hj', h⟩)
              · exact absurd (h1.2 (.inl h)) (by simp)
              · rcases Nat.lt_or_ge j' j with h5 | h5
                · exact absurd (h1.2 (.inr ⟨j', h5, h⟩)) (by simp)
                · rw [show j = j' by omega]; exact h
          · go_wp2
            refine wp_plan (fun x => x.cell? ⟨bl, ol + k, none⟩ = some (.slice (some ⟨ak, bk, none⟩) q ck) ∧ Row x (some ⟨ak, bk, none⟩) q ck 32 (hsL (lev L k))) [] [0, 1, 2, 3, 4, 5, 6, 7, 8, 9, 10, 11, 12, 13, 14, 15, 16, 17, 18, 19] (by kernel_rfl) (by kernel_rfl) (HSk.out _ hbr2.drew) (fun hHeld => ?_)
            iterate 2 (refine wpT_take rfl (by rfl) (by rfl) (by intro w' hSw; (try dsimp only [Mem, cellsAt] at hSw); go_simp; (try with_reducible rfl)) (by assumption) ?_; (try simp only [Act.put, List.setIfInBounds_toArray, List.set_cons_zero, List.set_cons_succ]))
            iterate 16 (refine wpT_pass rfl (by rfl) (by rfl) (by assumption) ?_; (try simp only [Act.put, List.setIfInBounds_toArray, List.set_cons_zero, List.set_cons_succ]))
            iterate 2 (refine wpT_take rfl (by rfl) (by rfl) (by intro w' hSw; (try dsimp only [Mem, cellsAt] at hSw); go_simp; (try with_reducible rfl)) (by assumption) ?_; (try simp only [Act.put, List.setIfInBounds_toArray, List.set_cons_zero, List.set_cons_succ]))
            (refine wpT_nil ?_)
            go_wp2
            refine ⟨⟨j + 1, true, by have := HI.out; have := HD.out; omega, by have := HI.out; subst this; first | rfl | go_num | (congr 1), rfl, ?_, hbr2.drew⟩, by simp [intOf]; omega⟩
            have h1 := HB3.out.1 (by simp)
            refine ⟨fun _ => ?_, fun _ => rfl⟩
            rcases h1 with h | ⟨j', hj', h⟩
            · exact .inl h
            · exact .inr ⟨j', by omega, h⟩
        · have k20 : ¬ (d : Int) < (q : Int) := by omega
          clear hi hd hb2 hq9
          go_wp2
          refine ⟨⟨k + 1, b2, by omega, by first | rfl | go_num | (congr 1), rfl, ?_, hbr2⟩, by simp [intOf]; omega⟩
          rw [HB3.out, likeT_step]
          constructor
          · rintro (h | ⟨j', _, h⟩)
            · exact .inl h
            · exact .inr ⟨j', h⟩
          · rintro (h | ⟨j', h⟩)
            · exact .inl h
            · refine .inr ⟨j', ?_, h⟩
              have := h.1
              rw [HLk.out] at this
              have := HI.out
              have := HD.out
              omega
    · have k10 : ¬ (k : Int) < (N : Int) := by omega
      have hkN : k = N := by omega
      subst hkN
      obtain ⟨a9, ha9⟩ : ∃ x, A t = x := ⟨_, rfl⟩
      obtain ⟨b9, hb9⟩ : ∃ x, B t = x := ⟨_, rfl⟩
      obtain ⟨c9, hc9⟩ : ∃ x, C t = x := ⟨_, rfl⟩
      have hS9 : wr.cell? ⟨bl, ol + t, none⟩ = some (.slice (some ⟨a9, b9, none⟩) 1 c9) ∧ Row wr (some ⟨a9, b9, none⟩) 1 c9 32 (hsL (lev L t)) := by
        have := (HV2.out.later hbr) t k8
        have h3 := wid_top (n := n) HNs.out.2.1
        rw [HNs.out.2.2.2.1] at h3
        rw [ha9, hb9, hc9, h3] at this
        exact this
      have hc9' := hS9.1
      have HR9 := Lib.hid (hs_range0r hS9.2 HLt.out)
      have hM := Lib.hid (Mem.later hbr HM2.out)
      have hB := bl_then HB2.out hbr
      have hF : True := trivial
      clear ha9 hb9 hc9 hS9
      go_wp2_with (first |
        ((with_reducible_and_instances refine at_load 55 ?_); refine Go.wpList_load_mid rfl 23 (.tmp 55) rfl a9 b9 rfl (b8l R 32) _ HR9.out Tryd.underlying23 rfl (by rw [b8l_len]; kernel_rfl) ?_) |
        ((with_reducible_and_instances refine at_store 2 ?_); refine wpList_over rfl (.tmp 2) (.tmp 56) 23 rfl w.heap.size (b8l R 32) _ rfl rfl _ Tryd.underlying23 rfl (by rw [b8l_len]; kernel_rfl) (L := []) ⟨hM.out.1, trivial⟩ (by simp) (by rw [b8l_len, b8l_len]) (b8l_one R 32) hB (Nat.le_refl _) ?_; intro W3 hm3 hb3; clear hM hB hF; have hM := Lib.hid hm3; have hB := hb3; have hF : True := trivial; clear hm3 hb3))
      have hl2 := Go.run_loadVar_mid (P := Tryd.prog) W3 w.heap.size 0 23 (b8l R 32) _ (rangeAt_of hM.out.1.2.2) Tryd.underlying23 rfl (by rw [b8l_len]; kernel_rfl)
      refine bodyPost_ret (v := .tuple #[arr32 R, .bool b]) (by simp [results, Tryd.results45, asAddr, hl2, Act.put, Result.andThen]; try rfl) rfl ⟨?_, hB⟩
      rw [tw_of HLn.out HlN.out HBk.out]
end Go.Proofs.YtddcceifblpmbaaDoor

/- florinref10.Branch. (hM) -/
namespace Go.Proofs.YtddcceifblpmbaaDoor
set_option linter.unusedVariables false
set_option linter.unusedSimpArgs false
open Go.RowKit

def R10Rel (w2 : World) (L : List HF) (t i0 : Nat) (i out h : Value) (wr : World) : Prop :=
  ∃ (k : Nat) (lo : Option Addr) (cp : Nat), k ≤ t ∧ h = .int .i64 (k : Int) ∧ i = .int .i64 ((i0 / 2 ^ k : Nat) : Int) ∧ out = .slice lo k cp ∧ OwnN w2.heap.size 23 32 wr lo k cp (hsL (brL L i0 k)) ∧ Below w2.heap.size w2 wr

set_option maxRecDepth 100000 in
set_option maxHeartbeats 8000000 in
theorem rbranch_yes (ao : Option Addr) (n c : Nat) (L : List HF) (i0 : Nat) (w : World) (h : Row w ao n c 32 (hsL L)) (hL : ∀ f ∈ L, HB f) (hi0 : i0 < n) (h4 : n ≤ 4096) :
    Calls Tryd.prog 47 #[.slice ao n c, .int .i64 (i0 : Int)] w (BrPost w L n i0) := by
  have hln := hs_len h
  obtain ⟨t, htt⟩ : ∃ t, hgt n = t := ⟨_, rfl⟩
  obtain ⟨N, hNN⟩ : ∃ N, t + 1 = N := ⟨_, rfl⟩
  have hh := hgt_small 12 n (by simp; omega)
  rw [htt] at hh
  have HLv := Lib.hid (show Calls Tryd.prog 50 #[.slice ao n c] w fun e w' => ∃ (bl ol cp : Nat) (A B C : Nat → Nat), e = .returned (.slice (some ⟨bl, ol, none⟩) N cp) ∧ LvG L n N bl ol A B C w' ∧ Below w.heap.size w w' from by
    have := rlevels_yes ao n c L _ h hL (by omega) h4
    rw [htt, hNN] at this
    exact this)
  have HCl := Lib.hid (show ∀ k, i0 / 2 ^ k < wid n k from fun k => by have := (climb_lev (L := L) (i := i0) (by omega) k).2; rwa [hln] at this)
  have HLn := Lib.hid hln
  have HNs := Lib.hid (And.intro h4 (And.intro (show 1 ≤ n by omega) (And.intro hh (And.intro htt hNN))))
  have e1 : ¬ (i0 : Int) < 0 := by omega
  have e2 : ¬ (n : Int) ≤ (i0 : Int) := by omega
  have e3 : decide ((i0 : Int) < 0) = false := by simp
  have e4 : decide (n ≤ i0) = false := by simp; omega
  have e5 : decide ((n : Int) ≤ (i0 : Int)) = false := by simp; omega
  have k2 : ((N : Int) == 0) = false := by simp; omega
  have k6 : IntKind.i64.wrap ((N : Int) - 1) = (t : Int) := by rw [IntKind.wrap_i64]; omega
  clear h hL h4 hln hh htt hNN hi0
  go_enter Tryd.func47, Tryd.ntmps47
  go_wp2_with (first |
    (go_at_call 50; (refine (HLv.out).mono ?_); rintro e w2 ⟨bl, ol, cp, A, B, C, rfl, hlv, hb2⟩; have HV2 := Lib.hid hlv; have HB2 := Lib.hid hb2; clear hlv hb2))
  go_loopw [1, 7, 8, 9] (fun i out h _ wr => R10Rel w2 L t i0 i out h wr) (fun _ _ h _ _ => t + 1 - (intOf h).toNat)
  case atStart => exact ⟨0, none, 0, Nat.zero_le _, rfl, by simp, rfl, by simpa [brL, hsL] using ownN_nil _ _ _ _, Below.refl _ _⟩
  case round =>
    obtain ⟨k, lo, cpo, hk, rfl, rfl, rfl, hown, hbr⟩ := hrel
    obtain ⟨m, hm⟩ : ∃ m, i0 / 2 ^ k = m := ⟨_, rfl⟩
    rw [hm]
    have HO := Lib.hid hown
    clear hown
    by_cases hlt : k < t
    · obtain ⟨q, hq⟩ : ∃ q, wid n k = q := ⟨_, rfl⟩
      obtain ⟨ak, hak⟩ : ∃ x, A k = x := ⟨_, rfl⟩
      obtain ⟨bk, hbk⟩ : ∃ x, B k = x := ⟨_, rfl⟩
      obtain ⟨ck, hck⟩ : ∃ x, C k = x := ⟨_, rfl⟩
      have hn := HNs.out
      have hmq : m < q := by rw [← hm, ← hq]; exact HCl.out k
      have hqn : q ≤ 4096 := by rw [← hq]; exact Nat.le_trans (wid_le n hn.2.1 k) hn.1
      have hlk : (lev L k).length = q := by rw [lev_len, HLn.out, hq]
      obtain ⟨s, hs⟩ : ∃ s, sibN q m = s := ⟨_, rfl⟩
      have hsq : s < q := by rw [← hs]; exact sib_lt hmq
      obtain ⟨f, hf⟩ : ∃ f, (lev L k)[s]? = some f := ⟨_, List.getElem?_eq_getElem (by omega)⟩
      have hbr1 : hsL (brL L i0 (k + 1)) = hsL (brL L i0 k) ++ b8l f 32 := by
        rw [brL, HLn.out, hq, hm, hs, List.getD_eq_getElem?_getD, hf, hsL_app]
        simp [hsL]
      have HBr1 := Lib.hid hbr1
      have HSk := Lib.hid (show wr.cell? ⟨bl, ol + k, none⟩ = some (.slice (some ⟨ak, bk, none⟩) q ck) ∧ Row wr (some ⟨ak, bk, none⟩) q ck 32 (hsL (lev L k)) from by have := (HV2.out.later hbr) k (by omega); rw [hak, hbk, hck, hq] at this; exact this)
      have hcj := HSk.out.1
      have HRg := Lib.hid (hs_range HSk.out.2 hf)
      obtain ⟨m2, hm2⟩ : ∃ m2, m / 2 = m2 := ⟨_, rfl⟩
      have HM2 := Lib.hid (show i0 / 2 ^ (k + 1) = m2 by rw [Nat.pow_succ, ← Nat.div_div_eq_div_mul, hm, hm2])
      obtain ⟨d, hd⟩ : ∃ d, m + 1 = d := ⟨_, rfl⟩
      obtain ⟨e, he⟩ : ∃ e, q - 1 = e := ⟨_, rfl⟩
      have k10 : (k : Int) < (t : Int) := by omega
      have k11 : 0 ≤ (k : Int) := by omega
      have k12 : k < N := by omega
      have k12' : (k : Int) < (N : Int) := by omega
      have k13 : IntKind.i64.wrap ((k : Int) + 1) = ((k + 1 : Nat) : Int) := by rw [IntKind.wrap_i64]; omega
      have k14 : IntKind.i64.wrap ((m : Int) + 1) = (d : Int) := by rw [IntKind.wrap_i64]; omega
      have k15 : IntKind.i64.wrap ((q : Int) - 1) = (e : Int) := by rw [IntKind.wrap_i64]; omega
      have k16 : (s : Int) < (q : Int) := by omega
      have k17 : 0 ≤ (s : Int) := by omega
      have k18 : s < q := hsq
      have hd1 : (m : Int).tdiv 2 = (m2 : Int) := by rw [Int.tdiv_eq_ediv_of_nonneg (by omega)]; omega
      have hd2 : (m : Int) / 2 = (m2 : Int) := by omega
      have hd3 : IntKind.i64.wrap (m2 : Int) = (m2 : Int) := by rw [IntKind.wrap_i64]; omega
      have HKk := Lib.hid (show k ≤ 12 by omega)
      by_cases ho : m % 2 = 0
      · have hse : s = if d < q then d else m := by rw [← hs, sib_even ho, hd]
        have k20 : (m : Int).tmod 2 = 0 := by rw [Int.tmod_eq_emod_of_nonneg (by omega)]; omega
        have k21 : min (d : Int) (e : Int) = (s : Int) := by rw [hse]; split <;> omega
        have k22 : (if (d : Int) < (e : Int) then (d : Int) else (e : Int)) = (s : Int) := by rw [hse]; split <;> split <;> omega
        clear ho hse hm2 hd he hbr1 hf hs hsq hlk hqn hmq hn hak hbk hck hq hm
        go_wp2_with (first |
          ((with_reducible_and_instances refine at_load 52 ?_); refine Go.wpList_load_mid rfl 23 (.tmp 52) rfl ak (bk + s * 32) rfl (b8l f 32) _ HRg.out Tryd.underlying23 rfl (by rw [b8l_len]; kernel_rfl) ?_) |
          (with_reducible_and_instances refine at_bslice ?_; refine wpList_bs1 rfl (.tmp 53) f rfl rfl ?_; intro g5 W5 hr5 hb5; have HB5 := Lib.hid (bl_then hbr hb5); have HO5 := Lib.hid (HO.out.later hb5); have HR5 := Lib.hid hr5; clear hr5 hb5) |
          ((with_reducible_and_instances refine at_app 46 ?_); refine wpList_appN eltHash w2 _ HB5.out rfl (.tmp 46) (.tmp 54) rfl lo k cpo (hsL (brL L i0 k)) rfl HO5.out (some ⟨g5, 0, none⟩) 1 1 (b8l f 32) rfl HR5.out (fun _ => by decide) (by have := HKk.out; omega) ?_; intro g6 cp6 W6 hown6 hb6; have HO6 := Lib.hid hown6; have HB6 := Lib.hid hb6; clear hown6 hb6))
        exact ⟨⟨k + 1, _, _, hlt, by first | rfl | go_num | (congr 1), by rw [HM2.out], rfl, .inr ⟨g6, rfl, by rw [HBr1.out]; exact HO6.out⟩, HB6.out⟩, by simp [intOf]; omega⟩
      · have hse : s = m - 1 := by rw [← hs, sib_odd (by omega) hmq]
        have k20 : (m : Int).tmod 2 = 1 := by rw [Int.tmod_eq_emod_of_nonneg (by omega)]; omega
        have k21 : IntKind.i64.wrap ((m : Int) - 1) = (s : Int) := by rw [IntKind.wrap_i64]; omega
        clear ho hse hm2 hd he hbr1 hf hs hsq hlk hqn hmq hn hak hbk hck hq hm
        go_wp2_with (first |
          ((with_reducible_and_instances refine at_load 52 ?_); refine Go.wpList_load_mid rfl 23 (.tmp 52) rfl ak (bk + s * 32) rfl (b8l f 32) _ HRg.out Tryd.underlying23 rfl (by rw [b8l_len]; kernel_rfl) ?_) |
          (with_reducible_and_instances refine at_bslice ?_; refine wpList_bs1 rfl (.tmp 53) f rfl rfl ?_; intro g5 W5 hr5 hb5; have HB5 := Lib.hid (bl_then hbr hb5); have HO5 := Lib.hid (HO.out.later hb5); have HR5 := Lib.hid hr5; clear hr5 hb5) |
          ((with_reducible_and_instances refine at_app 46 ?_); refine wpList_appN eltHash w2 _ HB5.out rfl (.tmp 46) (.tmp 54) rfl lo k cpo (hsL (brL L i0 k)) rfl HO5.out (some ⟨g5, 0, none⟩) 1 1 (b8l f 32) rfl HR5.out (fun _ => by decide) (by have := HKk.out; omega) ?_; intro g6 cp6 W6 hown6 hb6; have HO6 := Lib.hid hown6; have HB6 := Lib.hid hb6; clear hown6 hb6))
        exact ⟨⟨k + 1, _, _, hlt, by first | rfl | go_num | (congr 1), by rw [HM2.out], rfl, .inr ⟨g6, rfl, by rw [HBr1.out]; exact HO6.out⟩, HB6.out⟩, by simp [intOf]; omega⟩
    · have k10 : ¬ (k : Int) < (t : Int) := by omega
      obtain rfl : k = t := by omega
      go_wp2
      go_ret2
      exact ⟨lo, cpo, by rw [HNs.out.2.2.2.1]; rfl, by rw [HNs.out.2.2.2.1]; exact HO.out.base HB2.out.size, bl_then HB2.out hbr⟩

set_option maxRecDepth 100000 in
set_option maxHeartbeats 8000000 in
theorem rbranch_no (ao : Option Addr) (n c : Nat) (L : List HF) (i : Int) (w : World) (h : Row w ao n c 32 (hsL L)) (hL : ∀ f ∈ L, HB f) (hi : i < 0 ∨ (n : Int) ≤ i) (h4 : n ≤ 4096) :
    Calls Tryd.prog 47 #[.slice ao n c, .int .i64 i] w fun e w' => e = .returned (.tuple #[.slice none 0 0, .bool false]) ∧ Below w.heap.size w w' := by
  obtain ⟨N, hN⟩ : ∃ N, levN n = N := ⟨_, rfl⟩
  have HLv := Lib.hid (show Calls Tryd.prog 50 #[.slice ao n c] w fun e w' => ∃ (lo : Option Addr) (cp : Nat), e = .returned (.slice lo N cp) ∧ Below w.heap.size w w' from by
    rcases Nat.eq_zero_or_pos n with h0 | h0
    · subst h0
      obtain rfl : N = 0 := by rw [← hN]; rfl
      exact (rlevels_no ao c w).mono (by rintro e w' ⟨rfl, hb⟩; exact ⟨_, _, rfl, hb⟩)
    · exact (rlevels_all ao n c L w h hL h0 h4).mono (by rintro e w' ⟨lo, cp, vs, rfl, _, _, hb⟩; exact ⟨lo, cp, by rw [hN], hb⟩))
  clear h hL h4 hN
  by_cases h1 : i < 0
  · clear hi
    go_enter Tryd.func47, Tryd.ntmps47
    go_wp2_with (first | (go_at_call 50; (refine (HLv.out).mono ?_); rintro e w2 ⟨lo, cp, rfl, hb2⟩))
    go_ret2
    exact ⟨rfl, hb2⟩
  · have h2 : (n : Int) ≤ i := by omega
    clear hi
    by_cases h3 : N = 0
    · subst h3
      go_enter Tryd.func47, Tryd.ntmps47
      go_wp2_with (first | (go_at_call 50; (refine (HLv.out).mono ?_); rintro e w2 ⟨lo, cp, rfl, hb2⟩))
      go_ret2
      exact ⟨rfl, hb2⟩
    · have k2 : ((N : Int) == 0) = false := by simp; omega
      go_enter Tryd.func47, Tryd.ntmps47
      go_wp2_with (first | (go_at_call 50; (refine (HLv.out).mono ?_); rintro e w2 ⟨lo, cp, rfl, hb2⟩))
      go_ret2
      exact ⟨rfl, hb2⟩
end Go.Proofs.YtddcceifblpmbaaDoor

/- florinref10.Same; merkle.Levels as they lie (made by gen_mkr8.py). (hM) -/
namespace Go.Proofs.YtddcceifblpmbaaDoor
set_option linter.unusedVariables false
set_option linter.unusedSimpArgs false
open Go.RowKit

theorem mlevels_yes (ao : Option Addr) (n c : Nat) (L : List HF) (w : World) (hT : Tab w) (h : Row w ao n c 32 (hsL L)) (hL : ∀ f ∈ L, HB f) (h1 : 1 ≤ n) (h4 : n ≤ 4096) :
    Calls Tryd.prog 49 #[.slice ao n c] w fun e w' => ∃ (bl ol cp : Nat) (A B C : Nat → Nat), e = .returned (.slice (some ⟨bl, ol, none⟩) (hgt n + 1) cp) ∧ LvG L n (hgt n + 1) bl ol A B C w' ∧ Below w.heap.size w w' := by
  have hl := hs_len h
  have hN : levN n = hgt n + 1 := by unfold levN; rw [if_neg (by omega)]
  refine (levelsAll_any ao n c L w hT h hL).mono ?_
  rintro e w' ⟨lo, cp, vs, rfl, hr, hv, hB⟩
  rw [hN] at hr ⊢
  have hvl : vs.length = hgt n + 1 := by have := hr.len; omega
  obtain ⟨bl, ol, rfl⟩ := row_addr hr (by intro e; rw [e] at hvl; simp at hvl)
  have key : ∀ j, ∃ x : Nat × Nat × Nat, j < hgt n + 1 → w'.cell? ⟨bl, ol + j, none⟩ = some (.slice (some ⟨x.1, x.2.1, none⟩) (wid n j) x.2.2) ∧ Row w' (some ⟨x.1, x.2.1, none⟩) (wid n j) x.2.2 32 (hsL (lev L j)) := by
    intro j
    by_cases hj : j < hgt n + 1
    · obtain ⟨v, hvj⟩ : ∃ v, vs[j]? = some v := ⟨_, List.getElem?_eq_getElem (by omega)⟩
      obtain ⟨aj, q, cj, rfl, hrow⟩ := hv j v hvj
      have hq : q = wid n j := by have := hs_len hrow; rw [lev_len, hl] at this; exact this.symm
      subst hq
      have hne : hsL (lev L j) ≠ [] := by
        intro e
        have := congrArg List.length e
        rw [hsL_len, lev_len, hl] at this
        have := wid_pos (n := n) h1 j
        simp at *
        omega
      obtain ⟨x, y, rfl⟩ := row_addr hrow hne
      exact ⟨⟨x, y, cj⟩, fun _ => ⟨(hr.cells _ rfl j _ hvj).2, hrow⟩⟩
    · exact ⟨⟨0, 0, 0⟩, fun h => absurd h hj⟩
  exact ⟨bl, ol, cp, fun j => (key j).choose.1, fun j => (key j).choose.2.1, fun j => (key j).choose.2.2, rfl, fun j hj => (key j).choose_spec hj, hB⟩


theorem mlevels_no (ao : Option Addr) (c : Nat) (L : List HF) (w : World) (hT : Tab w) (h : Row w ao 0 c 32 (hsL L)) (hL : ∀ f ∈ L, HB f) :
    Calls Tryd.prog 49 #[.slice ao 0 c] w fun e w' => ∃ (lo : Option Addr) (cp : Nat), e = .returned (.slice lo 0 cp) ∧ Below w.heap.size w w' := by
  refine (levelsAll_any ao 0 c L w hT h hL).mono ?_
  rintro e w' ⟨lo, cp, vs, rfl, _, _, hB⟩
  exact ⟨lo, cp, rfl, hB⟩

set_option maxRecDepth 100000 in
set_option maxHeartbeats 8000000 in
theorem rsame_no (lo lm : Option Addr) (cp cq : Nat) (w : World) : Calls Tryd.prog 48 #[.slice lo 0 cp, .slice lm 0 cq] w fun e w' => e = .returned (.bool true) ∧ Below w.heap.size w w' := by
  go_enter Tryd.func48, Tryd.ntmps48
  go_wp2
  go_loopw [5] (fun i wr => i = .int .i64 0 ∧ Below w.heap.size w wr) (fun _ _ => 0)
  case atStart => exact ⟨rfl, Below.refl _ _⟩
  case round =>
    obtain ⟨rfl, hbr⟩ := hrel
    go_wp2
    go_ret
    exact ⟨rfl, hbr⟩

set_option maxRecDepth 100000 in
set_option maxHeartbeats 8000000 in
theorem rsame_yes (L : List HF) (n N bl ol cp bm om cq : Nat) (A B C A' B' C' : Nat → Nat) (w : World) (h1 : LvG L n N bl ol A B C w) (h2 : LvG L n N bm om A' B' C' w) (hn : n ≤ 4096) (hn1 : 1 ≤ n) (hN : N ≤ 13) :
    Calls Tryd.prog 48 #[.slice (some ⟨bl, ol, none⟩) N cp, .slice (some ⟨bm, om, none⟩) N cq] w fun e w' => e = .returned (.bool true) ∧ Below w.heap.size w w' := by
  have HV1 := Lib.hid h1
  have HV2 := Lib.hid h2
  have HN := Lib.hid (And.intro hn (And.intro hn1 hN))
  clear h1 h2 hn hn1 hN
  go_enter Tryd.func48, Tryd.ntmps48
  go_wp2
  go_loopw [5] (fun i wr => ∃ k : Nat, k ≤ N ∧ i = .int .i64 (k : Int) ∧ Below w.heap.size w wr) (fun i _ => N + 1 - (intOf i).toNat)
  case atStart => exact ⟨0, Nat.zero_le _, rfl, Below.refl _ _⟩
  case round =>
    obtain ⟨i, hi, rfl, hbr⟩ := hrel
    by_cases hlt : i < N
    · obtain ⟨q, hq⟩ : ∃ q, wid n i = q := ⟨_, rfl⟩
      obtain ⟨a1, ha1⟩ : ∃ x, A i = x := ⟨_, rfl⟩
      obtain ⟨b1, hb1⟩ : ∃ x, B i = x := ⟨_, rfl⟩
      obtain ⟨c1, hc1⟩ : ∃ x, C i = x := ⟨_, rfl⟩
      obtain ⟨a2, ha2⟩ : ∃ x, A' i = x := ⟨_, rfl⟩
      obtain ⟨b2, hb2⟩ : ∃ x, B' i = x := ⟨_, rfl⟩
      obtain ⟨c2, hc2⟩ : ∃ x, C' i = x := ⟨_, rfl⟩
      have hn := HN.out
      have hqn : q ≤ 4096 := by rw [← hq]; exact Nat.le_trans (wid_le n hn.2.1 i) hn.1
      have hall : ∀ x : World, Below w.heap.size w x → (x.cell? ⟨bl, ol + i, none⟩ = some (.slice (some ⟨a1, b1, none⟩) q c1) ∧ x.cell? ⟨bm, om + i, none⟩ = some (.slice (some ⟨a2, b2, none⟩) q c2)) ∧ Row x (some ⟨a1, b1, none⟩) q c1 32 (hsL (lev L i)) ∧ Row x (some ⟨a2, b2, none⟩) q c2 32 (hsL (lev L i)) := fun x hb => by
        have e1 := (HV1.out.later hb) i hlt
        have e2 := (HV2.out.later hb) i hlt
        rw [ha1, hb1, hc1, hq] at e1
        rw [ha2, hb2, hc2, hq] at e2
        exact ⟨⟨e1.1, e2.1⟩, e1.2, e2.2⟩
      have HSi := Lib.hid (fun (x : World) (hb : Below w.heap.size w x) => (hall x hb).1)
      have HSm := Lib.hid (fun (x : World) (hb : Below w.heap.size w x) => same3_yes (some ⟨a1, b1, none⟩) (some ⟨a2, b2, none⟩) q c1 c2 (lev L i) x (hall x hb).2.1 (hall x hb).2.2 (by omega))
      have k1 : (i : Int) < (N : Int) := by omega
      have k2 : 0 ≤ (i : Int) := by omega
      have k3 : IntKind.i64.wrap ((i : Int) + 1) = ((i + 1 : Nat) : Int) := by rw [IntKind.wrap_i64]; omega
      have k4 : i < N := hlt
      clear hq ha1 hb1 hc1 ha2 hb2 hc2 hall hn hqn
      go_wp2
      refine wp_plan (fun x => x.cell? ⟨bl, ol + i, none⟩ = some (.slice (some ⟨a1, b1, none⟩) q c1) ∧ x.cell? ⟨bm, om + i, none⟩ = some (.slice (some ⟨a2, b2, none⟩) q c2)) [8] [0, 1, 2, 3, 4, 5, 6, 7, 8, 9] (by kernel_rfl) (by kernel_rfl) (HSi.out _ hbr.drew) (fun hHeld => ?_)
      iterate 8 (refine wpT_take rfl (by rfl) (by rfl) (by intro w' hSw; (try dsimp only [Mem, cellsAt] at hSw); go_simp; (try with_reducible rfl)) (by assumption) ?_; (try simp only [Act.put, List.setIfInBounds_toArray, List.set_cons_zero, List.set_cons_succ]))
      (refine wpT_step rfl (by rfl) (fun K hK => ?_); go_simp)
      ((with_reducible refine (HSm.out _ hbr.drew).mono ?_); rintro e v1 ⟨rfl, hb⟩; have hbr3 := bl_then hbr.drew hb; clear hb; (refine hK.out _ _ _ (fun _ h => h) (HSi.out _ hbr3) (fun hHeld => ?_); clear hK; clear K; (try simp only [Act.put, List.setIfInBounds_toArray, List.set_cons_zero, List.set_cons_succ])))
      iterate 1 (refine wpT_take rfl (by rfl) (by rfl) (by intro w' hSw; (try dsimp only [Mem, cellsAt] at hSw); go_simp; (try with_reducible rfl)) (by assumption) ?_; (try simp only [Act.put, List.setIfInBounds_toArray, List.set_cons_zero, List.set_cons_succ]))
      (refine wpT_nil ?_)
      go_wp2
      refine ⟨⟨i + 1, by omega, by first | rfl | go_num | (congr 1), hbr3⟩, by simp [intOf]; omega⟩
    · have k1 : ¬ (i : Int) < (N : Int) := by omega
      go_wp2
      go_ret
      exact ⟨rfl, hbr⟩
end Go.Proofs.YtddcceifblpmbaaDoor

/- florinref10.Width, Height. (hM) -/
namespace Go.Proofs.YtddcceifblpmbaaDoor
set_option linter.unusedVariables false
set_option linter.unusedSimpArgs false
open Go.RowKit

set_option maxRecDepth 100000 in
theorem rwidth_any (n h : Int) (w : World) : Calls Tryd.prog 55 #[.int .i64 n, .int .i64 h] w fun e w' => e = .returned (.int .i64 ((widN n h : Nat) : Int)) ∧ w = w' := by
  by_cases h0 : h < 0
  · unfold widN
    rw [if_pos h0]
    go_enter Tryd.func55, Tryd.ntmps55
    go_wp2
    go_ret
    exact ⟨rfl, rfl⟩
  obtain ⟨x, hx⟩ : ∃ x : Nat, min n.toNat 4096 = x := ⟨_, rfl⟩
  obtain ⟨H, hH⟩ : ∃ H : Nat, min h.toNat 12 = H := ⟨_, rfl⟩
  have hv : widN n h = (x + 2 ^ H - 1) / 2 ^ H := by unfold widN; rw [if_neg h0, hx, hH, wid_eq]
  obtain ⟨r0, hr0⟩ : ∃ r, (x + 2 ^ H - 1) / 2 ^ H = r := ⟨_, rfl⟩
  rw [hv, hr0]
  have HR0 := Lib.hid hr0
  clear hr0
  have hx1 : x ≤ 4096 := by omega
  have hH1 : H ≤ 12 := by omega
  have hm1 : max 0 (min n 4096) = (x : Int) := by omega
  have HX := Lib.hid (And.intro hx1 (And.intro hH1 (And.intro hH (show 0 ≤ h by omega))))
  clear hv hx hH hx1 hH1
  go_enter Tryd.func55, Tryd.ntmps55
  go_wp2
  go_loopw [5, 6] (fun p i wr => w = wr ∧ ∃ k : Nat, k ≤ H ∧ p = .int .i64 ((2 ^ k : Nat) : Int) ∧ i = .int .i64 (k : Int)) (fun _ i _ => 20 - (intOf i).toNat)
  case atStart => exact ⟨rfl, 0, Nat.zero_le _, rfl, rfl⟩
  case round =>
    obtain ⟨rfl, k, hk, rfl, rfl⟩ := hrel
    obtain ⟨hx1, hH1, hH, hh⟩ := HX.out
    obtain ⟨p, hp⟩ : ∃ p : Nat, 2 ^ k = p := ⟨_, rfl⟩
    have hp1 : 1 ≤ p := by rw [← hp]; exact Nat.one_le_two_pow
    have hp2 : p ≤ 4096 := by rw [← hp]; show 2 ^ k ≤ 2 ^ 12; exact Nat.pow_le_pow_right (by omega) (by omega)
    rw [hp]
    by_cases hlt : k < H
    · have k1 : (k : Int) < h := by have h1 : k < min h.toNat 12 := (by rw [hH]; exact hlt); omega
      have k2 : (k : Int) < 12 := by omega
      have k3 : IntKind.i64.wrap ((p : Int) * 2) = ((p * 2 : Nat) : Int) := by rw [IntKind.wrap_i64]; omega
      have k4 : IntKind.i64.wrap ((k : Int) + 1) = ((k + 1 : Nat) : Int) := by rw [IntKind.wrap_i64]; omega
      have HP := Lib.hid (show 2 ^ (k + 1) = p * 2 by rw [Nat.pow_succ, hp])
      clear hp hx1 hH1 hH
      go_wp2
      refine ⟨⟨trivial, k + 1, by omega, by rw [HP.out]; first | rfl | go_num, by first | rfl | go_num⟩, by have := HX.out; simp only [intOf]; omega⟩
    · have hkH : k = H := by omega
      have HP := Lib.hid (show 2 ^ H = p by rw [← hkH, hp])
      obtain ⟨y, hy⟩ : ∃ y, x + p - 1 = y := ⟨_, rfl⟩
      obtain ⟨r, hr⟩ : ∃ r, y / p = r := ⟨_, rfl⟩
      have k3 : IntKind.i64.wrap ((x : Int) + (p : Int)) = ((x + p : Nat) : Int) := by rw [IntKind.wrap_i64]; omega
      have k4 : IntKind.i64.wrap ((x : Int) + (p : Int) - 1) = (y : Int) := by rw [IntKind.wrap_i64]; omega
      have k4' : IntKind.i64.wrap (((x + p : Nat) : Int) - 1) = (y : Int) := by rw [IntKind.wrap_i64]; omega
      have k5 : (y : Int).tdiv (p : Int) = (r : Int) := by rw [Int.tdiv_eq_ediv_of_nonneg (by omega), ← hr]; rfl
      have k5' : (y : Int) / (p : Int) = (r : Int) := by rw [← hr]; rfl
      have k6 : ¬ (p : Int) = 0 := by omega
      have k7 : ((p : Int) == 0) = false := by simp; omega
      have hrb : r ≤ 10000 := by rw [← hr]; exact Nat.le_trans (Nat.div_le_self _ _) (by omega)
      have k8 : IntKind.i64.wrap (r : Int) = (r : Int) := by rw [IntKind.wrap_i64]; omega
      have HR := Lib.hid (show r0 = r by rw [← HR0.out, HP.out, hy, hr])
      have hor : ¬ (k : Int) < h ∨ ((k : Int) < h ∧ ¬ (k : Int) < 12) := by omega
      clear hp hr hy hrb hx1 hH1 hH hkH hlt hk
      rcases hor with k1 | ⟨k1, k2⟩
      · go_wp2
        go_ret
        exact ⟨by rw [HR.out]; rfl, rfl⟩
      · go_wp2
        go_ret
        exact ⟨by rw [HR.out]; rfl, rfl⟩

set_option maxRecDepth 100000 in
theorem rheight_any (n : Int) (w : World) : Calls Tryd.prog 57 #[.int .i64 n] w fun e w' => e = .returned (.int .i64 ((hgtN n : Nat) : Int)) ∧ w = w' := by
  have HH := Lib.hid (hgtN_le n)
  go_enter Tryd.func57, Tryd.ntmps57
  go_wp2
  go_loopw [3] (fun i wr => w = wr ∧ ∃ k : Nat, i = .int .i64 (k : Int) ∧ k ≤ hgtN n) (fun i _ => 20 - (intOf i).toNat)
  case atStart => exact ⟨rfl, 0, rfl, Nat.zero_le _⟩
  case round =>
    obtain ⟨rfl, k, rfl, hk⟩ := hrel
    have HW := Lib.hid (rwidth_any n (k : Int) w)
    have hw := widN_nat n k (by have := HH.out; omega)
    have HK := Lib.hid hk
    have hkw : IntKind.i64.wrap ((k : Int) + 1) = ((k + 1 : Nat) : Int) := by rw [IntKind.wrap_i64]; have := HH.out; omega
    by_cases h1 : 1 < widN n (k : Int)
    · have hx : k < hgtN n := by
        rcases Nat.lt_or_ge k (hgtN n) with h | h
        · exact h
        · rw [hw, show k = hgt (min n.toNat 4096) from by have : hgtN n = hgt (min n.toNat 4096) := rfl; omega] at h1
          by_cases h0 : min n.toNat 4096 = 0
          · rw [h0, wid_zero] at h1; omega
          · rw [wid_top (by omega)] at h1; omega
      have HX := Lib.hid hx
      obtain ⟨q, hq⟩ : ∃ q, widN n (k : Int) = q := ⟨_, rfl⟩
      rw [hq] at HW h1
      have h1i : (1 : Int) < (q : Int) := by omega
      clear hw hk hx hq
      go_wp2_with (go_at_call 55; (with_reducible refine (HW.out).mono ?_); rintro e w1 ⟨rfl, rfl⟩)
      refine ⟨⟨trivial, k + 1, by first | rfl | go_num | (congr 1), HX.out⟩, by have := HH.out; have := HX.out; simp only [intOf]; omega⟩
    · have hx : k = hgtN n := by
        rcases Nat.lt_or_ge k (hgtN n) with h | h
        · rw [hw] at h1; exact absurd (wid_low h) h1
        · omega
      have HX := Lib.hid hx
      obtain ⟨q, hq⟩ : ∃ q, widN n (k : Int) = q := ⟨_, rfl⟩
      rw [hq] at HW h1
      have h1i : ¬ (1 : Int) < (q : Int) := by omega
      clear hw hk hx hq
      go_wp2_with (go_at_call 55; (with_reducible refine (HW.out).mono ?_); rintro e w1 ⟨rfl, rfl⟩)
      go_ret
      exact ⟨by rw [← HX.out]; rfl, rfl⟩
end Go.Proofs.YtddcceifblpmbaaDoor

/- florinlaw10: contracts for any leaves, both sides (made by gen_mkj.py). (hM) -/
namespace Go.Proofs.YtddcceifblpmbaaDoor
set_option linter.unusedVariables false
set_option linter.unusedSimpArgs false
open Go.RowKit

set_option maxRecDepth 100000 in
/-- Branch of a place that is not there -/
theorem branch_none (ao : Option Addr) (n c : Nat) (i : Int) (w : World) (h : i < 0 ∨ (n : Int) ≤ i) :
    Calls Tryd.prog 46 #[.slice ao n c, .int .i64 i] w fun e w' => e = .returned (.tuple #[.slice none 0 0, .bool false]) ∧ Below w.heap.size w w' := by
  by_cases h1 : i < 0
  · clear h
    go_enter Tryd.func46, Tryd.ntmps46
    go_wp2
    go_ret2
    exact ⟨rfl, by (repeat (first | exact Below.refl _ _ | refine Below.drew ?_ | refine bl_drewN ?_ _ | (refine Below.alloc ?_ (by first | exact Nat.le_refl _ | (simp; done) | (simp; omega)) _)))⟩
  · have h2 : (n : Int) ≤ i := by omega
    clear h
    go_enter Tryd.func46, Tryd.ntmps46
    go_wp2
    go_ret2
    exact ⟨rfl, by (repeat (first | exact Below.refl _ _ | refine Below.drew ?_ | refine bl_drewN ?_ _ | (refine Below.alloc ?_ (by first | exact Nat.le_refl _ | (simp; done) | (simp; omega)) _)))⟩


set_option maxRecDepth 100000 in
theorem build_zro (x : World) : (Instr.build 23 #[]).run Tryd.prog x = .ok (arr32 zH) x := by kernel_rfl
theorem wpList_buildZ {P : Program} {w : World} {ops : Array Oper} {rest : List Oper} {o : Oper} {a : Act} {Q : Exit → Act → World → Prop} (hgd : o.guard = none) (T : TypeId)
    (ho : o.op = .build T #[]) (v : Value) (hb : ∀ x, (Instr.build T #[]).run P x = .ok v x) (hk : wpList P ops Q rest (a.put o.dst v) w) : wpList P ops Q (o :: rest) a w := by
  refine wpList_plain hgd fun K hK => ?_
  have hb := hb w
  unfold Oper.wp execOp
  rw [ho]
  simp only [List.map_toArray, List.map_nil]
  rw [Sem.run_bind]
  simp only [hb, Result.andThen_ok]
  exact hK _ _ hk
set_option maxRecDepth 100000 in
set_option maxHeartbeats 8000000 in
theorem rroot_no (ao : Option Addr) (c : Nat) (w : World) :
    Calls Tryd.prog 45 #[.slice ao 0 c] w fun e w' => e = .returned (.tuple #[arr32 zH, .bool false]) ∧ Below w.heap.size w w' := by
  have hM0 := Mem.al (mem_nil w) (b8l zH 32) 23
  have hB0 := bl_al (Below.refl w.heap.size w) (.cells (b8l zH 32).toArray 23)
  have HLv := Lib.hid (show Calls Tryd.prog 50 #[.slice ao 0 c] (w.alloc (.cells (b8l zH 32).toArray 23)) fun e w' => e = .returned (.slice none 0 0) ∧ Below w.heap.size w w' ∧ Mem w' [(w.heap.size, b8l zH 32)] from
    (rlevels_no ao c _).mono (by rintro e w' ⟨h1, h3⟩; exact ⟨h1, bl_then hB0 h3, Mem.later h3 hM0⟩))
  clear hM0 hB0
  go_enter Tryd.func45, Tryd.ntmps45
  go_wp2_with (first |
    (go_at_call 50; (refine (HLv.out).mono ?_); rintro e w2 ⟨rfl, hb2, hm2⟩; have hB := hb2; have hM := Lib.hid hm2; have hF : True := trivial; clear hb2 hm2) |
    (with_reducible_and_instances refine at_build ?_; refine wpList_buildZ rfl 23 rfl (arr32 zH) build_zro ?_) |
    ((with_reducible_and_instances refine at_store 2 ?_); refine wpList_over rfl (.tmp 2) (.tmp 13) 23 rfl w.heap.size (b8l zH 32) _ rfl rfl _ Tryd.underlying23 rfl (by rw [b8l_len]; kernel_rfl) (L := []) ⟨hM.out.1, trivial⟩ (by simp) rfl (b8l_one zH 32) hB (Nat.le_refl _) ?_; intro W3 hm3 hb3; clear hM hB hF; have hM := Lib.hid hm3; have hB := hb3; have hF : True := trivial; clear hm3 hb3))
  have hl2 := Go.run_loadVar_mid (P := Tryd.prog) W3 w.heap.size 0 23 (b8l zH 32) _ (rangeAt_of hM.out.1.2.2) Tryd.underlying23 rfl (by rw [b8l_len]; kernel_rfl)
  refine bodyPost_ret (v := .tuple #[arr32 zH, .bool false]) (by simp [results, Tryd.results45, asAddr, hl2, Act.put, Result.andThen]; try rfl) rfl ⟨rfl, hB⟩
theorem rroot_all (ao : Option Addr) (n c : Nat) (L : List HF) (w : World) (h : Row w ao n c 32 (hsL L)) (hL : ∀ f ∈ L, HB f) (h4 : n ≤ 4096) :
    Calls Tryd.prog 45 #[.slice ao n c] w fun e w' => e = .returned (.tuple #[arr32 (rootF L), .bool (twB L)]) ∧ Below w.heap.size w w' := by
  rcases Nat.eq_zero_or_pos n with h0 | h0
  · subst h0
    obtain rfl : L = [] := List.length_eq_zero_iff.1 (hs_len h)
    have e1 : rootF [] = zH := by unfold rootF levN; simp
    have e2 : twB [] = false := tw_false (by simp [likeT, levN])
    rw [e1, e2]
    exact rroot_no ao c w
  · exact rroot_yes ao n c L w h hL h0 h4
/-- a tree's levels, or none -/
def LvOk (L : List HF) (n N : Nat) (v : Value) (x : World) : Prop := ∃ (lo : Option Addr) (cp : Nat), v = .slice lo N cp ∧ (N = 0 ∨ ∃ (bl ol : Nat) (A B C : Nat → Nat), lo = some ⟨bl, ol, none⟩ ∧ LvG L n N bl ol A B C x)
theorem LvOk.later {L : List HF} {n N : Nat} {v : Value} {x y : World} (h : LvOk L n N v x) (hb : Below x.heap.size x y) : LvOk L n N v y := by
  obtain ⟨lo, cp, e, h⟩ := h
  refine ⟨lo, cp, e, h.imp id ?_⟩
  rintro ⟨bl, ol, A, B, C, h1, h2⟩
  exact ⟨bl, ol, A, B, C, h1, h2.later hb⟩
theorem levN_one {n : Nat} (h1 : 1 ≤ n) (h4 : n ≤ 4096) : levN n = hgt n + 1 := by unfold levN; rw [if_neg (by omega)]
theorem mlevels_all (ao : Option Addr) (n c : Nat) (L : List HF) (w : World) (hT : Tab w) (h : Row w ao n c 32 (hsL L)) (hL : ∀ f ∈ L, HB f) (h4 : n ≤ 4096) :
    Calls Tryd.prog 49 #[.slice ao n c] w fun e w' => ∃ v, e = .returned v ∧ LvOk L n (levN n) v w' ∧ Below w.heap.size w w' := by
  rcases Nat.eq_zero_or_pos n with h0 | h0
  · subst h0
    exact (mlevels_no ao c L w hT h hL).mono (by rintro e w' ⟨lo, cp, rfl, hb⟩; exact ⟨_, rfl, ⟨lo, cp, rfl, .inl rfl⟩, hb⟩)
  · rw [levN_one h0 h4]
    exact (mlevels_yes ao n c L w hT h hL h0 h4).mono (by rintro e w' ⟨bl, ol, cp, A, B, C, rfl, hv, hb⟩; exact ⟨_, rfl, ⟨_, cp, rfl, .inr ⟨bl, ol, A, B, C, rfl, hv⟩⟩, hb⟩)
theorem rlevels_lvl (ao : Option Addr) (n c : Nat) (L : List HF) (w : World) (h : Row w ao n c 32 (hsL L)) (hL : ∀ f ∈ L, HB f) (h4 : n ≤ 4096) :
    Calls Tryd.prog 50 #[.slice ao n c] w fun e w' => ∃ v, e = .returned v ∧ LvOk L n (levN n) v w' ∧ Below w.heap.size w w' := by
  rcases Nat.eq_zero_or_pos n with h0 | h0
  · subst h0
    exact (rlevels_no ao c w).mono (by rintro e w' ⟨rfl, hb⟩; exact ⟨_, rfl, ⟨none, 0, rfl, .inl rfl⟩, hb⟩)
  · rw [levN_one h0 h4]
    exact (rlevels_yes ao n c L w h hL h0 h4).mono (by rintro e w' ⟨bl, ol, cp, A, B, C, rfl, hv, hb⟩; exact ⟨_, rfl, ⟨_, cp, rfl, .inr ⟨bl, ol, A, B, C, rfl, hv⟩⟩, hb⟩)
theorem rsame_all (L : List HF) (n N : Nat) (v u : Value) (w : World) (h1 : LvOk L n N v w) (h2 : LvOk L n N u w) (hn : n ≤ 4096) (hN : N ≤ 13) (h0 : N ≠ 0 → 1 ≤ n) :
    Calls Tryd.prog 48 #[v, u] w fun e w' => e = .returned (.bool true) ∧ Below w.heap.size w w' := by
  obtain ⟨lo, cp, rfl, h1⟩ := h1
  obtain ⟨lm, cq, rfl, h2⟩ := h2
  by_cases hz : N = 0
  · subst hz
    exact rsame_no lo lm cp cq w
  · rcases h1 with h1 | ⟨bl, ol, A, B, C, rfl, h1⟩
    · exact absurd h1 hz
    rcases h2 with h2 | ⟨bm, om, A', B', C', rfl, h2⟩
    · exact absurd h2 hz
    exact rsame_yes L n N bl ol cp bm om cq A B C A' B' C' w h1 h2 hn (h0 hz) hN
/-- any branch, of both -/
theorem branch_both (ao : Option Addr) (n c : Nat) (L : List HF) (i : Int) (w : World) (hT : Tab w) (h : Row w ao n c 32 (hsL L)) (hL : ∀ f ∈ L, HB f) (h4 : n ≤ 4096) : ∃ (b : Bool) (m : Nat) (Br : List HF), m ≤ 4096 ∧
    (∀ x, Below w.heap.size w x → Calls Tryd.prog 46 #[.slice ao n c, .int .i64 i] x fun e w' => ∃ (lo : Option Addr) (cp : Nat), e = .returned (.tuple #[.slice lo m cp, .bool b]) ∧ Row w' lo m cp 32 (hsL Br) ∧ Below x.heap.size x w') ∧
    (∀ x, Below w.heap.size w x → Calls Tryd.prog 47 #[.slice ao n c, .int .i64 i] x fun e w' => ∃ (lo : Option Addr) (cp : Nat), e = .returned (.tuple #[.slice lo m cp, .bool b]) ∧ Row w' lo m cp 32 (hsL Br) ∧ Below x.heap.size x w') := by
  by_cases hi : 0 ≤ i ∧ i < (n : Int)
  · obtain ⟨i0, rfl⟩ := Int.eq_ofNat_of_zero_le hi.1
    have hn : i0 < n := by omega
    have hh := hgt_small 12 n (by simp; omega)
    have key : ∀ x e w', BrPost x L n i0 e w' → ∃ (lo : Option Addr) (cp : Nat), e = .returned (.tuple #[.slice lo (hgt n) cp, .bool true]) ∧ Row w' lo (hgt n) cp 32 (hsL (brL L i0 (hgt n))) ∧ Below x.heap.size x w' := by
      rintro x e w' ⟨lo, cp, h1, h2, h3⟩
      exact ⟨lo, cp, h1, h2.row (hsL_one _), h3⟩
    exact ⟨true, hgt n, brL L i0 (hgt n), by omega, fun x hb => (branch_any ao n c L i0 x (hT.later hb) (h.later hb) hL hn h4).mono (fun e w' h => key x e w' h), fun x hb => (rbranch_yes ao n c L i0 x (h.later hb) hL hn h4).mono (fun e w' h => key x e w' h)⟩
  · have hi2 : i < 0 ∨ (n : Int) ≤ i := by omega
    have key : ∀ (x : World) (e : Ending) (w' : World), e = .returned (.tuple #[.slice none 0 0, .bool false]) ∧ Below x.heap.size x w' → ∃ (lo : Option Addr) (cp : Nat), e = .returned (.tuple #[.slice lo 0 cp, .bool false]) ∧ Row w' lo 0 cp 32 (hsL []) ∧ Below x.heap.size x w' := by
      rintro x e w' ⟨h1, h3⟩
      exact ⟨none, 0, h1, row_nil w' 32, h3⟩
    exact ⟨false, 0, [], by omega, fun x hb => (branch_none ao n c i x hi2).mono (fun e w' h => key x e w' h), fun x hb => (rbranch_no ao n c L i x (h.later hb) hL hi2 h4).mono (fun e w' h => key x e w' h)⟩
theorem eq_b10 (b : Bool) (w : World) : (binOp .eql 4 (.bool b) (.bool b)).run Tryd.prog w = .ok (.bool true) w := by cases b <;> kernel_rfl
end Go.Proofs.YtddcceifblpmbaaDoor

/- florinlaw10: MerkleIs (made by gen_mkj.py). (hM) -/
namespace Go.Proofs.YtddcceifblpmbaaDoor
set_option linter.unusedVariables false
set_option linter.unusedSimpArgs false
open Go.RowKit

set_option maxRecDepth 100000 in
set_option maxHeartbeats 8000000 in
theorem mis_early (ao bo : Option Addr) (n c m2 d : Nat) (i n2 h2 : Int) (X : HF) (w : World) (hT : Tab w) (h : 40 < n ∨ 40 < m2) :
    Calls Tryd.prog 5 #[.slice ao n c, .int .i64 i, arr32 X, .slice bo m2 d, .int .i64 n2, .int .i64 h2] w fun e w' => e = .returned (.bool true) ∧ Below w.heap.size w w' := by
  have hM0 := Mem.al (mem_nil w) (b8l X 32) 23
  have hB0 := bl_al (Below.refl w.heap.size w) (.cells (b8l X 32).toArray 23)
  have HA := Lib.hid (show Calls Tryd.prog 43 #[] (w.alloc (.cells (b8l X 32).toArray 23)) fun e w' => e = .returned (.bool true) ∧ Below w.heap.size w w' ∧ Mem w' [(w.heap.size, b8l X 32)] from
    (awake10_any _ (hT.later hB0)).mono (by rintro e w' ⟨h1, h3⟩; exact ⟨h1, bl_then hB0 h3, Mem.later h3 hM0⟩))
  clear hM0 hB0
  have hB := Below.refl w.heap.size w
  have hM := Lib.hid (mem_nil w)
  have hF : True := trivial
  by_cases h1 : 40 < n
  · have h1i : (40 : Int) < (n : Int) := by omega
    clear hT h h1
    go_enter Tryd.func5, Tryd.ntmps5
    go_wp2_with (first | (go_at_call 43; (refine (HA.out).mono ?_); rintro e w1 ⟨rfl, hb, hm⟩; clear hM hB hF; have hB := hb; have hM := Lib.hid hm; have hF : True := trivial; clear hb hm))
    go_ret
    exact ⟨rfl, hB⟩
  · have h1i : ¬ (40 : Int) < (n : Int) := by omega
    have h2i : (40 : Int) < (m2 : Int) := by omega
    clear hT h h1
    go_enter Tryd.func5, Tryd.ntmps5
    go_wp2_with (first | (go_at_call 43; (refine (HA.out).mono ?_); rintro e w1 ⟨rfl, hb, hm⟩; clear hM hB hF; have hB := hb; have hM := Lib.hid hm; have hF : True := trivial; clear hb hm))
    go_ret
    exact ⟨rfl, hB⟩

set_option maxRecDepth 100000 in
set_option maxHeartbeats 8000000 in
theorem mis_walk (ao bo : Option Addr) (n c m2 d : Nat) (i n2 h2 : Int) (X : HF) (L L2 : List HF) (w : World) (hT : Tab w) (hr : Row w ao n c 32 (hsL L)) (hL : ∀ f ∈ L, HB f) (hr2 : Row w bo m2 d 32 (hsL L2)) (hL2 : ∀ f ∈ L2, HB f) (hX : HB X)
    (hi : -9223372036854775808 ≤ i ∧ i ≤ 9223372036854775807) (h1 : n ≤ 40) (h3 : m2 ≤ 40) :
    Calls Tryd.prog 5 #[.slice ao n c, .int .i64 i, arr32 X, .slice bo m2 d, .int .i64 n2, .int .i64 h2] w fun e w' => e = .returned (.bool true) ∧ Below w.heap.size w w' := by
  obtain ⟨R, hR⟩ : ∃ R, rootF L = R := ⟨_, rfl⟩
  obtain ⟨tw, ht⟩ : ∃ t, twB L = t := ⟨_, rfl⟩
  obtain ⟨N, hN⟩ : ∃ N, levN n = N := ⟨_, rfl⟩
  obtain ⟨Y, hY⟩ : ∃ Y, climbF X L2 i.toNat = Y := ⟨_, rfl⟩
  obtain ⟨a, ha⟩ : ∃ a : Int, ((widN n2 h2 : Nat) : Int) = a := ⟨_, rfl⟩
  obtain ⟨g, hg⟩ : ∃ g : Int, ((hgtN n2 : Nat) : Int) = g := ⟨_, rfl⟩
  obtain ⟨b, m, Br, hm, hb1, hb2⟩ := branch_both ao n c L i w hT hr hL (by omega)
  have hM0 := Mem.al (mem_nil w) (b8l X 32) 23
  have hB0 := bl_al (Below.refl w.heap.size w) (.cells (b8l X 32).toArray 23)
  have HA := Lib.hid (show Calls Tryd.prog 43 #[] (w.alloc (.cells (b8l X 32).toArray 23)) fun e w' => e = .returned (.bool true) ∧ Below w.heap.size w w' ∧ Mem w' [(w.heap.size, b8l X 32)] from
    (awake10_any _ (hT.later hB0)).mono (by rintro e w' ⟨h1, h3⟩; exact ⟨h1, bl_then hB0 h3, Mem.later h3 hM0⟩))
  clear hM0 hB0
  have HB1 := Lib.hid hb1
  have HB2 := Lib.hid hb2
  have HR1 := Lib.hid (fun (x : World) (hb : Below w.heap.size w x) => (hR ▸ ht ▸ root_det ao n c L x (hT.later hb) (hr.later hb) hL : Calls Tryd.prog 44 #[.slice ao n c] x fun e w' => e = .returned (.tuple #[arr32 R, .bool tw]) ∧ Below x.heap.size x w'))
  have HR2 := Lib.hid (fun (x : World) (hb : Below w.heap.size w x) => (hR ▸ ht ▸ rroot_all ao n c L x (hr.later hb) hL (by omega) : Calls Tryd.prog 45 #[.slice ao n c] x fun e w' => e = .returned (.tuple #[arr32 R, .bool tw]) ∧ Below x.heap.size x w'))
  have HLv1 := Lib.hid (fun (x : World) (hb : Below w.heap.size w x) => (hN ▸ mlevels_all ao n c L x (hT.later hb) (hr.later hb) hL (by omega) : Calls Tryd.prog 49 #[.slice ao n c] x fun e w' => ∃ v, e = .returned v ∧ LvOk L n N v w' ∧ Below x.heap.size x w'))
  have HLv2 := Lib.hid (fun (x : World) (hb : Below w.heap.size w x) => (hN ▸ rlevels_lvl ao n c L x (hr.later hb) hL (by omega) : Calls Tryd.prog 50 #[.slice ao n c] x fun e w' => ∃ v, e = .returned v ∧ LvOk L n N v w' ∧ Below x.heap.size x w'))
  have hN13 : N ≤ 13 := hN ▸ levN_le n
  have hN1 : N ≠ 0 → 1 ≤ n := by intro h; rcases Nat.eq_zero_or_pos n with h0 | h0; subst h0; exact absurd hN.symm h; exact h0
  have HSm := Lib.hid (fun (v u : Value) (x : World) (p : LvOk L n N v x) (q : LvOk L n N u x) => rsame_all L n N v u x p q (by omega) hN13 hN1)
  have HSb := Lib.hid (fun (lo lm : Option Addr) (cp cq : Nat) (x : World) (p : Row x lo m cp 32 (hsL Br)) (q : Row x lm m cq 32 (hsL Br)) => same3_yes lo lm m cp cq Br x p q (by omega))
  have HC1 := Lib.hid (fun (x : World) (hb : Below w.heap.size w x) => (hY ▸ climb_any X hX bo m2 d L2 i hi x (hT.later hb) (hr2.later hb) hL2 (by omega) : Calls Tryd.prog 52 #[arr32 X, .slice bo m2 d, .int .i64 i] x fun e w' => e = .returned (arr32 Y) ∧ Below x.heap.size x w'))
  have HC2 := Lib.hid (fun (x : World) (hb : Below w.heap.size w x) => (hY ▸ rclimb_any X hX bo m2 d L2 i hi x (hr2.later hb) hL2 (by omega) : Calls Tryd.prog 53 #[arr32 X, .slice bo m2 d, .int .i64 i] x fun e w' => e = .returned (arr32 Y) ∧ Below x.heap.size x w'))
  have HW1 := Lib.hid (fun (x : World) => (ha ▸ width_any n2 h2 x : Calls Tryd.prog 54 #[.int .i64 n2, .int .i64 h2] x fun e w' => e = .returned (.int .i64 a) ∧ x = w'))
  have HW2 := Lib.hid (fun (x : World) => (ha ▸ rwidth_any n2 h2 x : Calls Tryd.prog 55 #[.int .i64 n2, .int .i64 h2] x fun e w' => e = .returned (.int .i64 a) ∧ x = w'))
  have HH1 := Lib.hid (fun (x : World) => (hg ▸ height_any n2 x : Calls Tryd.prog 56 #[.int .i64 n2] x fun e w' => e = .returned (.int .i64 g) ∧ x = w'))
  have HH2 := Lib.hid (fun (x : World) => (hg ▸ rheight_any n2 x : Calls Tryd.prog 57 #[.int .i64 n2] x fun e w' => e = .returned (.int .i64 g) ∧ x = w'))
  have k1 : ¬ (40 : Int) < (n : Int) := by omega
  have k2 : ¬ (40 : Int) < (m2 : Int) := by omega
  have hq1 := eq_h R R true (by simp)
  have hq2 := eq_h Y Y true (by simp)
  have hq3 := eq_b10 tw
  have hq4 := eq_b10 b
  have hB := Below.refl w.heap.size w
  have hM := Lib.hid (mem_nil w)
  have hF : True := trivial
  clear hT hr hL hr2 hL2 hX hi h1 h3 hR ht hN hY ha hg hm hb1 hb2 hN13 hN1
  go_enter Tryd.func5, Tryd.ntmps5
  go_wp2_with (first |
    (go_at_call 43; (refine (HA.out).mono ?_); rintro e w1 ⟨rfl, hb, hm⟩; clear hM hB hF; have hB := hb; have hM := Lib.hid hm; have hF : True := trivial; clear hb hm) |
    (go_at_call 44; (with_reducible refine (HR1.out _ hB).mono ?_); rintro e w2 ⟨rfl, hb⟩; have hB : Below w.heap.size w w2 := (by refine bl_then ?_ hb; (repeat (first | exact hB | refine bl_al ?_ _ | refine Below.setCell ?_ (by first | exact hgs | exact Nat.le_succ_of_le hgs | exact hgs2 | exact hgs3) _ | refine Below.drew ?_ | refine bl_drewN ?_ _))); (first | with_reducible have hM2 := Mem.later hb (hM.out) | with_reducible have hM2 := Mem.later hb (Mem.al (hM.out) _ _) | with_reducible have hM2 := Mem.later hb (Mem.al (Mem.al (hM.out) _ _) _ _) | with_reducible have hM2 := Mem.later hb (Mem.al (Mem.al (Mem.al (hM.out) _ _) _ _) _ _) | with_reducible have hM2 := Mem.later hb (Mem.al (Mem.al (Mem.al (Mem.al (hM.out) _ _) _ _) _ _) _ _) | with_reducible have hM2 := Mem.later hb (Mem.drew (hM.out)) | with_reducible have hM2 := Mem.later hb (Mem.drew (Mem.al (hM.out) _ _)) | with_reducible have hM2 := Mem.later hb (Mem.al (Mem.drew (hM.out)) _ _) | with_reducible have hM2 := Mem.later hb (Mem.al (Mem.drew (Mem.al (hM.out) _ _)) _ _) | with_reducible have hM2 := Mem.later hb (Mem.drew (Mem.al (Mem.al (hM.out) _ _) _ _)) | with_reducible have hM2 := Mem.later hb (Mem.al (Mem.al (Mem.drew (hM.out)) _ _) _ _) | with_reducible have hM2 := Mem.later hb (Mem.drew (Mem.drew (hM.out))) | with_reducible have hM2 := Mem.later hb (Mem.drew (Mem.al (Mem.drew (hM.out)) _ _)) | with_reducible have hM2 := Mem.later hb (Mem.drew (Mem.al (Mem.al (Mem.al (hM.out) _ _) _ _) _ _)) | with_reducible have hM2 := Mem.later hb (Mem.al (Mem.al (Mem.drew (Mem.al (hM.out) _ _)) _ _) _ _) | with_reducible have hM2 := Mem.later hb (Mem.drew (Mem.al (Mem.drew (Mem.al (hM.out) _ _)) _ _)) | with_reducible have hM2 := Mem.later hb (Mem.al (Mem.al (Mem.al (Mem.al (Mem.al (hM.out) _ _) _ _) _ _) _ _) _ _) | with_reducible have hM2 := Mem.later hb (Mem.al (Mem.al (Mem.al (Mem.al (Mem.al (Mem.al (hM.out) _ _) _ _) _ _) _ _) _ _) _ _) | with_reducible have hM2 := Mem.later hb (Mem.al (Mem.al (Mem.al (Mem.al (Mem.al (Mem.al (Mem.al (hM.out) _ _) _ _) _ _) _ _) _ _) _ _) _ _) | with_reducible have hM2 := Mem.later hb (Mem.al (Mem.al (Mem.al (Mem.al (Mem.al (Mem.al (Mem.al (Mem.al (hM.out) _ _) _ _) _ _) _ _) _ _) _ _) _ _) _ _)); (try simp only [World.size_alloc, size_drew] at hM2); clear hM; have hM := Lib.hid hM2; clear hF; have hF := hM2; (try simp only [Mem, cellsAt, World.size_alloc, Nat.zero_add, Nat.reduceAdd, and_true] at hF); clear hM2; clear hb) |
    ((with_reducible_and_instances refine at_store 14 ?_); refine wpList_store_newV rfl (.tmp 14) (.tmp 35) 23 rfl _ (b8l R 32) _ Tryd.underlying23 rfl (by rw [b8l_len]; kernel_rfl) (by rw [b8l_len]; rfl) (b8l_one R 32) rfl (rfl) hM.out ?_; intro W3 hMW hbW; have hBW := bl_then hB hbW; obtain ⟨g3, hg3⟩ : ∃ b, w2.heap.size = b := ⟨_, rfl⟩; rw [hg3] at hMW; simp only [hg3]; clear hg3; clear hM hF hB; have hM := Lib.hid hMW; have hB := hBW; have hF : True := trivial; clear hMW hbW hBW) |
    (go_at_call 45; (with_reducible refine (HR2.out _ hB).mono ?_); rintro e w4 ⟨rfl, hb⟩; have hB : Below w.heap.size w w4 := (by refine bl_then ?_ hb; (repeat (first | exact hB | refine bl_al ?_ _ | refine Below.setCell ?_ (by first | exact hgs | exact Nat.le_succ_of_le hgs | exact hgs2 | exact hgs3) _ | refine Below.drew ?_ | refine bl_drewN ?_ _))); (first | with_reducible have hM2 := Mem.later hb (hM.out) | with_reducible have hM2 := Mem.later hb (Mem.al (hM.out) _ _) | with_reducible have hM2 := Mem.later hb (Mem.al (Mem.al (hM.out) _ _) _ _) | with_reducible have hM2 := Mem.later hb (Mem.al (Mem.al (Mem.al (hM.out) _ _) _ _) _ _) | with_reducible have hM2 := Mem.later hb (Mem.al (Mem.al (Mem.al (Mem.al (hM.out) _ _) _ _) _ _) _ _) | with_reducible have hM2 := Mem.later hb (Mem.drew (hM.out)) | with_reducible have hM2 := Mem.later hb (Mem.drew (Mem.al (hM.out) _ _)) | with_reducible have hM2 := Mem.later hb (Mem.al (Mem.drew (hM.out)) _ _) | with_reducible have hM2 := Mem.later hb (Mem.al (Mem.drew (Mem.al (hM.out) _ _)) _ _) | with_reducible have hM2 := Mem.later hb (Mem.drew (Mem.al (Mem.al (hM.out) _ _) _ _)) | with_reducible have hM2 := Mem.later hb (Mem.al (Mem.al (Mem.drew (hM.out)) _ _) _ _) | with_reducible have hM2 := Mem.later hb (Mem.drew (Mem.drew (hM.out))) | with_reducible have hM2 := Mem.later hb (Mem.drew (Mem.al (Mem.drew (hM.out)) _ _)) | with_reducible have hM2 := Mem.later hb (Mem.drew (Mem.al (Mem.al (Mem.al (hM.out) _ _) _ _) _ _)) | with_reducible have hM2 := Mem.later hb (Mem.al (Mem.al (Mem.drew (Mem.al (hM.out) _ _)) _ _) _ _) | with_reducible have hM2 := Mem.later hb (Mem.drew (Mem.al (Mem.drew (Mem.al (hM.out) _ _)) _ _)) | with_reducible have hM2 := Mem.later hb (Mem.al (Mem.al (Mem.al (Mem.al (Mem.al (hM.out) _ _) _ _) _ _) _ _) _ _) | with_reducible have hM2 := Mem.later hb (Mem.al (Mem.al (Mem.al (Mem.al (Mem.al (Mem.al (hM.out) _ _) _ _) _ _) _ _) _ _) _ _) | with_reducible have hM2 := Mem.later hb (Mem.al (Mem.al (Mem.al (Mem.al (Mem.al (Mem.al (Mem.al (hM.out) _ _) _ _) _ _) _ _) _ _) _ _) _ _) | with_reducible have hM2 := Mem.later hb (Mem.al (Mem.al (Mem.al (Mem.al (Mem.al (Mem.al (Mem.al (Mem.al (hM.out) _ _) _ _) _ _) _ _) _ _) _ _) _ _) _ _)); (try simp only [World.size_alloc, size_drew] at hM2); clear hM; have hM := Lib.hid hM2; clear hF; have hF := hM2; (try simp only [Mem, cellsAt, World.size_alloc, Nat.zero_add, Nat.reduceAdd, and_true] at hF); clear hM2; clear hb) |
    ((with_reducible_and_instances refine at_store 16 ?_); refine wpList_store_newV rfl (.tmp 16) (.tmp 40) 23 rfl _ (b8l R 32) _ Tryd.underlying23 rfl (by rw [b8l_len]; kernel_rfl) (by rw [b8l_len]; rfl) (b8l_one R 32) rfl (rfl) hM.out ?_; intro W5 hMW hbW; have hBW := bl_then hB hbW; obtain ⟨g5, hg5⟩ : ∃ b, w4.heap.size = b := ⟨_, rfl⟩; rw [hg5] at hMW; simp only [hg5]; clear hg5; clear hM hF hB; have hM := Lib.hid hMW; have hB := hBW; have hF : True := trivial; clear hMW hbW hBW) |
    (go_at_call 46; (with_reducible refine (HB1.out _ hB).mono ?_); rintro e w6 ⟨lo1, cp1, rfl, hr1, hb⟩; have hB : Below w.heap.size w w6 := (by refine bl_then ?_ hb; (repeat (first | exact hB | refine bl_al ?_ _ | refine Below.setCell ?_ (by first | exact hgs | exact Nat.le_succ_of_le hgs | exact hgs2 | exact hgs3) _ | refine Below.drew ?_ | refine bl_drewN ?_ _))); (first | with_reducible have hM2 := Mem.later hb (hM.out) | with_reducible have hM2 := Mem.later hb (Mem.al (hM.out) _ _) | with_reducible have hM2 := Mem.later hb (Mem.al (Mem.al (hM.out) _ _) _ _) | with_reducible have hM2 := Mem.later hb (Mem.al (Mem.al (Mem.al (hM.out) _ _) _ _) _ _) | with_reducible have hM2 := Mem.later hb (Mem.al (Mem.al (Mem.al (Mem.al (hM.out) _ _) _ _) _ _) _ _) | with_reducible have hM2 := Mem.later hb (Mem.drew (hM.out)) | with_reducible have hM2 := Mem.later hb (Mem.drew (Mem.al (hM.out) _ _)) | with_reducible have hM2 := Mem.later hb (Mem.al (Mem.drew (hM.out)) _ _) | with_reducible have hM2 := Mem.later hb (Mem.al (Mem.drew (Mem.al (hM.out) _ _)) _ _) | with_reducible have hM2 := Mem.later hb (Mem.drew (Mem.al (Mem.al (hM.out) _ _) _ _)) | with_reducible have hM2 := Mem.later hb (Mem.al (Mem.al (Mem.drew (hM.out)) _ _) _ _) | with_reducible have hM2 := Mem.later hb (Mem.drew (Mem.drew (hM.out))) | with_reducible have hM2 := Mem.later hb (Mem.drew (Mem.al (Mem.drew (hM.out)) _ _)) | with_reducible have hM2 := Mem.later hb (Mem.drew (Mem.al (Mem.al (Mem.al (hM.out) _ _) _ _) _ _)) | with_reducible have hM2 := Mem.later hb (Mem.al (Mem.al (Mem.drew (Mem.al (hM.out) _ _)) _ _) _ _) | with_reducible have hM2 := Mem.later hb (Mem.drew (Mem.al (Mem.drew (Mem.al (hM.out) _ _)) _ _)) | with_reducible have hM2 := Mem.later hb (Mem.al (Mem.al (Mem.al (Mem.al (Mem.al (hM.out) _ _) _ _) _ _) _ _) _ _) | with_reducible have hM2 := Mem.later hb (Mem.al (Mem.al (Mem.al (Mem.al (Mem.al (Mem.al (hM.out) _ _) _ _) _ _) _ _) _ _) _ _) | with_reducible have hM2 := Mem.later hb (Mem.al (Mem.al (Mem.al (Mem.al (Mem.al (Mem.al (Mem.al (hM.out) _ _) _ _) _ _) _ _) _ _) _ _) _ _) | with_reducible have hM2 := Mem.later hb (Mem.al (Mem.al (Mem.al (Mem.al (Mem.al (Mem.al (Mem.al (Mem.al (hM.out) _ _) _ _) _ _) _ _) _ _) _ _) _ _) _ _)); (try simp only [World.size_alloc, size_drew] at hM2); clear hM; have hM := Lib.hid hM2; clear hF; have hF := hM2; (try simp only [Mem, cellsAt, World.size_alloc, Nat.zero_add, Nat.reduceAdd, and_true] at hF); clear hM2; clear hb; have HRo1 := Lib.hid hr1; clear hr1) |
    (go_at_call 47; (with_reducible refine (HB2.out _ hB).mono ?_); rintro e w7 ⟨lo2, cp2, rfl, hr2, hb⟩; have HRo3 := Lib.hid (HRo1.out.later hb); have HRo2 := Lib.hid hr2; clear hr2; have hB : Below w.heap.size w w7 := (by refine bl_then ?_ hb; (repeat (first | exact hB | refine bl_al ?_ _ | refine Below.setCell ?_ (by first | exact hgs | exact Nat.le_succ_of_le hgs | exact hgs2 | exact hgs3) _ | refine Below.drew ?_ | refine bl_drewN ?_ _))); (first | with_reducible have hM2 := Mem.later hb (hM.out) | with_reducible have hM2 := Mem.later hb (Mem.al (hM.out) _ _) | with_reducible have hM2 := Mem.later hb (Mem.al (Mem.al (hM.out) _ _) _ _) | with_reducible have hM2 := Mem.later hb (Mem.al (Mem.al (Mem.al (hM.out) _ _) _ _) _ _) | with_reducible have hM2 := Mem.later hb (Mem.al (Mem.al (Mem.al (Mem.al (hM.out) _ _) _ _) _ _) _ _) | with_reducible have hM2 := Mem.later hb (Mem.drew (hM.out)) | with_reducible have hM2 := Mem.later hb (Mem.drew (Mem.al (hM.out) _ _)) | with_reducible have hM2 := Mem.later hb (Mem.al (Mem.drew (hM.out)) _ _) | with_reducible have hM2 := Mem.later hb (Mem.al (Mem.drew (Mem.al (hM.out) _ _)) _ _) | with_reducible have hM2 := Mem.later hb (Mem.drew (Mem.al (Mem.al (hM.out) _ _) _ _)) | with_reducible have hM2 := Mem.later hb (Mem.al (Mem.al (Mem.drew (hM.out)) _ _) _ _) | with_reducible have hM2 := Mem.later hb (Mem.drew (Mem.drew (hM.out))) | with_reducible have hM2 := Mem.later hb (Mem.drew (Mem.al (Mem.drew (hM.out)) _ _)) | with_reducible have hM2 := Mem.later hb (Mem.drew (Mem.al (Mem.al (Mem.al (hM.out) _ _) _ _) _ _)) | with_reducible have hM2 := Mem.later hb (Mem.al (Mem.al (Mem.drew (Mem.al (hM.out) _ _)) _ _) _ _) | with_reducible have hM2 := Mem.later hb (Mem.drew (Mem.al (Mem.drew (Mem.al (hM.out) _ _)) _ _)) | with_reducible have hM2 := Mem.later hb (Mem.al (Mem.al (Mem.al (Mem.al (Mem.al (hM.out) _ _) _ _) _ _) _ _) _ _) | with_reducible have hM2 := Mem.later hb (Mem.al (Mem.al (Mem.al (Mem.al (Mem.al (Mem.al (hM.out) _ _) _ _) _ _) _ _) _ _) _ _) | with_reducible have hM2 := Mem.later hb (Mem.al (Mem.al (Mem.al (Mem.al (Mem.al (Mem.al (Mem.al (hM.out) _ _) _ _) _ _) _ _) _ _) _ _) _ _) | with_reducible have hM2 := Mem.later hb (Mem.al (Mem.al (Mem.al (Mem.al (Mem.al (Mem.al (Mem.al (Mem.al (hM.out) _ _) _ _) _ _) _ _) _ _) _ _) _ _) _ _)); (try simp only [World.size_alloc, size_drew] at hM2); clear hM; have hM := Lib.hid hM2; clear hF; have hF := hM2; (try simp only [Mem, cellsAt, World.size_alloc, Nat.zero_add, Nat.reduceAdd, and_true] at hF); clear hM2; clear hb))
  have hB20 : Below w.heap.size w w7.drew := hB.drew
  refine wp_plan (fun x => Mem x [(g5, b8l R 32), (g3, b8l R 32), (w.heap.size, b8l X 32)] ∧ Row x lo1 m cp1 32 (hsL Br) ∧ Row x lo2 m cp2 32 (hsL Br)) [3, 5, 6, 21, 32, 36, 42, 45, 50, 52] [0, 1, 2, 4, 3, 5, 6, 7, 8, 9, 10, 11, 12, 13, 14, 15, 16, 17, 18, 19, 20, 21, 22, 23, 24, 25, 26, 27, 28, 29, 30, 31, 33, 34, 35, 32, 36, 37, 38, 39, 40, 41, 43, 44, 42, 45, 46, 47, 48, 49, 51, 50, 52, 53, 54, 55] (by kernel_rfl) (by kernel_rfl) (⟨Mem.drew hM.out, HRo3.out.drew, HRo2.out.drew⟩) (fun hHeld => ?_)
  iterate 4 (refine wpT_take rfl (by rfl) (by rfl) (by intro w' hSw; (try dsimp only [Mem, cellsAt] at hSw); go_simp; (try with_reducible rfl)) (by assumption) ?_; (try simp only [Act.put, List.setIfInBounds_toArray, List.set_cons_zero, List.set_cons_succ]))
  (refine wpT_step rfl (by rfl) (fun K hK => ?_); go_simp)
  ((with_reducible refine (HLv1.out _ hB20).mono ?_); rintro e y21 ⟨v1, rfl, hv, hb⟩; have hB21 := bl_then hB20 hb; have HV1 := Lib.hid hv; clear hv; (refine hK.out _ _ _ (fun _ h => h) (⟨Mem.later hb hHeld.1, hHeld.2.1.later hb, hHeld.2.2.later hb⟩) (fun hHeld => ?_); clear hK; clear K; (try simp only [Act.put, List.setIfInBounds_toArray, List.set_cons_zero, List.set_cons_succ])))
  (refine wpT_step rfl (by rfl) (fun K hK => ?_); go_simp)
  ((with_reducible refine (HLv2.out _ hB21).mono ?_); rintro e y22 ⟨v2, rfl, hv, hb⟩; have hB22 := bl_then hB21 hb; have HV2 := Lib.hid hv; have HV3 := Lib.hid (HV1.out.later hb); clear hv; (refine hK.out _ _ _ (fun _ h => h) (⟨Mem.later hb hHeld.1, hHeld.2.1.later hb, hHeld.2.2.later hb⟩) (fun hHeld => ?_); clear hK; clear K; (try simp only [Act.put, List.setIfInBounds_toArray, List.set_cons_zero, List.set_cons_succ])))
  (refine wpT_step rfl (by rfl) (fun K hK => ?_); go_simp)
  ((with_reducible refine (HSm.out _ _ _ HV3.out HV2.out).mono ?_); rintro e y23 ⟨rfl, hb⟩; have hB23 := bl_then hB22 hb; (refine hK.out _ _ _ (fun _ h => h) (⟨Mem.later hb hHeld.1, hHeld.2.1.later hb, hHeld.2.2.later hb⟩) (fun hHeld => ?_); clear hK; clear K; (try simp only [Act.put, List.setIfInBounds_toArray, List.set_cons_zero, List.set_cons_succ])))
  iterate 2 (refine wpT_take rfl (by rfl) (by rfl) (by intro w' hSw; (try dsimp only [Mem, cellsAt] at hSw); go_simp; (try with_reducible rfl)) (by assumption) ?_; (try simp only [Act.put, List.setIfInBounds_toArray, List.set_cons_zero, List.set_cons_succ]))
  (refine wpT_yield rfl (by rfl) (Go.yieldsIf_load_mid (by rfl) 23 (.tmp 14) rfl g3 0 rfl (b8l R 32) _ (fun w' h => rangeAt_of (Mem.get h.1 (by simp))) Tryd.underlying23 rfl (by rw [b8l_len]; kernel_rfl)) (by assumption) ?_; (try simp only [Act.put, List.setIfInBounds_toArray, List.set_cons_zero, List.set_cons_succ]))
  (refine wpT_yield rfl (by rfl) (Go.yieldsIf_load_mid (by rfl) 23 (.tmp 16) rfl g5 0 rfl (b8l R 32) _ (fun w' h => rangeAt_of (Mem.get h.1 (by simp))) Tryd.underlying23 rfl (by rw [b8l_len]; kernel_rfl)) (by assumption) ?_; (try simp only [Act.put, List.setIfInBounds_toArray, List.set_cons_zero, List.set_cons_succ]))
  iterate 10 (refine wpT_take rfl (by rfl) (by rfl) (by intro w' hSw; (try dsimp only [Mem, cellsAt] at hSw); go_simp; (try with_reducible rfl)) (by assumption) ?_; (try simp only [Act.put, List.setIfInBounds_toArray, List.set_cons_zero, List.set_cons_succ]))
  (refine wpT_step rfl (by rfl) (fun K hK => ?_); go_simp)
  ((with_reducible refine (HSb.out _ _ _ _ _ hHeld.2.1 hHeld.2.2).mono ?_); rintro e y24 ⟨rfl, hb⟩; have hB24 := bl_then hB23 hb; (refine hK.out _ _ _ (fun _ h => h) (⟨Mem.later hb hHeld.1, hHeld.2.1.later hb, hHeld.2.2.later hb⟩) (fun hHeld => ?_); clear hK; clear K; (try simp only [Act.put, List.setIfInBounds_toArray, List.set_cons_zero, List.set_cons_succ])))
  iterate 7 (refine wpT_take rfl (by rfl) (by rfl) (by intro w' hSw; (try dsimp only [Mem, cellsAt] at hSw); go_simp; (try with_reducible rfl)) (by assumption) ?_; (try simp only [Act.put, List.setIfInBounds_toArray, List.set_cons_zero, List.set_cons_succ]))
  (refine wpT_yield rfl (by rfl) (Go.yieldsIf_load_mid (by rfl) 23 (.tmp 8) rfl w.heap.size 0 rfl (b8l X 32) _ (fun w' h => rangeAt_of (Mem.get h.1 (by simp))) Tryd.underlying23 rfl (by rw [b8l_len]; kernel_rfl)) (by assumption) ?_; (try simp only [Act.put, List.setIfInBounds_toArray, List.set_cons_zero, List.set_cons_succ]))
  iterate 2 (refine wpT_take rfl (by rfl) (by rfl) (by intro w' hSw; (try dsimp only [Mem, cellsAt] at hSw); go_simp; (try with_reducible rfl)) (by assumption) ?_; (try simp only [Act.put, List.setIfInBounds_toArray, List.set_cons_zero, List.set_cons_succ]))
  (refine wpT_yield rfl (by rfl) (Go.yieldsIf_load_mid (by rfl) 23 (.tmp 8) rfl w.heap.size 0 rfl (b8l X 32) _ (fun w' h => rangeAt_of (Mem.get h.1 (by simp))) Tryd.underlying23 rfl (by rw [b8l_len]; kernel_rfl)) (by assumption) ?_; (try simp only [Act.put, List.setIfInBounds_toArray, List.set_cons_zero, List.set_cons_succ]))
  iterate 2 (refine wpT_take rfl (by rfl) (by rfl) (by intro w' hSw; (try dsimp only [Mem, cellsAt] at hSw); go_simp; (try with_reducible rfl)) (by assumption) ?_; (try simp only [Act.put, List.setIfInBounds_toArray, List.set_cons_zero, List.set_cons_succ]))
  (refine wpT_step rfl (by rfl) (fun K hK => ?_); go_simp)
  ((with_reducible refine (HC1.out _ hB24).mono ?_); rintro e y25 ⟨rfl, hb⟩; have hB25 := bl_then hB24 hb; (refine hK.out _ _ _ (fun _ h => h) (⟨Mem.later hb hHeld.1, hHeld.2.1.later hb, hHeld.2.2.later hb⟩) (fun hHeld => ?_); clear hK; clear K; (try simp only [Act.put, List.setIfInBounds_toArray, List.set_cons_zero, List.set_cons_succ])))
  (refine wpT_step rfl (by rfl) (fun K hK => ?_); go_simp)
  ((with_reducible refine (HC2.out _ hB25).mono ?_); rintro e y26 ⟨rfl, hb⟩; have hB26 := bl_then hB25 hb; (refine hK.out _ _ _ (fun _ h => h) (⟨Mem.later hb hHeld.1, hHeld.2.1.later hb, hHeld.2.2.later hb⟩) (fun hHeld => ?_); clear hK; clear K; (try simp only [Act.put, List.setIfInBounds_toArray, List.set_cons_zero, List.set_cons_succ])))
  iterate 7 (refine wpT_take rfl (by rfl) (by rfl) (by intro w' hSw; (try dsimp only [Mem, cellsAt] at hSw); go_simp; (try with_reducible rfl)) (by assumption) ?_; (try simp only [Act.put, List.setIfInBounds_toArray, List.set_cons_zero, List.set_cons_succ]))
  (refine wpT_step rfl (by rfl) (fun K hK => ?_); go_simp)
  ((with_reducible refine (HW1.out _).mono ?_); rintro e y27 ⟨rfl, rfl⟩; (refine hK.out _ _ _ (fun _ h => h) (hHeld) (fun hHeld => ?_); clear hK; clear K; (try simp only [Act.put, List.setIfInBounds_toArray, List.set_cons_zero, List.set_cons_succ])))
  (refine wpT_step rfl (by rfl) (fun K hK => ?_); go_simp)
  ((with_reducible refine (HW2.out _).mono ?_); rintro e y28 ⟨rfl, rfl⟩; (refine hK.out _ _ _ (fun _ h => h) (hHeld) (fun hHeld => ?_); clear hK; clear K; (try simp only [Act.put, List.setIfInBounds_toArray, List.set_cons_zero, List.set_cons_succ])))
  iterate 5 (refine wpT_take rfl (by rfl) (by rfl) (by intro w' hSw; (try dsimp only [Mem, cellsAt] at hSw); go_simp; (try with_reducible rfl)) (by assumption) ?_; (try simp only [Act.put, List.setIfInBounds_toArray, List.set_cons_zero, List.set_cons_succ]))
  (refine wpT_step rfl (by rfl) (fun K hK => ?_); go_simp)
  ((with_reducible refine (HH1.out _).mono ?_); rintro e y29 ⟨rfl, rfl⟩; (refine hK.out _ _ _ (fun _ h => h) (hHeld) (fun hHeld => ?_); clear hK; clear K; (try simp only [Act.put, List.setIfInBounds_toArray, List.set_cons_zero, List.set_cons_succ])))
  (refine wpT_step rfl (by rfl) (fun K hK => ?_); go_simp)
  ((with_reducible refine (HH2.out _).mono ?_); rintro e y30 ⟨rfl, rfl⟩; (refine hK.out _ _ _ (fun _ h => h) (hHeld) (fun hHeld => ?_); clear hK; clear K; (try simp only [Act.put, List.setIfInBounds_toArray, List.set_cons_zero, List.set_cons_succ])))
  iterate 3 (refine wpT_take rfl (by rfl) (by rfl) (by intro w' hSw; (try dsimp only [Mem, cellsAt] at hSw); go_simp; (try with_reducible rfl)) (by assumption) ?_; (try simp only [Act.put, List.setIfInBounds_toArray, List.set_cons_zero, List.set_cons_succ]))
  (refine wpT_nil ?_)
  go_wp2
  go_ret
  exact ⟨rfl, hB26⟩
end Go.Proofs.YtddcceifblpmbaaDoor
