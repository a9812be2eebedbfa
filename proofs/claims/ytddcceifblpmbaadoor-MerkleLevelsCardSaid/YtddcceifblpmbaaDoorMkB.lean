/- merkle.Branch (made by gen_mkb.py). (hM) -/
import Derived.Test.YtddcceifblpmbaaDoorUndL
import Derived.Test.YtddcceifblpmbaaDoorMkO
namespace Go.Proofs.YtddcceifblpmbaaDoor
set_option linter.unusedVariables false
set_option linter.unusedSimpArgs false
open Go.RowKit
attribute [local go_sem] Oper.semAt_some

theorem OwnN.setFar {B : Nat} {E : TypeId} {sz : Nat} {w : World} {ao : Option Addr} {n c : Nat} {xs : List Value} (h : OwnN B E sz w ao n c xs) (p : Addr) (v : Value) (hp : p.block < B) : OwnN B E sz (w.setCell p v) ao n c xs := by
  rcases h with h | ⟨g, h1, h2⟩
  · exact .inl h
  · have hg := (h2.lt g rfl).1
    refine .inr ⟨g, h1, h2.1, ?_⟩
    rcases h2.2 with h3 | ⟨g', cap, cur, e1, e2, e3, e4⟩
    · exact .inl h3
    · refine .inr ⟨g', cap, cur, e1, e2, ?_, e4⟩
      simp only [Value.slice.injEq, Option.some.injEq, Addr.mk.injEq] at e1
      exact (Below.heap_setCell w p v g' (by omega)).trans e3
theorem bl_gr {B : Nat} {a w w' : World} {row : Option Nat} (h : Below B a w) (hg : w.grownBy w' row) (hB : B ≤ w.heap.size) (hr : ∀ k, row = some k → B ≤ k) : Below B a w' := h.grown hg hB hr
theorem own_isCells {B : Nat} {E : TypeId} {sz : Nat} {w : World} {ao : Option Addr} {n c : Nat} {xs : List Value} (h : OwnN B E sz w ao n c xs) : ∀ (j : Nat) (o : Obj), ao = some ⟨j, 0, none⟩ → w.heap[j]? = some o → o.isCells = true := by
  intro j o hj ho
  rcases h with ⟨h, _⟩ | ⟨g, h1, h2⟩
  · rw [h] at hj; cases hj
  · rw [h1] at hj
    simp only [Option.some.injEq, Addr.mk.injEq, and_true] at hj
    subst hj
    rcases h2.2 with ⟨h3, _⟩ | ⟨g', cap, cur, e1, e2, e3, e4⟩
    · cases h3
    · simp only [Value.slice.injEq, Option.some.injEq, Addr.mk.injEq] at e1
      rw [← e1.1.1, ho] at e3
      cases e3
      rfl
theorem own_putObj {B : Nat} {E : TypeId} {sz D : Nat} {w : World} {v : Value} {n : Nat} {xs : List Value} {o ob : Obj} (h : w.ownsRow B E sz v n xs) (hD : w.heap[D]? = some o) (hc : o.isCells = false) : (w.putObj D ob).ownsRow B E sz v n xs := by
  refine ⟨h.1, ?_⟩
  rcases h.2 with h3 | ⟨g', cap, cur, e1, e2, e3, e4⟩
  · exact .inl h3
  · refine .inr ⟨g', cap, cur, e1, e2, ?_, e4⟩
    refine (World.putObj_heap_other ?_).trans e3
    rintro rfl
    rw [hD] at e3
    cases e3
    cases hc
theorem sz_setCell (w : World) (p : Addr) (v : Value) : (w.setCell p v).heap.size = w.heap.size := by simp
/-- what Branch's own cells hold between two rounds -/
def BrJ (w : World) (L : List HF) (n i0 k : Nat) (W : World) : Prop :=
  ∃ (lo : Option Addr) (cp : Nat), Mem W [(w.heap.size + 1, [.slice lo (min k (hgt n)) cp]), (w.heap.size, [.int .i64 ((i0 / 2 ^ min k (hgt n) : Nat) : Int)])] ∧
    OwnN (w.heap.size + 3) 23 32 W lo (min k (hgt n)) cp (hsL (brL L i0 (min k (hgt n)))) ∧ Below w.heap.size w W ∧ w.heap.size + 3 ≤ W.heap.size
theorem BrJ.book {w : World} {L : List HF} {n i0 : Nat} (k : Nat) (X Y : World) (h : BrJ w L n i0 k X) (hb : Book (w.heap.size + 3) X Y) : BrJ w L n i0 k Y := by
  obtain ⟨lo, cp, h1, h2, h3, h4⟩ := h
  exact ⟨lo, cp, h1.book hb (by simp), h2.book hb, h3.trans (hb.below.mono (by omega)), Nat.le_trans h4 hb.size⟩
/-- what Branch hands back -/
def BrPost (w : World) (L : List HF) (n i0 : Nat) (e : Ending) (w' : World) : Prop :=
  ∃ (lo : Option Addr) (cp : Nat), e = .returned (.tuple #[.slice lo (hgt n) cp, .bool true]) ∧ OwnN w.heap.size 23 32 w' lo (hgt n) cp (hsL (brL L i0 (hgt n))) ∧ Below w.heap.size w w'

set_option maxRecDepth 100000 in
set_option maxHeartbeats 8000000 in
theorem branch_any (ao : Option Addr) (n c : Nat) (L : List HF) (i0 : Nat) (w : World) (hT : Tab w) (h : Row w ao n c 32 (hsL L)) (hL : ∀ f ∈ L, HB f) (hi0 : i0 < n) (hn4 : n ≤ 4096) :
    Calls Tryd.prog 46 #[.slice ao n c, .int .i64 (i0 : Int)] w (BrPost w L n i0) := by
  have hln := hs_len h
  have HLt := Lib.hid (h.lt)
  have HN := Lib.hid hln
  refine (callsIn_wide (n := 3)).1 (callsIn_of_wp_marks Tryd.func46 rfl trivial ?_ rfl)
  simp only [Tryd.ntmps46, List.size_toArray, List.length_cons, List.length_nil, Nat.reduceAdd, Nat.reduceSub, Array.replicate_succ, Array.replicate_zero, List.push_toArray, List.append_toArray, List.nil_append, List.cons_append]
  have HR := Lib.hid h
  have HLb := Lib.hid hL
  have HT := Lib.hid hT
  have HI0 := Lib.hid hi0
  have HN4 := Lib.hid hn4
  have e1 : ¬ (i0 : Int) < 0 := by omega
  have e2 : ¬ (n : Int) ≤ (i0 : Int) := by omega
  have e3 : ¬ (4096 : Int) < (n : Int) := by omega
  have hh12 := hgt_small 12 n (by simpa using hn4)
  have HH12 := Lib.hid hh12
  clear h hL hT hln hi0 hn4 hh12
  have hM0 := Mem.al (Mem.al (mem_nil w) [.int .i64 (i0 : Int)] 3) [.slice none 0 0] 60
  simp only [World.size_alloc] at hM0
  have HM0 := Lib.hid hM0
  clear hM0
  gi_wp2
  refine ⟨trivial, ?_⟩
  refine (callsIn_wide.2 (levels_any ao n c _)).mono ?_
  rintro e w4 ⟨rfl, hw4⟩
  have hM4 : Mem w4 [(w.heap.size + 1, [.slice none 0 0]), (w.heap.size, [.int .i64 (i0 : Int)])] := by rw [hw4]; exact Mem.skip HM0.out _
  have hS4 : w4.heap.size = w.heap.size + 3 := by rw [hw4]; simp
  have hB4 : Below w.heap.size w w4 := by rw [hw4]; (repeat (first | exact Below.refl _ _ | refine Below.drew ?_ | refine bl_drewN ?_ _ | (refine Below.alloc ?_ (by first | exact Nat.le_refl _ | (simp; done) | (simp; omega)) _)))
  have hC4 : w4.cell? ⟨w.heap.size + 2, 0, none⟩ = some (.slice ao n c) := by
    rw [hw4]
    have := World.cell?_alloc_new ((w.alloc (.cells #[.int .i64 (i0 : Int)] 3)).alloc (.cells #[.slice none 0 0] 60)) #[.slice ao n c] 60 0
    simp only [World.size_alloc, Nat.add_assoc, Nat.reduceAdd] at this
    exact this.trans rfl
  simp only [World.size_alloc, Nat.add_assoc, Nat.reduceAdd]
  clear hw4 HM0
  gi_wp2
  have HRo := Lib.hid (levels_rounds 2 w HT.out ao n c L HR.out HLb.out w4 hB4 (w.heap.size + 2) (by omega) hC4)
  refine wpIn_rounds rfl (enters_of Tryd.func103 (by kernel_rfl) rfl) HRo.out (Below.refl _ _) hB4.size rfl (BrJ w L n i0) (by rw [hS4]; exact BrJ.book) (VL.book _) (fun _ _ h => ko_of_below h)
    ⟨none, 0, by simpa using hM4, by simpa [brL, hsL] using ownN_nil _ _ _ _, hB4, Nat.le_of_eq hS4.symm⟩
    (fun v a' _ => a' = { tmps := #[.slice ao n c, .int .i64 (i0 : Int), undef, .pointer (some ⟨w.heap.size, 0, none⟩), .slice none 0 0, .bool false, .pointer (some ⟨w.heap.size + 1, 0, none⟩), v, .int .i64 (i0 : Int), .bool false, .bool false, .int .i64 (i0 : Int), .slice ao n c, .int .i64 (n : Int), .bool false, .bool false, .bool false, .slice ao n c, .int .i64 (n : Int), .bool false, .bool false, .slice ao n c, .func (.func 103) #[] #[.pointer (some ⟨w.heap.size + 2, 0, none⟩)], v, undef, undef, undef, undef, undef, undef, undef, undef, undef, undef, undef, undef, undef, undef, undef], defers := [] })
    (fun _ _ _ _ h _ => h) ?assign ?body ?done
  case assign =>
    intro l k v W0 W K hk hj hbk hv hK
    gi_wp2
    exact hK _ _ (Below.refl _ _) rfl
  case body =>
    rintro l k v W0 W a' hk ⟨lo, cp, hmm, hown, hbl, hsz⟩ hbook ⟨ao2, q, c2, rfl, hrow⟩ hf rfl
    have hql : q = wid n k := by have := hs_len hrow; rw [lev_len, HN.out] at this; exact this.symm
    have hM := hmm.book hbook (by rw [hS4]; simp)
    have hO := hown.book hbook
    have hblW : Below w.heap.size w W := hbl.trans (hbook.below.mono (by omega))
    have hszW : w.heap.size + 3 ≤ W.heap.size := Nat.le_trans hsz hbook.size
    have hn0 : n ≠ 0 := by have := HI0.out; omega
    have hkh : k ≤ hgt n := by unfold levN at hk; split at hk <;> omega
    have hfar : ∀ ad, ao2 = some ad → hsL (lev L k) ≠ [] → ad.block < w.heap.size ∨ W0.heap.size ≤ ad.block := by
      intro ad ha hne
      rcases hf with ⟨rfl, e⟩ | ⟨ao3, n3, c3, e, h3⟩
      · simp only [Value.slice.injEq] at e
        exact .inl (HLt.out ad (by rw [← e.1]; exact ha) hne)
      · simp only [Value.slice.injEq] at e
        exact .inr (h3 ad (by rw [← e.1]; exact ha))
    have hlk : (lev L k).length = q := hs_len hrow
    by_cases h1 : 1 < q
    · have hkl : k < hgt n := by
        rcases Nat.lt_or_ge k (hgt n) with h | h
        · exact h
        · have e : k = hgt n := by omega
          rw [hql, e, wid_top (by omega)] at h1
          omega
      have hmin : min k (hgt n) = k := by omega
      rw [hmin] at hM hO hown
      obtain ⟨bb, off, rfl⟩ := row_addr hrow (by intro e; have := congrArg List.length e; rw [hsL_len, hlk] at this; simp at this; omega)
      have hfr := hfar _ rfl (by intro e; have := congrArg List.length e; rw [hsL_len, hlk] at this; simp at this; omega)
      simp only at hfr
      obtain ⟨j, hj⟩ : ∃ j, i0 / 2 ^ k = j := ⟨_, rfl⟩
      have hjq : j < q := by
        rw [← hj, hql]
        have := (climb_lev (L := L) (i := i0) (by rw [HN.out]; exact HI0.out) k).2
        rwa [HN.out] at this
      rw [hj] at hM
      obtain ⟨s, hs⟩ : ∃ s, sibN q j = s := ⟨_, rfl⟩
      have hsq : s < q := by rw [← hs]; exact sib_lt hjq
      obtain ⟨fs, hfs⟩ : ∃ f, (lev L k)[s]? = some f := ⟨_, List.getElem?_eq_getElem (by omega)⟩
      obtain ⟨j2, hj2⟩ : ∃ j2, j / 2 = j2 := ⟨_, rfl⟩
      have hq4 : q ≤ 4096 := by rw [hql]; exact Nat.le_trans (wid_le n (by omega) k) HN4.out
      have hbr : brL L i0 (k + 1) = brL L i0 k ++ [fs] := by
        rw [brL, HN.out, ← hql, hj, hs, List.getD_eq_getElem?_getD, hfs]; rfl
      have hsq0 : 0 ≤ (s : Int) := by omega
      have hsqi : (s : Int) < (q : Int) := by omega
      have hsqn : s < q := hsq
      have h1i : (1 : Int) < (q : Int) := by omega
      have hd1 : (j : Int).tdiv 2 = (j2 : Int) := by rw [Int.tdiv_eq_ediv_of_nonneg (by omega)]; omega
      have hd2 : (j : Int) / 2 = (j2 : Int) := by omega
      have hd3 : IntKind.i64.wrap (j2 : Int) = (j2 : Int) := by rw [IntKind.wrap_i64]; omega
      have HSb := Lib.hid (fun (x : World) => (hs ▸ sibling_any (some ⟨bb, off, none⟩) q c2 j (by omega) x : Calls Tryd.prog 85 #[.slice (some ⟨bb, off, none⟩) q c2, .int .i64 (j : Int)] x fun e w' => e = .returned (.int .i64 (s : Int)) ∧ x = w'))
      have HLs := Lib.hid hfs
      have HBr := Lib.hid hbr
      have HJ2 := Lib.hid (show i0 / 2 ^ (k + 1) = j2 by rw [Nat.pow_succ, ← Nat.div_div_eq_div_mul, hj, hj2])
      have HK13 := Lib.hid (show k ≤ 12 by have := HH12.out; omega)
      have HKl := Lib.hid hkl
      have HSz := Lib.hid hszW
      have HW := Lib.hid hblW
      have HO := Lib.hid (show OwnN (w.heap.size + 3) 23 32 W.drew lo k cp (hsL (brL L i0 k)) from hO.later (Below.refl _ _).drew)
      have HAp := Lib.hid (show ∀ kk, lo = some ⟨kk, 0, none⟩ → ∀ ad, some (⟨bb, off, none⟩ : Addr) = some ad → hsL (lev L k) ≠ [] → ad.block ≠ kk from by
        intro kk hkk ad ha _
        cases ha
        rw [hkk] at hown
        have := hown.lt
        simp only
        omega)
      have HOA := Lib.hid (HO.out.alloc (.cells (b8l fs 32).toArray 23))
      have HCl := Lib.hid (own_isCells HOA.out)
      have HS0 := Lib.hid (show Row W.drew (some ⟨bb, off, none⟩) q c2 32 (hsL (lev L k)) ∧ Mem W.drew [(w.heap.size + 1, [.slice lo k cp]), (w.heap.size, [.int .i64 (j : Int)])] from ⟨hrow.drew, Mem.drew hM⟩)
      have HS1 := Lib.hid (show Row (W.drew.alloc (.cells (b8l fs 32).toArray 23)) (some ⟨bb, off, none⟩) q c2 32 (hsL (lev L k)) ∧ Mem (W.drew.alloc (.cells (b8l fs 32).toArray 23)) [(w.heap.size + 1, [.slice lo k cp]), (w.heap.size, [.int .i64 (j : Int)])] from ⟨HS0.out.1.alloc _, Mem.skip HS0.out.2 _⟩)
      have HB1 := Lib.hid (show Below w.heap.size w (W.drew.alloc (.cells (b8l fs 32).toArray 23)) from (hblW.drew).alloc (by show w.heap.size ≤ W.heap.size; omega) _)
      have HB1w := Lib.hid (show Below w.heap.size W (W.drew.alloc (.cells (b8l fs 32).toArray 23)) from ((Below.refl _ W).drew).alloc (by show w.heap.size ≤ W.heap.size; omega) _)
      have HK1 := Lib.hid (show KeepsOthers W (W.drew.alloc (.cells (b8l fs 32).toArray 23)) from (ko_drew W).trans (KeepsOthers.alloc _ _))
      have HFr := Lib.hid (show bb ≠ w.heap.size + 1 ∧ bb ≠ w.heap.size by omega)
      clear hk hmm hown hbl hsz hbook hrow hf hql hM hO hblW hszW hn0 hkh hfar hlk hkl hmin hfr hj hjq hs hsq hfs hj2 hq4 hbr hS4 hM4 hB4 hC4 h1
      gi_wp2
      refine planU_round 9 (fun x => Row x (some ⟨bb, off, none⟩) q c2 32 (hsL (lev L k)) ∧ Mem x [(w.heap.size + 1, [.slice lo k cp]), (w.heap.size, [.int .i64 (j : Int)])]) [4, 7, 8, 9] [0, 1, 2, 3, 4, 5, 6, 7, 8, 9] (by kernel_rfl) (by kernel_rfl) HS0.out (fun hHeld => ?_)
      iterate 4 (refine wpU_take rfl (by rfl) (by rfl) (by intro w' hSw; (try dsimp only [Mem, cellsAt] at hSw); go_simp; (try with_reducible rfl)) (by assumption) ?_; (try simp only [Act.put, List.setIfInBounds_toArray, List.set_cons_zero, List.set_cons_succ]))
      (refine wpU_step rfl (by rfl) (fun K hK => ?_); go_simp)
      ((with_reducible refine (HSb.out _).mono ?_); rintro e v1 ⟨rfl, rfl⟩; (refine hK.out _ _ _ (fun _ h => h) (hHeld) (fun hHeld => ?_); clear hK; clear K; (try simp only [Act.put, List.setIfInBounds_toArray, List.set_cons_zero, List.set_cons_succ])))
      iterate 1 (refine wpU_take rfl (by rfl) (by rfl) (by intro w' hSw; (try dsimp only [Mem, cellsAt] at hSw); go_simp; (try with_reducible rfl)) (by assumption) ?_; (try simp only [Act.put, List.setIfInBounds_toArray, List.set_cons_zero, List.set_cons_succ]))
      (refine wpU_yield rfl (by rfl) (Go.yieldsIf_load_mid (by rfl) 23 (.tmp 32) rfl bb ((off + s * 32)) rfl (b8l fs 32) _ (fun w' h' => hs_range h'.1 HLs.out) Tryd.underlying23 rfl (by rw [b8l_len]; kernel_rfl)) (by assumption) ?_; (try simp only [Act.put, List.setIfInBounds_toArray, List.set_cons_zero, List.set_cons_succ]))
      (refine wpU_step rfl (by rfl) (fun K hK => ?_))
      (refine step_bsH rfl (.tmp 33) fs rfl rfl ?_; (refine hK.out _ _ _ (fun _ h => h) (HS1.out) (fun hHeld => ?_); clear hK; clear K; (try simp only [Act.put, List.setIfInBounds_toArray, List.set_cons_zero, List.set_cons_succ])))
      (refine wpU_step rfl (by rfl) (fun K hK => ?_))
      (refine step_appN eltHash _ rfl (.tmp 27) (.tmp 34) rfl (w.heap.size + 3) (by have := HSz.out; show w.heap.size + 3 ≤ (W.drew.alloc _).heap.size; rw [World.size_alloc]; show w.heap.size + 3 ≤ W.heap.size + 1; omega) lo k cp (hsL (brL L i0 k)) rfl HOA.out (some ⟨W.drew.heap.size, 0, none⟩) 1 1 (b8l fs 32) rfl (row_hash W.drew fs) (fun _ => by decide) (by have := HK13.out; omega) ?_; intro g2 cp2 w7 row hown7 hgrow7 hrow7; have hlt7 := own_row_lt HOA.out hrow7; have HO7 := Lib.hid (ownN_of hown7); have hlt8 := hown7.lt g2 rfl; have HM7 := Lib.hid (Mem.grown hgrow7 (by intro p hp kk hkk; have h1 := (hlt7 kk hkk).1; simp at hp; rcases hp with rfl | rfl <;> (simp only; omega)) HS1.out.2); have HR7 := Lib.hid (HS1.out.1.grown hgrow7 (by intro kk hkk ad ha hx; exact HAp.out kk (hrow7 kk hkk) ad ha hx)); have HB7 := Lib.hid (below_grown (w0 := w) HB1.out hgrow7 (fun kk hkk => by have := (hlt7 kk hkk).1; omega)); have HB7w := Lib.hid (show Below w.heap.size W w7 from (bl_gr HB1w.out hgrow7 (by have := HSz.out; show w.heap.size ≤ (W.drew.alloc _).heap.size; rw [World.size_alloc]; show w.heap.size ≤ W.heap.size + 1; omega) (fun kk hkk => by have := (hlt7 kk hkk).1; omega))); have HK7 := Lib.hid (HK1.out.trans (KeepsOthers.of_grownBy hgrow7 (fun j o hj ho => HCl.out j o (hrow7 j hj) ho))); have HG2 := Lib.hid hlt8; clear hown7 hgrow7 hrow7 hlt7 hlt8; (refine hK.out _ _ _ (fun _ h => h) (⟨HR7.out, HM7.out⟩) (fun hHeld => ?_); clear hK; clear K; (try simp only [Act.put, List.setIfInBounds_toArray, List.set_cons_zero, List.set_cons_succ])))
      have hc7 := HM7.out.1.2.2.1
      have hf7 := HM7.out.1.2.1 0
      (refine wpU_last rfl (by rfl) (fun K hK => ?_); go_simp)
      (refine hK.out _ _ ?_; clear hK; clear K; (try simp only [Act.put, List.setIfInBounds_toArray, List.set_cons_zero, List.set_cons_succ]))
      (refine wpU_nilR ?_)
      obtain ⟨W8, hW8⟩ : ∃ x, w7.setCell ⟨w.heap.size + 1, 0, none⟩ (.slice (some ⟨g2, 0, none⟩) (k + 1) cp2) = x := ⟨_, rfl⟩
      rw [hW8]
      have HM8 := Lib.hid (show Mem W8 [(w.heap.size + 1, [.slice (some ⟨g2, 0, none⟩) (k + 1) cp2]), (w.heap.size, [.int .i64 (j : Int)])] from by rw [← hW8]; exact Mem.set (by simp) HM7.out)
      have HR8 := Lib.hid (show Row W8 (some ⟨bb, off, none⟩) q c2 32 (hsL (lev L k)) from by rw [← hW8]; exact HR7.out.setFar _ _ (by intro ad h _; cases h; exact HFr.out.1))
      have HO8 := Lib.hid (show OwnN (w.heap.size + 3) 23 32 W8 (some ⟨g2, 0, none⟩) (k + 1) cp2 (hsL (brL L i0 k) ++ b8l fs 32) from by rw [← hW8]; exact HO7.out.setFar _ _ (by simp))
      have HB8 := Lib.hid (show Below w.heap.size w W8 from by rw [← hW8]; exact HB7.out.setCell (p := ⟨w.heap.size + 1, 0, none⟩) (Nat.le_succ _) _)
      have HB8w := Lib.hid (show Below w.heap.size W W8 from by rw [← hW8]; exact HB7w.out.setCell (p := ⟨w.heap.size + 1, 0, none⟩) (Nat.le_succ _) _)
      have HK8 := Lib.hid (show KeepsOthers W W8 from by rw [← hW8]; exact HK7.out.trans (KeepsOthers.setCell _ _ _))
      clear hW8 HM7 HR7 HO7 HB7 HB7w HK7
      have hc8 := HM8.out.2.1.2.2.1
      have hf8 := HM8.out.2.1.2.1 0
      gi_wp2
      refine ⟨HK8.out.trans (KeepsOthers.setCell _ _ _), ⟨some ⟨g2, 0, none⟩, cp2, ?_, ?_, HB8.out.setCell (p := ⟨w.heap.size, 0, none⟩) (Nat.le_refl _) _, ?_⟩, ⟨_, _, _, rfl, HR8.out.setFar _ _ (by intro ad h _; cases h; exact HFr.out.2)⟩, HB8w.out.setCell (p := ⟨w.heap.size, 0, none⟩) (Nat.le_refl _) _⟩
      · rw [show min (k + 1) (hgt n) = k + 1 by have := HKl.out; omega, HJ2.out]
        have h1 : Mem W8 ((w.heap.size, [.int .i64 (j : Int)]) :: [(w.heap.size + 1, [.slice (some ⟨g2, 0, none⟩) (k + 1) cp2])]) := ⟨HM8.out.2.1, HM8.out.1, trivial⟩
        have h2 := Mem.setN (k := 0) (v := .int .i64 (j2 : Int)) (by simp) h1
        exact ⟨h2.2.1, h2.1, trivial⟩
      · rw [show min (k + 1) (hgt n) = k + 1 by have := HKl.out; omega, HBr.out, hsL_app, show hsL [fs] = b8l fs 32 by simp [hsL]]
        exact HO8.out.setFar _ _ (by simp)
      · have := HB8w.out.size; have := HSz.out; rw [sz_setCell]; omega
    · have hkt : k = hgt n := hgt_of (by omega) (by rw [← hql]; exact h1) hkh
      have h1i : ¬ (1 : Int) < (q : Int) := by omega
      have HE := Lib.hid (show BrJ w L n i0 (k + 1) W ∧ VL L k (.slice ao2 q c2) W from ⟨⟨lo, cp, by rw [show min (k + 1) (hgt n) = min k (hgt n) by omega]; exact hM, by rw [show min (k + 1) (hgt n) = min k (hgt n) by omega]; exact hO, hblW, hszW⟩, ⟨_, _, _, rfl, hrow⟩⟩)
      clear hk hmm hown hbl hsz hbook hrow hf hql hM hO hblW hszW hn0 hkh hfar hlk hS4 hM4 hB4 hC4 h1 hkt
      gi_wp2
      exact ⟨KeepsOthers.refl _, HE.out.1, HE.out.2, Below.refl _ _⟩
  case done =>
    rintro W0 W2 W ⟨lo, cp, hmm, hown, hbl, hsz⟩ hE hbook hD
    have hlv : levN n = hgt n + 1 := by unfold levN; rw [if_neg (by have := HI0.out; have := HN4.out; omega)]
    rw [hlv, show min (hgt n + 1) (hgt n) = hgt n by omega] at hmm hown
    have hm2 := (hmm.later hE).book hbook (by rw [hS4]; simp)
    have ho2 := (hown.later hE).book hbook
    have hbW : Below w.heap.size w W := (hbl.trans (hE.mono (by omega))).trans (hbook.below.mono (by omega))
    have HSw := Lib.hid (show w.heap.size ≤ w4.heap.size by omega)
    have HO := Lib.hid ho2
    have HBW := Lib.hid hbW
    have HDf := Lib.hid hD
    have hc := hm2.1.2.2.1
    clear hlv hmm hown hbl hsz hE hbook hD hm2 ho2 hbW hS4 hM4 hB4 hC4
    gi_wp2
    refine leaves_mark (v := .tuple #[.slice lo (hgt n) cp, .bool true]) HDf.out (by first | exact results_tmp2 rfl _ _ _ | simp [results, Tryd.results46, Result.andThen]) ⟨lo, cp, rfl, ?_, bl_putObj HBW.out HSw.out _⟩
    rcases HO.out with ⟨h1, h2, h3, h4⟩ | ⟨g, h1, h2⟩
    · exact .inl ⟨h1, h2, h3, h4⟩
    · exact .inr ⟨g, h1, own_putObj (ownsRow_base h2 (by omega)) HDf.out rfl⟩
end Go.Proofs.YtddcceifblpmbaaDoor
