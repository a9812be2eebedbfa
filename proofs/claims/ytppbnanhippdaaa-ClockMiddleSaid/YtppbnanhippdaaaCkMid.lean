/- ClockMiddle: the walk. -/
import Derived.Test.YtppbnanhippdaaaCk4
namespace Go.Proofs.Ytppbnanhippdaaa
set_option linter.unusedVariables false
set_option linter.unusedSimpArgs false
open Go.RowKit

def cLt (l : List Int) (m : Int) (j : Nat) : Nat := ((tl l).take j).countP fun x => decide (x < m)
def cGt (l : List Int) (m : Int) (j : Nat) : Nat := ((tl l).take j).countP fun x => decide (m < x)
def cEq (l : List Int) (m : Int) (j : Nat) : Nat := ((tl l).take j).countP fun x => decide (x = m)
theorem take_succ_tl (l : List Int) (j q k n : Nat) (hl : l.length = n) (hk : k = min n 11) (hq : q = n - k) (hj : j < k) (p : Int → Bool) :
    ((tl l).take (j + 1)).countP p = ((tl l).take j).countP p + if p (l.getD (q + j) 0) then 1 else 0 := by
  have hlt : j < (tl l).length := by rw [tl_len]; omega
  rw [List.take_succ_eq_append_getElem hlt, List.countP_append, List.countP_singleton]
  have : (tl l)[j] = l.getD (q + j) 0 := by
    have h1 : (tl l)[j]? = some ((tl l)[j]) := List.getElem?_eq_getElem hlt
    have h2 : (tl l)[j]? = l[q + j]? := by
      unfold tl
      rw [List.getElem?_drop]
      congr 1
      omega
    rw [h2, List.getElem?_eq_getElem (by omega)] at h1
    rw [getD_lt _ _ (by omega)]
    exact (Option.some.inj h1).symm
  rw [this]

theorem cnt_le (l : List Int) (m : Int) (j : Nat) (hj : j ≤ 200) : cLt l m j ≤ 200 ∧ cGt l m j ≤ 200 ∧ cEq l m j ≤ 200 := by
  have h (p : Int → Bool) : ((tl l).take j).countP p ≤ 200 := Nat.le_trans List.countP_le_length (by simp; omega)
  exact ⟨h _, h _, h _⟩

theorem med_all {w4 : World} {B g2 cap2 N : Nat} {l l2 : List Int} (hown : w4.ownsRow B 22 1 (.slice (some ⟨g2, 0, none⟩) N cap2) N (c32 l2 ++ c32 l)) (hN : N ≤ 1000000) (m : Int) (hm : med (l2 ++ l) = m) (w' : World) (h : Below w4.heap.size w4 w') :
    Calls Try.prog 12 #[.slice (some ⟨g2, 0, none⟩) N cap2] w' fun e w'' => e = .returned (.int .u32 m) ∧ Below w'.heap.size w' w'' := by
  rw [← c32_app] at hown
  have := median_any _ N cap2 (l2 ++ l) w' ((row_own hown (c32_one _)).later h) hN
  rwa [hm] at this

def MidRel (w : World) (l : List Int) (m : Int) (k q : Nat) (b a s i : Value) (wr : World) : Prop :=
  ∃ j : Nat, j ≤ k ∧ i = .int .i64 ((q + j : Nat) : Int) ∧ b = .int .i64 (cLt l m j : Int) ∧ a = .int .i64 (cGt l m j : Int) ∧ s = .int .i64 (cEq l m j : Int) ∧ Below w.heap.size w wr

set_option maxHeartbeats 1000000 in
theorem middle_walk (ao : Option Addr) (n c : Nat) (l : List Int) (bo : Option Addr) (n2 c2 : Nat) (l2 : List Int) (w : World) (hr : Row w ao n c 1 (c32 l)) (hm : n ≤ maxLen) (hr2 : Row w bo n2 c2 1 (c32 l2)) (hm2 : n2 ≤ maxLen) :
    Calls Try.prog 4 #[.slice ao n c, .slice bo n2 c2] w fun e w' => e = .returned (.bool true) ∧ Below w.heap.size w w' := by
  unfold maxLen at hm hm2
  have hnc := hr.le
  have hl := hr.len32
  have hl2 := hr2.len32
  have HR := Lib.hid hr
  have HR2 := Lib.hid hr2
  by_cases h200 : 200 < n
  · have : (200 : Int) < (n : Int) := by omega
    clear hl hl2 hr hr2
    go_enter Try.func4, Try.ntmps4
    go_wp2_with (go_at_call 8; refine (awake_any _).mono ?_; rintro e w1 ⟨rfl, hb1⟩)
    go_ret
    exact ⟨rfl, hb1⟩
  have h200' : ¬ ((200 : Int) < (n : Int)) := by omega
  by_cases h202 : 200 < n2
  · have : (200 : Int) < (n2 : Int) := by omega
    clear hl hl2 hr hr2
    go_enter Try.func4, Try.ntmps4
    go_wp2_with (go_at_call 8; refine (awake_any _).mono ?_; rintro e w1 ⟨rfl, hb1⟩)
    go_ret
    exact ⟨rfl, hb1⟩
  have h202' : ¬ ((200 : Int) < (n2 : Int)) := by omega
  obtain ⟨m, hmm⟩ : ∃ m, med l = m := ⟨_, rfl⟩
  have HM := Lib.hid (fun w' (h : Below w.heap.size w w') => by have := median_any ao n c l w' (HR.out.later h) (by omega); rwa [hmm] at this)
  obtain ⟨k, hk⟩ : ∃ k, k = min n 11 := ⟨_, rfl⟩
  obtain ⟨q, hq⟩ : ∃ q, q = n - k := ⟨_, rfl⟩
  have HL := Lib.hid (fun w' (h : Below w.heap.size w w') => by have := last_any ao n c l w' (HR.out.later h) (by omega); rwa [← hk] at this)
  have hmin : min (n : Int) 11 = (k : Int) := by omega
  have hsub : (n : Int) - (k : Int) = (q : Int) := by omega
  have hk11 : k ≤ 11 := by omega
  have hqk : q + k = n := by omega
  have HQK := Lib.hid hqk
  have hqn : q ≤ n := by omega
  have hkn : k ≤ n := by omega
  have HT := Lib.hid (fun j hj p => take_succ_tl l j q k n hl.symm hk hq hj p)
  have HF := Lib.hid (show cLt l m k ≤ k / 2 ∧ (0 < k → cGt l m k ≤ k - 1 - k / 2 ∧ 0 < cEq l m k) by
    have e : (tl l).take k = tl l := List.take_of_length_le (by rw [tl_len]; omega)
    unfold cLt cGt cEq
    rw [e, ← hmm, hk, hl]
    exact ⟨med_below l, fun h => ⟨med_above l (by omega), med_same l (by omega)⟩⟩)
  have HZ := Lib.hid (show n = 0 → m = 0 by
    intro h
    have hs := srt_len l
    rw [← hmm]; unfold med; have : srt l = [] := List.eq_nil_of_length_eq_zero (by omega); rw [this]; rfl)
  have HAM := Lib.hid (show k = 11 → med (l2 ++ l) = m by intro h; rw [med_app l2 l (by omega), hmm])
  clear hmm hk hq hqk hl hl2 hr hr2
  go_enter Try.func4, Try.ntmps4
  go_wp2_with (first | (go_at_call 8; refine (awake_any _).mono ?_; rintro e w1 ⟨rfl, hb1⟩) | (go_at_call 12; (with_reducible refine (HM.out _ hb1).mono ?_); rintro e w2 ⟨rfl, hb⟩; replace hb1 := bl_then hb1 hb; clear hb))
  go_loopw [8, 9, 10, 11] (fun b a s i wr => MidRel w l m k q b a s i wr) (fun _ _ _ i _ => n - (intOf i).toNat)
  case atStart => exact ⟨0, by omega, by simp, by simp [cLt], by simp [cGt], by simp [cEq], hb1⟩
  case round =>
    clear hb1
    obtain ⟨j, hj, rfl, rfl, rfl, rfl, hb1⟩ := hrel
    by_cases hlt : j < k
    · obtain ⟨x, hx⟩ : ∃ x, l.getD (q + j) 0 = x := ⟨_, rfl⟩
      have h1 := HT.out j hlt (fun x => decide (x < m))
      have h2 := HT.out j hlt (fun x => decide (m < x))
      have h3 := HT.out j hlt (fun x => decide (x = m))
      rw [hx] at h1 h2 h3
      change cLt l m (j + 1) = cLt l m j + _ at h1
      change cGt l m (j + 1) = cGt l m j + _ at h2
      change cEq l m (j + 1) = cEq l m j + _ at h3
      obtain ⟨b, off, rfl⟩ : ∃ b off, ao = some ⟨b, off, none⟩ := row_addr HR.out (by intro e; have := HR.out.len; rw [e] at this; simp at this; omega)
      have hc := (HR.out.later hb1).cell32 (q + j) (by have := HQK.out; omega)
      rw [hx] at hc
      clear hx
      have hjn : (q : Int) + (j : Int) < (n : Int) := by have := HQK.out; omega
      have hcb : cLt l m j ≤ 200 ∧ cGt l m j ≤ 200 ∧ cEq l m j ≤ 200 := cnt_le l m j (by omega)
      rcases Int.lt_trichotomy x m with hxm | hxm | hxm
      · have e1 : cLt l m (j + 1) = cLt l m j + 1 := by rw [h1, if_pos (by simpa using hxm)]
        have e2 : cGt l m (j + 1) = cGt l m j := by rw [h2, if_neg (by simp; omega)]; rfl
        have e3 : cEq l m (j + 1) = cEq l m j := by rw [h3, if_neg (by simp; omega)]; rfl
        have E := Lib.hid (And.intro e1 (And.intro e2 e3))
        have hxg : ¬ m < x := by omega
        have hxe : ¬ x = m := by omega
        clear h1 h2 h3 e1 e2 e3
        go_wp2
        go_roundw
        case rel => exact ⟨j + 1, by omega, by go_num, by rw [E.out.1]; simp, by rw [E.out.2.1], by rw [E.out.2.2], hb1⟩
        case measure => simp [intOf]; omega
      · subst hxm
        have e1 : cLt l x (j + 1) = cLt l x j := by rw [h1, if_neg (by simp)]; rfl
        have e2 : cGt l x (j + 1) = cGt l x j := by rw [h2, if_neg (by simp)]; rfl
        have e3 : cEq l x (j + 1) = cEq l x j + 1 := by rw [h3, if_pos (by simp)]
        have E := Lib.hid (And.intro e1 (And.intro e2 e3))
        clear h1 h2 h3 e1 e2 e3
        go_wp2
        go_roundw
        case rel => exact ⟨j + 1, by omega, by go_num, by rw [E.out.1], by rw [E.out.2.1], by rw [E.out.2.2]; simp, hb1⟩
        case measure => simp [intOf]; omega
      · have e1 : cLt l m (j + 1) = cLt l m j := by rw [h1, if_neg (by simp; omega)]; rfl
        have e2 : cGt l m (j + 1) = cGt l m j + 1 := by rw [h2, if_pos (by simpa using hxm)]
        have e3 : cEq l m (j + 1) = cEq l m j := by rw [h3, if_neg (by simp; omega)]; rfl
        have E := Lib.hid (And.intro e1 (And.intro e2 e3))
        have hxg : ¬ x < m := by omega
        have hxe : ¬ x = m := by omega
        clear h1 h2 h3 e1 e2 e3
        go_wp2
        go_roundw
        case rel => exact ⟨j + 1, by omega, by go_num, by rw [E.out.1], by rw [E.out.2.1]; simp, by rw [E.out.2.2], hb1⟩
        case measure => simp [intOf]; omega
    · have hjk : j = k := by omega
      subst hjk
      have hqn' : (q : Int) + (j : Int) = (n : Int) := by have := HQK.out; omega
      have HO := Lib.hid (lit0 wr)
      have hf1 := HF.out.1
      have hf2 := HF.out.2
      have hb0 := hb1
      have hz := HZ.out
      rcases Nat.eq_zero_or_pos j with hj0 | hj0
      · subst hj0
        have hm0 := HZ.out (by have := HQK.out; omega)
        subst hm0
        clear hf1 hf2
        go_wp2_with (first | (go_at_call 10; (with_reducible refine (HL.out _ hb1).mono ?_); rintro e w2 ⟨ao9, m9, c9, rfl, rfl, _, hb⟩; replace hb1 := bl_then hb1 hb; clear hb) | (at_builtin; refine wpList_appO eltU32 _ rfl _ _ rfl wr.heap.size wr.heap.size 0 0 [] rfl HO.out bo n2 c2 _ rfl (HR2.out.later (hb1.alloc hb1.size _)) (by omega) (by simp) ?_; intro g1 cap1 w3 hown1 hgrow1 hg1 hB1 hlt1; have hb3 := below_grown (below_alloc wr _) hgrow1 (fun k hk => by cases hk; exact Nat.le_refl _); replace hb1 := bl_then hb1 hb3; clear hgrow1 hg1; rw [Nat.zero_add, List.nil_append] at hown1; have HO1 := Lib.hid hown1; clear hown1) | (at_builtin; refine wpList_appO eltU32 _ rfl _ _ rfl wr.heap.size g1 n2 cap1 _ rfl HO1.out ao n c _ rfl (HR.out.later hb1) (by omega) hb3.size ?_; intro g2 cap2 w4 hown2 hgrow2 hg2 hB2 hlt2; have hb4 := below_grown hb3 hgrow2 (fun k hk => by cases hk; exact hB1); replace hb1 := bl_then hb0 hb4; skip; have hb5 := Below.refl w4.heap.size w4; clear hgrow2 hg2 hown2))
        go_ret
        exact ⟨by first | rfl | (simp; done) | (simp; omega), hb1⟩
      · obtain ⟨hf2, hf3⟩ := hf2 hj0
        have hf1' : ¬ ((j : Int) / 2 < (cLt l m j : Int)) := by omega
        have hf2' : ¬ ((j : Int) - 1 - (j : Int) / 2 < (cGt l m j : Int)) := by omega
        have hf3' : ¬ ((cEq l m j : Int) = 0) := by omega
        have hj0' : (0 : Int) < (j : Int) := by omega
        clear hz
        by_cases h11 : j < 11
        · have h11' : (j : Int) < 11 := by omega
          go_wp2_with (first | (go_at_call 10; (with_reducible refine (HL.out _ hb1).mono ?_); rintro e w2 ⟨ao9, m9, c9, rfl, rfl, _, hb⟩; replace hb1 := bl_then hb1 hb; clear hb) | (at_builtin; refine wpList_appO eltU32 _ rfl _ _ rfl wr.heap.size wr.heap.size 0 0 [] rfl HO.out bo n2 c2 _ rfl (HR2.out.later (hb1.alloc hb1.size _)) (by omega) (by simp) ?_; intro g1 cap1 w3 hown1 hgrow1 hg1 hB1 hlt1; have hb3 := below_grown (below_alloc wr _) hgrow1 (fun k hk => by cases hk; exact Nat.le_refl _); replace hb1 := bl_then hb1 hb3; clear hgrow1 hg1; rw [Nat.zero_add, List.nil_append] at hown1; have HO1 := Lib.hid hown1; clear hown1) | (at_builtin; refine wpList_appO eltU32 _ rfl _ _ rfl wr.heap.size g1 n2 cap1 _ rfl HO1.out ao n c _ rfl (HR.out.later hb1) (by omega) hb3.size ?_; intro g2 cap2 w4 hown2 hgrow2 hg2 hB2 hlt2; have hb4 := below_grown hb3 hgrow2 (fun k hk => by cases hk; exact hB1); replace hb1 := bl_then hb0 hb4; skip; have hb5 := Below.refl w4.heap.size w4; clear hgrow2 hg2 hown2))
          go_ret
          exact ⟨by first | rfl | (simp; done) | (simp; omega), hb1⟩
        · have h11' : j = 11 := by omega
          subst h11'
          have HAM := Lib.hid (HAM.out rfl)
          have hg1 : ¬ ((5 : Int) < (cLt l m 11 : Int)) := by omega
          have hg2 : ¬ ((5 : Int) < (cGt l m 11 : Int)) := by omega
          clear hf1' hf2'
          go_wp2_with (first | (go_at_call 12; (with_reducible refine (HMA.out _ hb5).mono ?_); rintro e w5 ⟨rfl, hb⟩; replace hb1 := bl_then hb1 hb; clear hb) | (go_at_call 10; (with_reducible refine (HL.out _ hb1).mono ?_); rintro e w2 ⟨ao9, m9, c9, rfl, rfl, _, hb⟩; replace hb1 := bl_then hb1 hb; clear hb) | (at_builtin; refine wpList_appO eltU32 _ rfl _ _ rfl wr.heap.size wr.heap.size 0 0 [] rfl HO.out bo n2 c2 _ rfl (HR2.out.later (hb1.alloc hb1.size _)) (by omega) (by simp) ?_; intro g1 cap1 w3 hown1 hgrow1 hg1 hB1 hlt1; have hb3 := below_grown (below_alloc wr _) hgrow1 (fun k hk => by cases hk; exact Nat.le_refl _); replace hb1 := bl_then hb1 hb3; clear hgrow1 hg1; rw [Nat.zero_add, List.nil_append] at hown1; have HO1 := Lib.hid hown1; clear hown1) | (at_builtin; refine wpList_appO eltU32 _ rfl _ _ rfl wr.heap.size g1 n2 cap1 _ rfl HO1.out ao n c _ rfl (HR.out.later hb1) (by omega) hb3.size ?_; intro g2 cap2 w4 hown2 hgrow2 hg2 hB2 hlt2; have hb4 := below_grown hb3 hgrow2 (fun k hk => by cases hk; exact hB1); replace hb1 := bl_then hb0 hb4; have HMA := Lib.hid (med_all hown2 (by omega) m HAM.out); have hb5 := Below.refl w4.heap.size w4; clear hgrow2 hg2 hown2))
          go_ret
          exact ⟨by first | rfl | (simp; done) | (simp; omega), hb1⟩
end Go.Proofs.Ytppbnanhippdaaa
