/- ClockOrder: the walk. -/
import Derived.Test.YtppbnanhippdaaaCkS
import Derived.Test.YtppbnanhippdaaaCkMay
namespace Go.Proofs.Ytppbnanhippdaaa
set_option linter.unusedVariables false
set_option linter.unusedSimpArgs false
open Go.RowKit

/-- the last j, turned around -/
def revN (l : List Int) (j : Nat) : List Int := (l.drop (l.length - j)).reverse
theorem revN_len (l : List Int) (j : Nat) (h : j ≤ l.length) : (revN l j).length = j := by simp [revN]; omega
theorem revN_succ (l : List Int) (j : Nat) (h : j < l.length) : revN l (j + 1) = revN l j ++ [l.getD (l.length - 1 - j) 0] := by
  unfold revN
  rw [show l.length - (j + 1) = l.length - 1 - j by omega, List.drop_eq_getElem_cons (show l.length - 1 - j < l.length by omega), List.reverse_cons, getD_lt _ _ (by omega), show l.length - 1 - j + 1 = l.length - j by omega]
theorem revN_all (l : List Int) : revN l l.length = l.reverse := by simp [revN]

def OrdRel (w : World) (l : List Int) (back i : Value) (wr : World) : Prop :=
  ∃ (j cap : Nat) (ao : Option Addr), j ≤ l.length ∧ i = .int .i64 ((l.length : Int) - 1 - (j : Int)) ∧ back = .slice ao j cap ∧ OwnN w.heap.size 22 1 wr ao j cap (c32 (revN l j)) ∧ Below w.heap.size w wr

theorem own_med' {w4 : World} {B c : Nat} {ao : Option Addr} {L : List Int} {n : Nat} (hown : OwnN B 22 1 w4 ao n c (c32 L)) (hN : n ≤ 1000000) (m : Int) (hm : med L = m) (w' : World) (h : Below w4.heap.size w4 w') :
    Calls Try.prog 12 #[.slice ao n c] w' fun e w'' => e = .returned (.int .u32 m) ∧ Below w'.heap.size w' w'' := by
  have := median_any _ n c L w' ((hown.row (c32_one _)).later h) hN
  rwa [hm] at this

theorem row_mt (w : World) (ao : Option Addr) (c : Nat) (h : ao = none → c = 0) : Row w ao 0 c 1 [] :=
  ⟨by simp, Nat.zero_le _, h, fun _ _ i u hu => by simp at hu, fun _ h => by cases h⟩

set_option maxHeartbeats 1000000 in
theorem order_walk (ao : Option Addr) (n c : Nat) (l : List Int) (k : Int) (w : World) (hr : Row w ao n c 1 (c32 l)) (hm : n ≤ maxLen) :
    Calls Try.prog 5 #[.slice ao n c, .int .i64 k] w fun e w' => e = .returned (.bool true) ∧ Below w.heap.size w w' := by
  unfold maxLen at hm
  have hnc := hr.le
  have hl := hr.len32
  have HR := Lib.hid hr
  have HL := Lib.hid hl
  clear hr hl
  by_cases h11 : (11 : Int) < (n : Int)
  · go_enter Try.func5, Try.ntmps5
    go_wp2_with (go_at_call 8; refine (awake_any _).mono ?_; rintro e w1 ⟨rfl, hb1⟩)
    go_ret
    exact ⟨rfl, hb1⟩
  obtain ⟨K, hK, hK0, hK1⟩ : ∃ N, bits .and .i64 k 65535 = N ∧ 0 ≤ N ∧ N ≤ 65535 := ⟨_, rfl, (and_i64 k 65535 (by decide)).1, (and_i64 k 65535 (by decide)).2⟩
  go_enter Try.func5, Try.ntmps5
  go_wp2_with (go_at_call 8; refine (awake_any _).mono ?_; rintro e w1 ⟨rfl, hb1⟩)
  go_loopw [6, 7] (fun back i wr => OrdRel w l back i wr) (fun _ i _ => ((intOf i) + 1).toNat)
  case atStart => exact ⟨0, 0, none, by omega, by rw [← HL.out]; simp, rfl, by simpa [revN, c32] using ownN_nil w.heap.size 22 1 w1, hb1⟩
  case round =>
    clear hb1
    obtain ⟨j, cap, ao3, hj, rfl, rfl, hown, hb1⟩ := hrel
    rw [← HL.out] at hj
    have HO := Lib.hid hown
    clear hown
    by_cases hlt : j < n
    · obtain ⟨q, hq⟩ : ∃ q, q = n - 1 - j := ⟨_, rfl⟩
      have hi : (l.length : Int) - 1 - (j : Int) = (q : Int) := by rw [← HL.out]; omega
      rw [hi]
      obtain ⟨b, off, rfl⟩ : ∃ b off, ao = some ⟨b, off, none⟩ := row_addr HR.out (by intro e; have := HR.out.len; rw [e] at this; simp at this; omega)
      have hc := (HR.out.later hb1).cell32 q (by omega)
      obtain ⟨x, hx⟩ : ∃ x, l.getD q 0 = x := ⟨_, rfl⟩
      rw [hx] at hc
      have HS := Lib.hid (show revN l (j + 1) = revN l j ++ [x] by rw [revN_succ l j (by rw [← HL.out]; exact hlt), ← HL.out, ← hq, hx])
      have HI := Lib.hid hi
      have HQ := Lib.hid hq
      clear hx hi
      have hqn : (q : Int) < (n : Int) := by omega
      clear hq
      have HN := Lib.hid (HO.out.alloc (.cells #[.int .u32 x] 22))
      have HX := Lib.hid (row_new wr #[.int .u32 x] 22 1 1 1 rfl (by omega) (by simp [Value.oneCell']))
      go_wp2_with (at_builtin; refine wpList_appN eltU32 w _ (hb1.alloc hb1.size _) rfl _ _ rfl _ j cap _ rfl HN.out _ 1 1 _ rfl HX.out (fun h => by decide) (by omega) ?_; intro g3 cap3 w3 hown3 hb3; replace hown3 := Lib.hid hown3)
      go_roundw
      case rel => exact ⟨j + 1, cap3, some ⟨g3, 0, none⟩, by rw [← HL.out]; omega, by have := HI.out; go_num, rfl, .inr ⟨g3, rfl, by rw [HS.out, c32_app]; exact hown3.out⟩, hb3⟩
      case measure => first | (simp [intOf]; done) | (simp [intOf]; omega)
    · have hjn : j = n := by omega
      subst hjn
      have hi : (l.length : Int) - 1 - (j : Int) = -1 := by rw [← HL.out]; omega
      rw [hi]
      clear hi
      obtain ⟨μ, hμ⟩ : ∃ μ, med l = μ := ⟨_, rfl⟩
      have HML := Lib.hid (fun w' (h : Below wr.heap.size wr w') => by have := median_any ao j c l w' (HR.out.later (bl_then hb1 h)) (by omega); rwa [hμ] at this)
      have HMB := Lib.hid (own_med' HO.out (by omega) μ (by rw [← hμ, HL.out, revN_all]; exact med_of_perm (List.reverse_perm l) (by rw [List.length_reverse, ← HL.out]; omega)))
      obtain ⟨M, hM⟩ : ∃ M, min j 11 = M := ⟨_, rfl⟩
      have hM11 : M ≤ 11 := by omega
      have HLL := Lib.hid (fun w' (h : Below wr.heap.size wr w') => by have := last_any ao j c l w' (HR.out.later (bl_then hb1 h)) (by omega); rwa [hM] at this)
      have hsrt : srt (revN l j) = srt l := by rw [HL.out, revN_all]; exact srt_of_perm (List.reverse_perm l) (by rw [List.length_reverse, ← HL.out]; omega)
      have HLB := Lib.hid (fun w' (h : Below wr.heap.size wr w') => by have := last_any ao3 j cap (revN l j) w' ((HO.out.row (c32_one _)).later h) (by omega); rwa [hsrt, hM] at this)
      have HSM := Lib.hid (fun ao n c bo c2 w' h h2 hn => by have := same_any ao n c (srt l) bo n c2 (srt l) w' h h2 hn; simpa using this)
      have HO0 := Lib.hid (ownN_lit0 wr.heap.size 22 1 wr (Nat.le_refl _))
      have hb2 := below_alloc wr (.cells #[] 22)
      rcases Nat.eq_zero_or_pos j with hj0 | hj0
      · subst hj0
        have hl0 : l = [] := List.eq_nil_of_length_eq_zero HL.out.symm
        subst hl0
        have HPO := Lib.hid hμ
        have hnil : ao = none → c = 0 := HR.out.nil
        clear hμ hsrt hM
        by_cases hc0 : c = 0
        · subst hc0
          have HNZ2 := Lib.hid (fun (_ : ao = none) => rfl (a := 0))
          clear hnil
          go_wp2_with (first | (go_at_call 12; (first | (with_reducible refine (HMB.out _ hb5).mono ?_) | (with_reducible refine (HML.out _ hb5).mono ?_) | (with_reducible refine (HMO.out _ hb6).mono ?_)); rintro e w6 ⟨rfl, hb⟩; replace hb5 := bl_then hb5 hb; first | (replace hb6 := bl_then hb6 hb; clear hb) | (have hb6 := hb; clear hb)) | (go_at_call 10; (first | (with_reducible refine (HLB.out _ hb5).mono ?_) | (with_reducible refine (HLL.out _ hb5).mono ?_)); rintro e w6 ⟨ao7, m7, c7, hm7, rfl, hrw, hb⟩; subst hm7; replace hb5 := bl_then hb5 hb; (first | (have hrw2 := Lib.hid hrw; replace hrw1 := Lib.hid (hrw1.out.later hb); clear hrw hb) | (have hrw1 := Lib.hid hrw; clear hrw hb))) | (go_at_call 9; (with_reducible refine (HSM.out _ _ _ _ _ _ hrw1.out hrw2.out (by omega)).mono ?_); rintro e w7 ⟨rfl, hb⟩; replace hb5 := bl_then hb5 hb; clear hb) | (at_builtin; refine wpList_appN eltU32 wr _ hb2 rfl _ _ rfl _ 0 0 [] rfl HO0.out _ _ _ [] rfl (row_mt _ _ _ HNZ2.out) (fun h => by cases h) (by omega) ?_; intro g4 cap4 w4 hown4 hb4; rw [Nat.zero_add, List.nil_append] at hown4; have HO4 := Lib.hid hown4; clear hown4) | (at_builtin; refine wpList_appN eltU32 wr _ hb4 rfl _ _ rfl _ _ cap4 _ rfl (.inr ⟨g4, rfl, HO4.out⟩) _ _ _ [] rfl (row_mt _ _ _ HNZ2.out) (fun h => by cases h) (by omega) ?_; intro g5 cap5 w5 hown5 hb5; have hb6 := Below.refl w5.heap.size w5; have HMO := Lib.hid (own_med' (L := []) (.inr ⟨g5, rfl, hown5⟩) (by omega) μ HPO.out); clear hown5))
          go_ret
          exact ⟨rfl, bl_then hb1 hb5⟩
        · have HNZ2 := Lib.hid hnil
          clear hnil
          go_wp2_with (first | (go_at_call 12; (first | (with_reducible refine (HMB.out _ hb5).mono ?_) | (with_reducible refine (HML.out _ hb5).mono ?_) | (with_reducible refine (HMO.out _ hb6).mono ?_)); rintro e w6 ⟨rfl, hb⟩; replace hb5 := bl_then hb5 hb; first | (replace hb6 := bl_then hb6 hb; clear hb) | (have hb6 := hb; clear hb)) | (go_at_call 10; (first | (with_reducible refine (HLB.out _ hb5).mono ?_) | (with_reducible refine (HLL.out _ hb5).mono ?_)); rintro e w6 ⟨ao7, m7, c7, hm7, rfl, hrw, hb⟩; subst hm7; replace hb5 := bl_then hb5 hb; (first | (have hrw2 := Lib.hid hrw; replace hrw1 := Lib.hid (hrw1.out.later hb); clear hrw hb) | (have hrw1 := Lib.hid hrw; clear hrw hb))) | (go_at_call 9; (with_reducible refine (HSM.out _ _ _ _ _ _ hrw1.out hrw2.out (by omega)).mono ?_); rintro e w7 ⟨rfl, hb⟩; replace hb5 := bl_then hb5 hb; clear hb) | (at_builtin; refine wpList_appN eltU32 wr _ hb2 rfl _ _ rfl _ 0 0 [] rfl HO0.out _ _ _ [] rfl (row_mt _ _ _ HNZ2.out) (fun h => by cases h) (by omega) ?_; intro g4 cap4 w4 hown4 hb4; rw [Nat.zero_add, List.nil_append] at hown4; have HO4 := Lib.hid hown4; clear hown4) | (at_builtin; refine wpList_appN eltU32 wr _ hb4 rfl _ _ rfl _ _ cap4 _ rfl (.inr ⟨g4, rfl, HO4.out⟩) _ _ _ [] rfl (row_mt _ _ _ HNZ2.out) (fun h => by cases h) (by omega) ?_; intro g5 cap5 w5 hown5 hb5; have hb6 := Below.refl w5.heap.size w5; have HMO := Lib.hid (own_med' (L := []) (.inr ⟨g5, rfl, hown5⟩) (by omega) μ HPO.out); clear hown5))
          go_ret
          exact ⟨rfl, bl_then hb1 hb5⟩
      · obtain ⟨b, off, rfl⟩ : ∃ b off, ao = some ⟨b, off, none⟩ := row_addr HR.out (by intro e; have := HR.out.len; rw [e] at this; simp at this; omega)
        obtain ⟨r, hr, hrj⟩ : ∃ r : Nat, K.tmod (j : Int) = (r : Int) ∧ r < j := ⟨(K % (j : Int)).toNat, by rw [Int.tmod_eq_emod_of_nonneg hK0]; have := Int.emod_nonneg K (show (j : Int) ≠ 0 by omega); omega, by have := Int.emod_lt_of_pos K (show (0 : Int) < (j : Int) by omega); omega⟩
        have hwr : IntKind.i64.wrap (r : Int) = (r : Int) := wrap_small _ (by omega) (by omega)
        have HRD := Lib.hid (fun w' (h : Below wr.heap.size wr w') => by have := (HR.out.later (bl_then hb1 h)).drop r (by omega); rwa [c32_drop] at this)
        have HRP := Lib.hid (fun w' (h : Below wr.heap.size wr w') => by have := (HR.out.later (bl_then hb1 h)).pre r (by omega); rwa [Nat.mul_one, show (c32 l).take r = c32 (l.take r) by simp [c32]] at this)
        have HPO := Lib.hid (show med (l.drop r ++ l.take r) = μ by
          rw [← hμ]
          refine med_of_perm ?_ (by have := HL.out; simp; omega)
          refine List.perm_append_comm.trans ?_
          rw [List.take_append_drop])
        have hrj' : (r : Int) < (j : Int) := by omega
        have hrc' : (r : Int) < (c : Int) := by omega
        have hj0' : (0 : Int) < (j : Int) := by omega
        clear hμ hsrt hM
        go_wp2_with (first | (go_at_call 12; (first | (with_reducible refine (HMB.out _ hb5).mono ?_) | (with_reducible refine (HML.out _ hb5).mono ?_) | (with_reducible refine (HMO.out _ hb6).mono ?_)); rintro e w6 ⟨rfl, hb⟩; replace hb5 := bl_then hb5 hb; first | (replace hb6 := bl_then hb6 hb; clear hb) | (have hb6 := hb; clear hb)) | (go_at_call 10; (first | (with_reducible refine (HLB.out _ hb5).mono ?_) | (with_reducible refine (HLL.out _ hb5).mono ?_)); rintro e w6 ⟨ao7, m7, c7, hm7, rfl, hrw, hb⟩; subst hm7; replace hb5 := bl_then hb5 hb; (first | (have hrw2 := Lib.hid hrw; replace hrw1 := Lib.hid (hrw1.out.later hb); clear hrw hb) | (have hrw1 := Lib.hid hrw; clear hrw hb))) | (go_at_call 9; (with_reducible refine (HSM.out _ _ _ _ _ _ hrw1.out hrw2.out (by omega)).mono ?_); rintro e w7 ⟨rfl, hb⟩; replace hb5 := bl_then hb5 hb; clear hb) | (at_builtin; refine wpList_appN eltU32 wr _ hb2 rfl _ _ rfl _ 0 0 [] rfl HO0.out _ _ _ (c32 (l.drop r)) rfl (HRD.out _ hb2) (fun h => by cases h) (by omega) ?_; intro g4 cap4 w4 hown4 hb4; rw [Nat.zero_add, List.nil_append] at hown4; have HO4 := Lib.hid hown4; clear hown4) | (at_builtin; refine wpList_appN eltU32 wr _ hb4 rfl _ _ rfl _ _ cap4 _ rfl (.inr ⟨g4, rfl, HO4.out⟩) _ _ _ (c32 (l.take r)) rfl (HRP.out _ hb4) (fun h => by cases h) (by omega) ?_; intro g5 cap5 w5 hown5 hb5; have hb6 := Below.refl w5.heap.size w5; have HMO := Lib.hid (own_med' (L := l.drop r ++ l.take r) (.inr ⟨g5, rfl, by rw [c32_app]; exact hown5⟩) (by omega) μ HPO.out); clear hown5))
        go_ret
        exact ⟨rfl, bl_then hb1 hb5⟩
end Go.Proofs.Ytppbnanhippdaaa
