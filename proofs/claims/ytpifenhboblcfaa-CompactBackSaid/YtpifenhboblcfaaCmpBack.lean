/- CompactBack: the walk of the law. -/
import Derived.Test.YtpifenhboblcfaaCmpBytes
import Derived.Test.YtpifenhboblcfaaUnd
namespace Go.Proofs.Ytpifenhboblcfaa
set_option linter.unusedVariables false
set_option linter.unusedSimpArgs false
open Go.RowKit

set_option maxRecDepth 100000 in
set_option maxHeartbeats 1000000 in
theorem back_small (x : Int) (ao : Option Addr) (n c : Nat) (f : Nat → Int) (w : World) (hx0 : 0 ≤ x) (hx1 : x < 18446744073709551616) (hr : Row w ao n c 1 (bcells f n)) (hb : ∀ i, 0 ≤ f i ∧ f i < 256) (hn : n ≤ 1000) :
    Calls Try.prog 4 #[.int .u64 x, .slice ao n c] w fun e w' => e = .returned (.bool true) ∧ Below w.heap.size w w' := by
  obtain ⟨fp, hbp, hfp⟩ := putL_bcells x hx0
  obtain ⟨L, hL⟩ : ∃ L, (putL x).length = L := ⟨_, rfl⟩
  have hL9 := sizeOf_pos x
  have hLs : (L : Int) = sizeOfN x := by rw [← hL]; exact putL_len' x
  have hGp := getF_put x hx0 hx1 fp hfp
  rw [hL] at hfp hGp
  have hFc := bcells_cat2 fp f L n
  have hGF := getF_put x hx0 hx1 (cat2 fp L f) (by rw [hL, bcells_fst, hfp]) (L + n)
  rw [hL, if_neg (by omega)] at hGF
  have HR := Lib.hid hr
  have HB := Lib.hid hb
  have HP := Lib.hid hfp
  have HPb := Lib.hid hbp
  have HGp := Lib.hid hGp
  have HFc := Lib.hid hFc
  have HGF := Lib.hid hGF
  have HFb := Lib.hid (cat2_bd fp f L hbp hb)
  have HL := Lib.hid hL
  have HLs := Lib.hid hLs
  have hL10 : L ≤ 9 := by omega
  have hL1 : 1 ≤ L := by omega
  clear hr hb hfp hbp hGp hFc hGF hL hLs hL9
  go_enter Try.func4, Try.ntmps4
  go_wp2_with (go_at_call 8; refine (awake_any _).mono ?_; rintro e w1 ⟨rfl, hb1⟩)
  refine (put_any none 0 0 [] x _ (by omega) hx0 hx1 (row_nil _ _)).mono ?_
  rintro e w2 ⟨g, cap, rfl, hown, hbel⟩
  rw [HL.out, Nat.zero_add, List.nil_append] at hown
  rw [HL.out, Nat.zero_add]
  have HRp := Lib.hid (show Row w2 (some ⟨g, 0, none⟩) L cap 1 (bcells fp L) by rw [HP.out]; exact row_own hown (by rw [← HP.out]; exact bcells_one _ _))
  have hb2 := hb1.trans (hbel.mono hb1.size)
  have hsz2 := hb2.size
  clear hown hbel
  have HO := Lib.hid (World.ownsRow_made (base := w2.heap.size) (e := 5) (size := 1) w2 #[] 0 (Nat.le_refl _) (by decide) rfl)
  have hbA := hb2.trans ((Below.refl _ _).alloc hsz2 (.cells #[] 5))
  go_wp2_with (first | (at_builtin; refine wpList_appO eltU8 _ rfl (.tmp 22) (.tmp 23) rfl w2.heap.size _ 0 0 _ rfl HO.out _ L cap _ rfl (HRp.out.alloc _) (by omega) (by simp) ?_; intro g3 cap3 w3 hown3 hgrow3 _ hg3 _; simp only [Nat.zero_add, List.nil_append] at hown3) | (at_builtin; refine wpList_appO eltU8 _ rfl (.tmp 25) (.tmp 26) rfl w2.heap.size g3 L cap3 _ rfl hown3 ao n c _ rfl (HR.out.later (below_grown hbA hgrow3 (fun k hk => by cases hk; exact hsz2))) (by omega) (by have := hgrow3.size; simp at this; omega) ?_; intro g4 cap4 w4 hown4 hgrow4 _ _ _))
  have hsz3 := hgrow3.size
  simp at hsz3
  have hb3 := below_grown hbA hgrow3 (fun k hk => by cases hk; exact hsz2)
  have hb4 := below_grown hb3 hgrow4 (fun k hk => by cases hk; exact Nat.le_trans hsz2 hg3)
  have hp4 : Below w2.heap.size w2 w4 := below_grown (below_grown (below_alloc w2 (.cells #[] 5)) hgrow3 (fun k hk => by cases hk; exact Nat.le_refl _)) hgrow4 (fun k hk => by cases hk; exact hg3)
  have HR4 := Lib.hid (show Row w4 (some ⟨g4, 0, none⟩) (L + n) cap4 1 (bcells (cat2 fp L f) (L + n)) by
    rw [HFc.out]
    exact row_own hown4 (by rw [← HFc.out]; exact bcells_one _ _))
  have HRp4 := Lib.hid (HRp.out.later hp4)
  clear hown3 hgrow3 hown4 hgrow4 hb3 hbA HO hsz3
  refine (get_any _ (L + n) cap4 _ w4 (by omega) HR4.out HFb.out).mono ?_
  rintro e w5 ⟨rfl, rfl⟩
  rw [HGF.out]
  have hLcap := HRp.out.le
  go_wp2_with fail
  go_loop [11] (fun i => ∃ j : Nat, j ≤ L ∧ i = .int .i64 j) (fun i => L - (intOf i).toNat)
  case atStart => exact ⟨0, by omega, rfl⟩
  case round =>
    obtain ⟨j, hj, rfl⟩ := hrel
    by_cases hlt : j < L
    · have hlt' : (j : Int) < (L : Int) := by omega
      have hjc : (j : Int) ≤ (cap : Int) := by omega
      have HGj := Lib.hid (show getF fp j = (0, 0, 1) by rw [HGp.out, if_pos hlt])
      go_wp2_with (go_at_call 9; refine (get_any _ j cap fp w4 (by omega) (row_pre HRp4.out j (by omega)) HPb.out).mono ?_; rintro e w5 ⟨rfl, rfl⟩; rw [HGj.out])
      go_round
      case rel => exact ⟨j + 1, by omega, by go_num⟩
      case measure => simp [intOf]; omega
    · have : j = L := by omega
      subst this
      go_wp2_with fail
      have hc1 : ∀ w' : World, Below w4.heap.size w4 w' → (convert 22 9 (.slice ao n c)).run Try.prog w' = .ok (.string (strOfNums (bnums f n))) w' := fun w' hb' =>
        row_string w' Try.underlying22 Try.underlying5 Try.underlying9 (by rw [← bcells_nums]; exact HR.out.later (hb4.trans (hb'.mono hb4.size)))
      have hc2 : ∀ w' : World, Below w4.heap.size w4 w' → (convert 22 9 (.slice (some ⟨g, 0, none⟩) j cap)).run Try.prog w' = .ok (.string (strOfNums (bnums fp j))) w' := fun w' hb' =>
        row_string w' Try.underlying22 Try.underlying5 Try.underlying9 (by rw [← bcells_nums]; exact HRp4.out.later hb')
      have hss : ¬ 9223372036854775807 < (strOfNums (bnums f n)).size + (strOfNums (bnums fp j)).size := by rw [strOfNums_size, strOfNums_size, bnums_len, bnums_len]; omega
      have HC1 := Lib.hid hc1
      have HC2 := Lib.hid hc2
      have hd := (Below.refl w4.heap.size w4).drew
      clear hc1 hc2
      refine wp_plan (fun w' => Below w4.heap.size w4 w' ∧ (convert 22 9 (.slice ao n c)).run Try.prog w' = .ok (.string (strOfNums (bnums f n))) w' ∧ (convert 22 9 (.slice (some ⟨g, 0, none⟩) j cap)).run Try.prog w' = .ok (.string (strOfNums (bnums fp j))) w') [15, 25, 26] [0, 1, 2, 3, 4, 5, 6, 7, 8, 9, 10, 11, 12, 13, 14, 15, 16, 17, 18, 19, 20, 21, 22, 23, 24, 27, 28, 29, 30, 31, 25, 26, 32, 33, 34] (by kernel_rfl) (by kernel_rfl) ⟨hd, HC1.out _ hd, HC2.out _ hd⟩ (fun hHeld => ?_)
      iterate 15 (refine wpT_take rfl (by rfl) (by rfl) (by intro w' hSw; (try dsimp only at hSw); go_simp; (try with_reducible rfl)) (by assumption) ?_; (try simp only [Act.put, List.setIfInBounds_toArray, List.set_cons_zero, List.set_cons_succ]))
      (refine wpT_step rfl (by rfl) (fun K hK => ?_); go_simp)
      refine (size_any _ _).mono ?_
      rintro e w5 ⟨rfl, rfl⟩
      rw [← HLs.out]
      (refine hK.out _ _ _ (fun _ h => h) (⟨hd, HC1.out _ hd, HC2.out _ hd⟩) (fun hHeld => ?_); clear hK; clear K; (try simp only [Act.put, List.setIfInBounds_toArray, List.set_cons_zero, List.set_cons_succ]))
      iterate 14 (refine wpT_take rfl (by rfl) (by rfl) (by intro w' hSw; (try dsimp only at hSw); go_simp; (try with_reducible rfl)) (by assumption) ?_; (try simp only [Act.put, List.setIfInBounds_toArray, List.set_cons_zero, List.set_cons_succ]))
      (refine wpT_step rfl (by rfl) (fun K hK => ?_); go_simp)
      refine (put_any ao n c (bcells f n) x _ (by omega) hx0 hx1 (HR.out.later (hb4.trans (hd.mono hb4.size)))).mono ?_
      rintro e w6 ⟨g6, cap6, rfl, hown, hbel⟩
      rw [HL.out] at hown ⊢
      have h6 := hd.trans hbel
      have hcC := row_string (P := Try.prog) (T := 22) (S := 9) (zs := bnums (cat2 f n fp) (n + j)) w6 Try.underlying22 Try.underlying5 Try.underlying9 (by
        rw [← bcells_nums, bcells_cat2, HP.out]; exact row_own hown (by rw [← HP.out, ← bcells_cat2]; exact bcells_one _ _))
      have hstr : (strOfNums (bnums (cat2 f n fp) (n + j))).toList = (strOfNums (bnums f n) ++ strOfNums (bnums fp j)).toList := by
        rw [bnums_cat2, strOf_append]
      clear hown hbel
      (refine hK.out _ _ _ (fun _ h => h) (⟨h6, HC1.out _ h6, HC2.out _ h6⟩) (fun hHeld => ?_); clear hK; clear K; (try simp only [Act.put, List.setIfInBounds_toArray, List.set_cons_zero, List.set_cons_succ]))
      (refine wpT_step rfl (by rfl) (fun K hK => ?_); go_simp)
      (refine hK.out _ _ _ (fun _ h => h) (⟨h6, HC1.out _ h6, HC2.out _ h6⟩) (fun hHeld => ?_); clear hK; clear K; (try simp only [Act.put, List.setIfInBounds_toArray, List.set_cons_zero, List.set_cons_succ]))
      iterate 3 (refine wpT_take rfl (by rfl) (by rfl) (by intro w' hSw; (try dsimp only at hSw); go_simp; (try with_reducible rfl)) (by assumption) ?_; (try simp only [Act.put, List.setIfInBounds_toArray, List.set_cons_zero, List.set_cons_succ]))
      (refine wpT_nil ?_)
      go_wp2
      go_ret
      exact ⟨rfl, hb4.trans (h6.mono hb4.size)⟩

theorem back_big (x : Int) (ao : Option Addr) (n c : Nat) (w : World) (hm : n ≤ 9223372036854775807) (h : 1000 < n) :
    Calls Try.prog 4 #[.int .u64 x, .slice ao n c] w fun e w' => e = .returned (.bool true) ∧ Below w.heap.size w w' := by
  have h1' : (1000 : Int) < (n : Int) := by omega
  clear h
  go_enter Try.func4, Try.ntmps4
  go_wp2_with (go_at_call 8; refine (awake_any _).mono ?_; rintro e w1 ⟨rfl, hb1⟩)
  go_ret
  exact ⟨rfl, hb1⟩
end Go.Proofs.Ytpifenhboblcfaa
