/- CompactBytes: the walk of the law. -/
import Derived.Test.YtpifenhboblcfaaCmpBounds
namespace Go.Proofs.Ytpifenhboblcfaa
set_option linter.unusedVariables false
set_option linter.unusedSimpArgs false
open Go.RowKit

def cat2 (f : Nat → Int) (n : Nat) (g : Nat → Int) (i : Nat) : Int := if i < n then f i else g (i - n)
theorem cat2_bd (f g : Nat → Int) (n : Nat) (hf : ∀ i, 0 ≤ f i ∧ f i < 256) (hg : ∀ i, 0 ≤ g i ∧ g i < 256) (i : Nat) : 0 ≤ cat2 f n g i ∧ cat2 f n g i < 256 := by
  unfold cat2; split; exact hf _; exact hg _
theorem bcells_cat2 (f g : Nat → Int) (n m : Nat) : bcells (cat2 f n g) (n + m) = bcells f n ++ bcells g m := by
  unfold bcells
  rw [List.range_add, List.map_append, List.map_map]
  congr 1
  · apply List.map_congr_left
    intro i hi
    have : i < n := by simpa using hi
    simp [cat2, this]
  · apply List.map_congr_left
    intro i _
    show Value.int .u8 (if n + i < n then f (n + i) else g (n + i - n)) = _
    rw [if_neg (by omega), Nat.add_sub_cancel_left]
theorem bcells_fst (f g : Nat → Int) (n : Nat) : bcells (cat2 f n g) n = bcells f n := by
  have := bcells_cat2 f g n 0
  simpa [bcells] using this
theorem bnums_congr (f g : Nat → Int) (n : Nat) (h : ∀ i, i < n → f i = g i) : bnums f n = bnums g n := by
  unfold bnums
  apply List.map_congr_left
  intro i hi
  exact h i (by simpa using hi)

theorem bnums_cat2 (f g : Nat → Int) (n m : Nat) : bnums (cat2 f n g) (n + m) = bnums f n ++ bnums g m := by
  unfold bnums
  rw [List.range_add, List.map_append, List.map_map]
  congr 1
  · apply List.map_congr_left
    intro i hi
    have : i < n := by simpa using hi
    simp [cat2, this]
  · apply List.map_congr_left
    intro i _
    show (if n + i < n then f (n + i) else g (n + i - n)) = _
    rw [if_neg (by omega), Nat.add_sub_cancel_left]
theorem strOf_append (xs ys : List Int) : (strOfNums (xs ++ ys)).toList = (strOfNums xs ++ strOfNums ys).toList := by
  rw [ByteArray.toList_eq, ByteArray.toList_eq, ByteArray.data_append]
  simp [strOfNums]
theorem bytesE_less (x k : Int) (n : Nat) (h0 : 0 ≤ x) (h1 : x ≤ 1000) : bytesE x k 0 n (x - 1) = 3 := by
  unfold bytesE
  by_cases hx : x = 0
  · subst hx
    rw [max_neg (by omega)]
    have : boundN 0 k 0 0 = (0, k, 0) := by unfold boundN; rw [if_neg (by simp), if_pos (by omega)]
    rw [this, if_neg (by simp), if_pos (by omega)]
  · rw [max_pos (by omega)]
    have : boundN x k 0 (x - 1) = (0, 0, 3) := by unfold boundN; rw [if_neg (by simp), if_neg (by omega)]
    rw [this, if_pos (by simp)]
theorem bytesE_short (x k : Int) (n : Nat) (h0 : 0 ≤ x) (h1 : x ≤ 1000) (h : (n : Int) - k < x) : bytesE x k 0 n x = 1 := by
  unfold bytesE
  rw [max_pos (by omega)]
  have : boundN x k 0 x = (x, k, 0) := by unfold boundN; rw [if_neg (by simp), if_pos (by omega)]
  rw [this, if_neg (by simp), if_neg (by omega), if_pos h]

theorem bytesE_pre (n L X : Nat) (hX : X < L + n) (hn : n ≤ 1000) : bytesE (if X < L then ((0 : Int), (0 : Int), (1 : Int)) else ((n : Int), (L : Int), 0)).1 (if X < L then ((0 : Int), (0 : Int), (1 : Int)) else ((n : Int), (L : Int), 0)).2.1 (if X < L then ((0 : Int), (0 : Int), (1 : Int)) else ((n : Int), (L : Int), 0)).2.2 X n = 1 := by
  by_cases h : X < L
  · rw [if_pos h]
    show bytesE 0 0 1 X n = 1
    unfold bytesE
    have : boundN 0 0 1 (max (n : Int) 0) = (0, 0, 1) := by unfold boundN; rw [if_pos (by decide)]
    rw [this, if_pos (by decide)]
  · rw [if_neg h]
    exact bytesE_short n L X (by omega) (by omega) (by omega)

set_option maxRecDepth 100000 in
set_option maxHeartbeats 1000000 in
theorem bytes_small (ao : Option Addr) (n c : Nat) (f : Nat → Int) (ao2 : Option Addr) (n2 c2 : Nat) (f2 : Nat → Int) (w : World) (hr : Row w ao n c 1 (bcells f n)) (hb : ∀ i, 0 ≤ f i ∧ f i < 256)
    (hr2 : Row w ao2 n2 c2 1 (bcells f2 n2)) (hb2 : ∀ i, 0 ≤ f2 i ∧ f2 i < 256) (hn : n ≤ 1000) (hn2 : n2 ≤ 1000) :
    Calls Try.prog 6 #[.slice ao n c, .slice ao2 n2 c2] w fun e w' => e = .returned (.bool true) ∧ Below w.heap.size w w' := by
  obtain ⟨fp, hbp, hfp⟩ := putL_bcells (n : Int) (by omega)
  obtain ⟨L, hL⟩ : ∃ L, (putL (n : Int)).length = L := ⟨_, rfl⟩
  have hL9 := sizeOf_pos (n : Int)
  have hLs : (L : Int) = sizeOfN n := by rw [← hL]; exact putL_len' n
  rw [hL] at hfp
  have hF : ∃ F, F = cat2 (cat2 fp L f) (L + n) f2 := ⟨_, rfl⟩
  obtain ⟨F, hF⟩ := hF
  have hFb : ∀ i, 0 ≤ F i ∧ F i < 256 := by rw [hF]; exact cat2_bd _ _ _ (cat2_bd _ _ _ hbp hb) hb2
  have hFc : bcells F (L + n + n2) = bcells fp L ++ bcells f n ++ bcells f2 n2 := by rw [hF, bcells_cat2, bcells_cat2]
  have hFp : bcells F (putL (n : Int)).length = putL (n : Int) := by
    rw [hL, ← hfp, hF]
    have h1 := congrArg (List.take L) (bcells_cat2 (cat2 fp L f) f2 (L + n) n2)
    have e1 : (bcells (cat2 (cat2 fp L f) (L + n) f2) (L + n + n2)).take L = bcells (cat2 (cat2 fp L f) (L + n) f2) L := by
      simp only [bcells, ← List.map_take, List.take_range, Nat.min_eq_left (show L ≤ L + n + n2 by omega)]
    rw [e1, bcells_cat2] at h1
    rw [h1, List.append_assoc, List.take_append_of_le_length (by simp [bcells]), List.take_of_length_le (by simp [bcells])]
  have hG := getF_put (n : Int) (by omega) (by omega) F hFp
  rw [hL] at hG
  have hFs : bnums (fun i => F (L + i)) n = bnums f n := bnums_congr _ _ _ fun i hi => by
    rw [hF]; unfold cat2; rw [if_pos (by omega), if_neg (by omega), Nat.add_sub_cancel_left]
  have HR := Lib.hid hr
  have HR2 := Lib.hid hr2
  have HP := Lib.hid hfp
  have HFb := Lib.hid hFb
  have HFc := Lib.hid hFc
  have HG := Lib.hid hG
  have HFs := Lib.hid hFs
  have HL := Lib.hid hL
  have hL10 : L ≤ 9 := by omega
  have hL1 : 1 ≤ L := by omega
  clear hr hr2 hfp hFb hFc hG hFs hL hLs hL9 hF hFp hb hb2 hbp
  go_enter Try.func6, Try.ntmps6
  go_wp2_with (go_at_call 8; refine (awake_any _).mono ?_; rintro e w1 ⟨rfl, hb1⟩)
  refine (put_any none 0 0 [] n _ (by omega) (by omega) (by omega) (row_nil _ _)).mono ?_
  rintro e w2 ⟨g, cap, rfl, hown, hbel⟩
  rw [HL.out, Nat.zero_add, List.nil_append] at hown
  rw [HL.out, Nat.zero_add]
  have HO := Lib.hid hown
  have hb2 := hb1.trans (hbel.mono hb1.size)
  have hsz1 := hb1.size
  have hsz2 := hb2.size
  have hsz12 := hbel.size
  clear hown hbel
  go_wp2_with (first | (at_builtin; refine wpList_appO eltU8 _ rfl (.tmp 36) (.tmp 37) rfl w1.heap.size g L cap _ rfl HO.out ao n c _ rfl (HR.out.later hb2) (by omega) (by omega) ?_; intro g3 cap3 w3 hown3 hgrow3 _ hg3 _) | (at_builtin; refine wpList_appO eltU8 _ rfl (.tmp 39) (.tmp 40) rfl w1.heap.size g3 (L + n) cap3 _ rfl hown3 ao2 n2 c2 _ rfl (HR2.out.later (below_grown hb2 hgrow3 (fun k hk => by cases hk; exact Nat.le_trans hsz1 (HO.out.lt g rfl).1))) (by omega) (by have := hgrow3.size; omega) ?_; intro g4 cap4 w4 hown4 hgrow4 _ _ _))
  have hsz3 := hgrow3.size
  have hb3 := below_grown hb2 hgrow3 (fun k hk => by cases hk; exact Nat.le_trans hsz1 (HO.out.lt g rfl).1)
  have hb4 := below_grown hb3 hgrow4 (fun k hk => by cases hk; exact Nat.le_trans hsz1 hg3)
  have HR4 := Lib.hid (show Row w4 (some ⟨g4, 0, none⟩) (L + n + n2) cap4 1 (bcells F (L + n + n2)) by
    rw [HFc.out, HP.out]
    exact row_own hown4 (by rw [← HP.out, ← HFc.out]; exact bcells_one _ _))
  have hcap := HR4.out.le
  clear hown3 hgrow3 hown4 hgrow4 hb3 hsz3
  have hx1 : L + n ≤ L + n + n2 := by omega
  refine (bytes_ok _ (L + n + n2) cap4 F n w4 (by omega) HR4.out HFb.out (by omega) n L (by rw [HG.out, if_neg (by omega)]) hx1 hL1 (by omega) (by omega)).mono ?_
  rintro e w5 ⟨ao', rfl, hrow5, rfl⟩
  have hcv1 := row_string (P := Try.prog) (T := 22) (S := 9) (zs := bnums f n) w4 Try.underlying22 Try.underlying5 Try.underlying9 (by rw [← HFs.out, ← bcells_nums]; exact hrow5)
  have hcv2 := row_string (P := Try.prog) (T := 22) (S := 9) (zs := bnums f n) w4 Try.underlying22 Try.underlying5 Try.underlying9 (by rw [← bcells_nums]; exact HR.out.later hb4)
  clear hrow5
  go_wp2_with fail
  refine (bytes_err _ (L + n + n2) cap4 F ((n : Int) - 1) w4 (by omega) HR4.out HFb.out (by omega) (by omega) 3 (by
    rw [HG.out, if_neg (by omega)]
    exact bytesE_less (n : Int) (L : Int) _ (by omega) (by omega)) (by decide)).mono ?_
  rintro e w5 ⟨rfl, rfl⟩
  go_wp2_with fail
  all_goals
    refine (bytes_err _ _ cap4 F (n : Int) w4 (by omega) (row_pre HR4.out _ (by omega)) HFb.out (by omega) (by omega) 1 (by rw [HG.out]; exact bytesE_pre n L _ (by omega) hn) (by decide)).mono ?_
    rintro e w5 ⟨rfl, rfl⟩
    go_wp2_with fail
  all_goals go_ret
  all_goals exact ⟨rfl, hb4⟩

set_option maxRecDepth 100000 in
set_option maxHeartbeats 1000000 in
theorem bytes_big (ao : Option Addr) (n c : Nat) (ao2 : Option Addr) (n2 c2 : Nat) (w : World) (hm : n ≤ 9223372036854775807) (hm2 : n2 ≤ 9223372036854775807) (h : 1000 < n ∨ 1000 < n2) :
    Calls Try.prog 6 #[.slice ao n c, .slice ao2 n2 c2] w fun e w' => e = .returned (.bool true) ∧ Below w.heap.size w w' := by
  by_cases h1 : 1000 < n
  · have h1' : (1000 : Int) < (n : Int) := by omega
    clear h
    go_enter Try.func6, Try.ntmps6
    go_wp2_with (go_at_call 8; refine (awake_any _).mono ?_; rintro e w1 ⟨rfl, hb1⟩)
    go_ret
    exact ⟨rfl, hb1⟩
  · have h2' : (1000 : Int) < (n2 : Int) := by omega
    have h1' : ¬ (1000 : Int) < (n : Int) := by omega
    clear h
    go_enter Try.func6, Try.ntmps6
    go_wp2_with (go_at_call 8; refine (awake_any _).mono ?_; rintro e w1 ⟨rfl, hb1⟩)
    go_ret
    exact ⟨rfl, hb1⟩
end Go.Proofs.Ytpifenhboblcfaa
