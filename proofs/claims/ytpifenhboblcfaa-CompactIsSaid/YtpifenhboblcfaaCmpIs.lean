/- CompactIs: contracts of the document's own Bounded and Bytes, and the walk of the law. -/
import Derived.Test.YtpifenhboblcfaaCmpR
import Derived.Test.YtpifenhboblcfaaUnd
namespace Go.Proofs.Ytpifenhboblcfaa
set_option linter.unusedVariables false
set_option linter.unusedSimpArgs false
open Go.RowKit

set_option maxHeartbeats 400000 in
theorem rbounded_any (ao : Option Addr) (n c : Nat) (f : Nat → Int) (most : Int) (w : World) (hm : n ≤ 140737488351232) (hr : Row w ao n c 1 (bcells f n)) (hb : ∀ i, 0 ≤ f i ∧ f i < 256) (h0 : 0 ≤ most) :
    Calls Try.prog 12 #[.slice ao n c, .int .u64 most] w fun e w' => e = .returned (.tuple #[.int .i64 (boundN (getF f n).1 (getF f n).2.1 (getF f n).2.2 most).1, .int .i64 (boundN (getF f n).1 (getF f n).2.1 (getF f n).2.2 most).2.1, .int .i64 (boundN (getF f n).1 (getF f n).2.1 (getF f n).2.2 most).2.2]) ∧ w = w' := by
  have HR := Lib.hid hr
  have HB := Lib.hid hb
  clear hr hb
  rcases getF_cases f n HB.out with hg | hg | ⟨x, k, hg, hk1, hkn, hx0, hx1, _, _⟩
  · have HG := Lib.hid hg
    rw [hg]
    clear hg
    go_enter Try.func12, Try.ntmps12
    go_wp2_with (go_at_call 10; refine (rget_any ao n c f _ hm HR.out HB.out).mono ?_; rintro e w2 ⟨rfl, rfl⟩; rw [HG.out])
    go_ret3
    exact ⟨rfl, rfl⟩
  · have HG := Lib.hid hg
    rw [hg]
    clear hg
    go_enter Try.func12, Try.ntmps12
    go_wp2_with (go_at_call 10; refine (rget_any ao n c f _ hm HR.out HB.out).mono ?_; rintro e w2 ⟨rfl, rfl⟩; rw [HG.out])
    go_ret3
    exact ⟨rfl, rfl⟩
  · have HG := Lib.hid hg
    rw [hg]
    clear hg
    by_cases hs1 : x ≤ most
    · have hs1' : ¬ most < x := by omega
      by_cases hs2 : x ≤ 2147483647
      · have hB : boundN x k 0 most = (x, (k : Int), 0) := by unfold boundN; rw [if_neg (by simp), if_pos ⟨hs1, hs2⟩]
        rw [hB]
        clear hB
        have hs2' : ¬ 2147483647 < x := by omega
        go_enter Try.func12, Try.ntmps12
        go_wp2_with (go_at_call 10; refine (rget_any ao n c f _ hm HR.out HB.out).mono ?_; rintro e w2 ⟨rfl, rfl⟩; rw [HG.out])
        go_ret3
        exact ⟨rfl, rfl⟩
      · have hB : boundN x k 0 most = (0, 0, 3) := by unfold boundN; rw [if_neg (by simp), if_neg (by omega)]
        rw [hB]
        clear hB
        have hs2' : 2147483647 < x := by omega
        go_enter Try.func12, Try.ntmps12
        go_wp2_with (go_at_call 10; refine (rget_any ao n c f _ hm HR.out HB.out).mono ?_; rintro e w2 ⟨rfl, rfl⟩; rw [HG.out])
        go_ret3
        exact ⟨rfl, rfl⟩
    · have hB : boundN x k 0 most = (0, 0, 3) := by unfold boundN; rw [if_neg (by simp), if_neg (by omega)]
      rw [hB]
      clear hB
      have hs1' : most < x := by omega
      go_enter Try.func12, Try.ntmps12
      go_wp2_with (go_at_call 10; refine (rget_any ao n c f _ hm HR.out HB.out).mono ?_; rintro e w2 ⟨rfl, rfl⟩; rw [HG.out])
      go_ret3
      exact ⟨rfl, rfl⟩

set_option maxHeartbeats 400000 in
theorem rbytes_err (ao : Option Addr) (n c : Nat) (f : Nat → Int) (most : Int) (w : World) (hm : n ≤ 140737488351232) (hr : Row w ao n c 1 (bcells f n)) (hb : ∀ i, 0 ≤ f i ∧ f i < 256)
    (h1 : -9223372036854775808 ≤ most) (h2 : most ≤ 9223372036854775807) (er : Int) (he : bytesE (getF f n).1 (getF f n).2.1 (getF f n).2.2 n most = er) (he0 : er ≠ 0) :
    Calls Try.prog 14 #[.slice ao n c, .int .i64 most] w fun e w' => e = .returned (.tuple #[.slice none 0 0, .int .i64 0, .int .i64 er]) ∧ w = w' := by
  have HR := Lib.hid hr
  have HB := Lib.hid hb
  obtain ⟨x, k, r, hG⟩ : ∃ x k r, getF f n = (x, k, r) := ⟨_, _, _, rfl⟩
  rw [hG] at he
  simp only at he
  have HG := Lib.hid hG
  clear hr hb hG
  by_cases hneg : most < 0
  · rw [bytesE, max_neg hneg] at he
    by_cases hr0 : (boundN x k r 0).2.2 ≠ 0
    · rw [if_pos hr0] at he
      obtain ⟨p, q, t, hB⟩ : ∃ p q t, boundN x k r 0 = (p, q, t) := ⟨_, _, _, rfl⟩
      rw [hB] at he hr0
      simp only at he hr0
      subst he
      have hne : (t != 0) = true := by simpa using hr0
      have HBd := Lib.hid hB
      clear hB hr0
      go_enter Try.func14, Try.ntmps14
      go_wp2_with (go_at_call 12; refine (rbounded_any ao n c f _ _ hm HR.out HB.out (by omega)).mono ?_; rintro e w2 ⟨rfl, rfl⟩; rw [HG.out]; simp only [HBd.out])
      go_ret3
      exact ⟨rfl, rfl⟩
    · rw [if_neg hr0, if_pos hneg] at he
      subst he
      obtain ⟨p, q, t, hB⟩ : ∃ p q t, boundN x k r 0 = (p, q, t) := ⟨_, _, _, rfl⟩
      rw [hB] at hr0
      simp only [ne_eq, Decidable.not_not] at hr0
      subst hr0
      have HBd := Lib.hid hB
      clear hB
      go_enter Try.func14, Try.ntmps14
      go_wp2_with (go_at_call 12; refine (rbounded_any ao n c f _ _ hm HR.out HB.out (by omega)).mono ?_; rintro e w2 ⟨rfl, rfl⟩; rw [HG.out]; simp only [HBd.out])
      go_ret3
      exact ⟨rfl, rfl⟩
  · rw [bytesE, max_pos (by omega)] at he
    by_cases hr0 : (boundN x k r most).2.2 ≠ 0
    · rw [if_pos hr0] at he
      obtain ⟨p, q, t, hB⟩ : ∃ p q t, boundN x k r most = (p, q, t) := ⟨_, _, _, rfl⟩
      rw [hB] at he hr0
      simp only at he hr0
      subst he
      have hne : (t != 0) = true := by simpa using hr0
      have HBd := Lib.hid hB
      clear hB hr0
      go_enter Try.func14, Try.ntmps14
      go_wp2_with (go_at_call 12; refine (rbounded_any ao n c f _ _ hm HR.out HB.out (by omega)).mono ?_; rintro e w2 ⟨rfl, rfl⟩; rw [HG.out]; simp only [HBd.out])
      go_ret3
      exact ⟨rfl, rfl⟩
    · rw [if_neg hr0, if_neg hneg] at he
      have hlt : (n : Int) - k < x := by
        by_cases h : (n : Int) - k < x
        · exact h
        · rw [if_neg h] at he; omega
      rw [if_pos hlt] at he
      subst he
      have hB : boundN x k r most = (x, k, 0) := by
        unfold boundN at hr0 ⊢
        by_cases hr1 : r ≠ 0
        · rw [if_pos hr1] at hr0; exact absurd hr1 hr0
        · rw [if_neg hr1] at hr0 ⊢
          by_cases h3 : x ≤ most ∧ x ≤ 2147483647
          · rw [if_pos h3]
          · rw [if_neg h3] at hr0; simp at hr0
      have hkb : 0 ≤ k ∧ k ≤ n := by
        rcases getF_cases f n HB.out with hg | hg | ⟨x', k', hg, g1, g2, _⟩ <;> rw [HG.out] at hg <;> simp only [Prod.mk.injEq] at hg <;> omega
      have HBd := Lib.hid hB
      clear hB hr0
      obtain ⟨hk0, hkn⟩ := hkb
      go_enter Try.func14, Try.ntmps14
      go_wp2_with (go_at_call 12; refine (rbounded_any ao n c f _ _ hm HR.out HB.out (by omega)).mono ?_; rintro e w2 ⟨rfl, rfl⟩; rw [HG.out]; simp only [HBd.out])
      go_ret3
      exact ⟨rfl, rfl⟩

/-- a piece of a slice, be it empty -/
theorem row_piece {w : World} {ao : Option Addr} {n c : Nat} {f : Nat → Int} (h : Row w ao n c 1 (bcells f n)) (k m : Nat) (hkm : k + m ≤ n) (hk : 0 < k) :
    ∃ b off, ao = some ⟨b, off, none⟩ ∧ Row w (some ⟨b, off + k, none⟩) m (c - k) 1 (bcells (fun i => f (k + i)) m) := by
  obtain ⟨b, off, rfl⟩ := row_addr h (bcells_ne f n (by omega))
  have hc := h.le
  refine ⟨b, off, rfl, ⟨by simp [bcells], by omega, fun h => (by cases h), fun ad ha i u hu => ?_, bcells_one _ _⟩⟩
  simp only [Option.some.injEq] at ha
  subst ha
  have hi : i < m := by
    obtain ⟨h, _⟩ := List.getElem?_eq_some_iff.1 hu
    simpa [bcells] using h
  rw [bcells_get _ _ _ hi] at hu
  cases hu
  refine ⟨rfl, ?_⟩
  have := row_cell h (k + i) (by omega)
  rw [← Nat.add_assoc] at this
  exact this

set_option maxHeartbeats 400000 in
theorem rbytes_ok (ao : Option Addr) (n c : Nat) (f : Nat → Int) (most : Int) (w : World) (hm : n ≤ 140737488351232) (hr : Row w ao n c 1 (bcells f n)) (hb : ∀ i, 0 ≤ f i ∧ f i < 256)
    (h2 : most ≤ 9223372036854775807) (x k : Nat) (hG : getF f n = ((x : Int), (k : Int), 0)) (hkx : k + x ≤ n) (hk1 : 1 ≤ k) (hxm : (x : Int) ≤ most) (hx31 : x ≤ 2147483647) :
    Calls Try.prog 14 #[.slice ao n c, .int .i64 most] w fun e w' => ∃ g cap, e = .returned (.tuple #[.slice (some ⟨g, 0, none⟩) x cap, .int .i64 (k + x), .int .i64 0]) ∧ w'.ownsRow w.heap.size 5 1 (.slice (some ⟨g, 0, none⟩) x cap) x (bcells (fun i => f (k + i)) x) ∧ Below w.heap.size w w' := by
  have hB : boundN x k 0 most = ((x : Int), (k : Int), 0) := by
    unfold boundN
    rw [if_neg (by simp), if_pos (by omega)]
  have HBd := Lib.hid hB
  have HB := Lib.hid hb
  have HG := Lib.hid hG
  have hnc := hr.le
  have h0 : ¬ most < 0 := by omega
  have hlt : ¬ ((n : Int) - (k : Int) < (x : Int)) := by omega
  have hnc' : (k : Int) + (x : Int) ≤ (c : Int) := by omega
  have HO := Lib.hid (World.ownsRow_made (base := w.heap.size) (e := 5) (size := 1) w #[] 0 (Nat.le_refl _) (by decide) rfl)
  have hbA := below_alloc w (.cells #[] 5)
  clear hB hb hG
  obtain ⟨b, off, rfl, hr2⟩ := row_piece hr k x hkx (by omega)
  have HR := Lib.hid hr
  have HR2 := Lib.hid hr2
  clear hr hr2
  by_cases hck : c = k
  · subst hck
    have : x = 0 := by omega
    subst this
    go_enter Try.func14, Try.ntmps14
    go_wp2_with (first | (go_at_call 12; refine (rbounded_any _ n _ f _ _ hm HR.out HB.out (by omega)).mono ?_; rintro e w2 ⟨rfl, rfl⟩; rw [HG.out]; simp only [HBd.out]) | (at_builtin; refine wpList_appO eltU8 _ rfl (.tmp 30) (.tmp 36) rfl w.heap.size _ 0 0 _ rfl HO.out _ 0 _ [] rfl ⟨rfl, Nat.zero_le _, fun h => (by cases h), fun _ _ _ _ h => (by cases h), fun _ h => (by cases h)⟩ (by omega) (by simp) ?_; intro g1 cap1 w1 hown1 hgrow1 _ _ _; simp only [Nat.zero_add, List.nil_append] at hown1))
    go_ret3
    exact ⟨g1, cap1, by simp, hown1, below_grown hbA hgrow1 (fun k hk => by cases hk; exact Nat.le_refl _)⟩
  · go_enter Try.func14, Try.ntmps14
    go_wp2_with (first | (go_at_call 12; refine (rbounded_any _ n c f _ _ hm HR.out HB.out (by omega)).mono ?_; rintro e w2 ⟨rfl, rfl⟩; rw [HG.out]; simp only [HBd.out]) | (at_builtin; refine wpList_appO eltU8 _ rfl (.tmp 30) (.tmp 36) rfl w.heap.size _ 0 0 _ rfl HO.out _ (k + x - k) (c - k) _ rfl (by rw [Nat.add_sub_cancel_left]; exact HR2.out.alloc _) (by omega) (by simp) ?_; intro g1 cap1 w1 hown1 hgrow1 _ _ _; simp only [Nat.zero_add, List.nil_append, Nat.add_sub_cancel_left] at hown1))
    go_ret3
    exact ⟨g1, cap1, by simp, hown1, below_grown hbA hgrow1 (fun k hk => by cases hk; exact Nat.le_refl _)⟩

/-- what the two Bytes answer, side by side -/
theorem bytes_cases (n : Nat) (f : Nat → Int) (most : Int) (hb : ∀ i, 0 ≤ f i ∧ f i < 256) :
    (∃ er, bytesE (getF f n).1 (getF f n).2.1 (getF f n).2.2 n most = er ∧ er ≠ 0) ∨
    ∃ x k : Nat, getF f n = ((x : Int), (k : Int), 0) ∧ k + x ≤ n ∧ 1 ≤ k ∧ (x : Int) ≤ most ∧ x ≤ 2147483647 := by
  by_cases he : bytesE (getF f n).1 (getF f n).2.1 (getF f n).2.2 n most = 0
  · right
    rcases getF_cases f n hb with hg | hg | ⟨x, k, hg, hk1, hkn, hx0, hx1, _, _⟩
    · rw [hg] at he
      exfalso
      have : boundN 0 0 1 (max most 0) = (0, 0, 1) := by unfold boundN; rw [if_pos (by decide)]
      unfold bytesE at he
      simp only [this] at he
      rw [if_pos (by decide)] at he
      cases he
    · rw [hg] at he
      exfalso
      have : boundN 0 0 2 (max most 0) = (0, 0, 2) := by unfold boundN; rw [if_pos (by decide)]
      unfold bytesE at he
      simp only [this] at he
      rw [if_pos (by decide)] at he
      cases he
    · rw [hg] at he
      unfold bytesE at he
      simp only at he
      by_cases hs : x ≤ max most 0 ∧ x ≤ 2147483647
      · have : boundN x k 0 (max most 0) = (x, (k : Int), 0) := by unfold boundN; rw [if_neg (by simp), if_pos hs]
        rw [this, if_neg (by simp)] at he
        by_cases hneg : most < 0
        · rw [if_pos hneg] at he; cases he
        · rw [if_neg hneg] at he
          by_cases hl : (n : Int) - k < x
          · rw [if_pos hl] at he; cases he
          · obtain ⟨X, rfl⟩ := Int.eq_ofNat_of_zero_le hx0
            exact ⟨X, k, hg, by omega, hk1, by omega, by omega⟩
      · have : boundN x k 0 (max most 0) = (0, 0, 3) := by unfold boundN; rw [if_neg (by simp), if_neg hs]
        rw [this, if_pos (by simp)] at he
        cases he
  · exact .inl ⟨_, rfl, he⟩

set_option maxRecDepth 100000 in
set_option maxHeartbeats 2000000 in
theorem is_err (ao : Option Addr) (n c : Nat) (f : Nat → Int) (x most : Int) (w : World) (hr : Row w ao n c 1 (bcells f n)) (hb : ∀ i, 0 ≤ f i ∧ f i < 256) (hn : n ≤ 1000) (hx0 : 0 ≤ x) (hx1 : x < 18446744073709551616)
    (h1 : -9223372036854775808 ≤ most) (h2 : most ≤ 9223372036854775807) (er : Int) (he : bytesE (getF f n).1 (getF f n).2.1 (getF f n).2.2 n most = er) (he0 : er ≠ 0) :
    Calls Try.prog 3 #[.slice ao n c, .int .u64 x, .int .i64 most] w fun e w' => e = .returned (.bool true) ∧ Below w.heap.size w w' := by
  have HR := Lib.hid hr
  have HB := Lib.hid hb
  have HE := Lib.hid he
  obtain ⟨fp, hbp, hfp⟩ := putL_bcells x hx0
  obtain ⟨L, hL⟩ : ∃ L, (putL x).length = L := ⟨_, rfl⟩
  rw [hL] at hfp
  have HP := Lib.hid hfp
  have HL := Lib.hid hL
  clear hfp hL
  obtain ⟨p, q, r, hG⟩ : ∃ p q r, getF f n = (p, q, r) := ⟨_, _, _, rfl⟩
  obtain ⟨p2, q2, r2, hBd⟩ : ∃ p2 q2 r2, boundN p q r x = (p2, q2, r2) := ⟨_, _, _, rfl⟩
  have HG := Lib.hid hG
  have HBd := Lib.hid hBd
  clear hr hb he hG hBd
  go_enter Try.func3, Try.ntmps3
  go_wp2_with (first | (go_at_call 8; refine (awake_any _).mono ?_; rintro e w1 ⟨rfl, hb1⟩) | (go_at_call 9; refine (get_any ao n c f _ (by omega) (HR.out.later hb1) HB.out).mono ?_; rintro e w2 ⟨rfl, rfl⟩; simp only [HG.out]) | (go_at_call 10; refine (rget_any ao n c f _ (by omega) (HR.out.later hb1) HB.out).mono ?_; rintro e w2 ⟨rfl, rfl⟩; simp only [HG.out]) | (go_at_call 11; refine (bounded_any ao n c f _ _ (by omega) (HR.out.later hb1) HB.out hx0).mono ?_; rintro e w2 ⟨rfl, rfl⟩; simp only [HG.out, HBd.out]) | (go_at_call 12; refine (rbounded_any ao n c f _ _ (by omega) (HR.out.later hb1) HB.out hx0).mono ?_; rintro e w2 ⟨rfl, rfl⟩; simp only [HG.out, HBd.out]) | (go_at_call 13; refine (bytes_err ao n c f _ _ (by omega) (HR.out.later hb1) HB.out h1 h2 er HE.out he0).mono ?_; rintro e w2 ⟨rfl, rfl⟩) | (go_at_call 14; refine (rbytes_err ao n c f _ _ (by omega) (HR.out.later hb1) HB.out h1 h2 er HE.out he0).mono ?_; rintro e w2 ⟨rfl, rfl⟩))
  have hb1d := hb1.drew
  have hcn : ∀ w' : World, (convert 22 9 (.slice none 0 0)).run Try.prog w' = .ok (.string (strOfNums [])) w' := fun w' => row_string (zs := []) w' Try.underlying22 Try.underlying5 Try.underlying9 (row_nil _ _)
  have HCN := Lib.hid hcn
  have hd := (Below.refl w1.heap.size w1).drew
  clear hcn
  refine wp_plan (fun w' => Below w1.heap.size w1 w' ∧ (convert 22 9 (.slice none 0 0)).run Try.prog w' = .ok (.string (strOfNums [])) w') [51, 55, 56, 61, 63] [0, 1, 2, 3, 4, 5, 6, 7, 8, 9, 10, 11, 12, 13, 14, 15, 16, 17, 18, 19, 20, 21, 22, 23, 24, 25, 26, 27, 28, 29, 30, 31, 32, 33, 34, 35, 36, 37, 38, 39, 40, 41, 42, 43, 44, 45, 46, 47, 48, 49, 50, 53, 54, 51, 52, 55, 56, 57, 58, 59, 60, 62, 61, 63, 64, 65, 66] (by kernel_rfl) (by kernel_rfl) ⟨hd, HCN.out _⟩ (fun hHeld => ?_)
  iterate 53 (refine wpT_take rfl (by rfl) (by rfl) (by intro w' hSw; (try dsimp only at hSw); go_simp; (try with_reducible rfl)) (by assumption) ?_; (try simp only [Act.put, List.setIfInBounds_toArray, List.set_cons_zero, List.set_cons_succ]))
  (refine wpT_step rfl (by rfl) (fun K hK => ?_); go_simp)
  refine (put_any ao n c (bcells f n) x _ (by omega) hx0 hx1 (HR.out.later (hb1.trans (hd.mono hb1.size)))).mono ?_
  rintro e w2 ⟨g, cap, rfl, hown, hbel⟩
  rw [HL.out] at hown ⊢
  have h2 := hd.trans hbel
  have hcA : ∀ w', Below w2.heap.size w2 w' → (convert 22 9 (.slice (some ⟨g, 0, none⟩) (n + L) cap)).run Try.prog w' = .ok (.string (strOfNums (bnums (cat2 f n fp) (n + L)))) w' := fun w' hb' =>
    row_string w' Try.underlying22 Try.underlying5 Try.underlying9 (by rw [← bcells_nums]; exact (show Row w2 (some ⟨g, 0, none⟩) (n + L) cap 1 (bcells (cat2 f n fp) (n + L)) by rw [bcells_cat2, HP.out]; exact row_own hown (by rw [← HP.out, ← bcells_cat2]; exact bcells_one _ _)).later hb')
  have HCA := Lib.hid hcA
  have h22 := Below.refl w2.heap.size w2
  clear hcA hown hbel
  (refine hK.out _ _ (fun w' => _ ∧ (fun x => (convert 22 9 (.slice (some ⟨g, 0, none⟩) (n + L) cap)).run Try.prog x = .ok (.string (strOfNums (bnums (cat2 f n fp) (n + L)))) x) w') (fun _ h => h.1) ⟨⟨h2, HCN.out _⟩, HCA.out _ h22⟩ (fun hHeld => ?_); clear hK; clear K; (try simp only [Act.put, List.setIfInBounds_toArray, List.set_cons_zero, List.set_cons_succ]))
  iterate 1 (refine wpT_take rfl (by rfl) (by rfl) (by intro w' hSw; (try dsimp only at hSw); go_simp; (try with_reducible rfl)) (by assumption) ?_; (try simp only [Act.put, List.setIfInBounds_toArray, List.set_cons_zero, List.set_cons_succ]))
  (refine wpT_step rfl (by rfl) (fun K hK => ?_); go_simp)
  refine (rput_any ao n c (bcells f n) x _ (by omega) hx0 hx1 (HR.out.later (hb1.trans (h2.mono hb1.size)))).mono ?_
  rintro e w3 ⟨g3, cap3, rfl, hown3, hbel3⟩
  rw [HL.out] at hown3 ⊢
  have h3 := h2.trans (hbel3.mono h2.size)
  have hcB := row_string (P := Try.prog) (T := 22) (S := 9) (zs := bnums (cat2 f n fp) (n + L)) w3 Try.underlying22 Try.underlying5 Try.underlying9 (by
    rw [← bcells_nums, bcells_cat2, HP.out]; exact row_own hown3 (by rw [← HP.out, ← bcells_cat2]; exact bcells_one _ _))
  clear hown3
  (refine hK.out _ _ _ (fun _ h => h) (⟨⟨h3, HCN.out _⟩, HCA.out _ hbel3⟩) (fun hHeld => ?_); clear hK; clear K; (try simp only [Act.put, List.setIfInBounds_toArray, List.set_cons_zero, List.set_cons_succ]))
  (refine wpT_step rfl (by rfl) (fun K hK => ?_); go_simp)
  (refine hK.out _ _ _ (fun _ h => h) (⟨⟨h3, HCN.out _⟩, HCA.out _ hbel3⟩) (fun hHeld => ?_); clear hK; clear K; (try simp only [Act.put, List.setIfInBounds_toArray, List.set_cons_zero, List.set_cons_succ]))
  iterate 5 (refine wpT_take rfl (by rfl) (by rfl) (by intro w' hSw; (try dsimp only at hSw); go_simp; (try with_reducible rfl)) (by assumption) ?_; (try simp only [Act.put, List.setIfInBounds_toArray, List.set_cons_zero, List.set_cons_succ]))
  (refine wpT_step rfl (by rfl) (fun K hK => ?_); go_simp)
  refine (size_any _ _).mono ?_
  rintro e w4 ⟨rfl, rfl⟩
  (refine hK.out _ _ _ (fun _ h => h) (⟨⟨h3, HCN.out _⟩, HCA.out _ hbel3⟩) (fun hHeld => ?_); clear hK; clear K; (try simp only [Act.put, List.setIfInBounds_toArray, List.set_cons_zero, List.set_cons_succ]))
  (refine wpT_step rfl (by rfl) (fun K hK => ?_); go_simp)
  refine (rsize_any _ _).mono ?_
  rintro e w4 ⟨rfl, rfl⟩
  (refine hK.out _ _ _ (fun _ h => h) (⟨⟨h3, HCN.out _⟩, HCA.out _ hbel3⟩) (fun hHeld => ?_); clear hK; clear K; (try simp only [Act.put, List.setIfInBounds_toArray, List.set_cons_zero, List.set_cons_succ]))
  iterate 3 (refine wpT_take rfl (by rfl) (by rfl) (by intro w' hSw; (try dsimp only at hSw); go_simp; (try with_reducible rfl)) (by assumption) ?_; (try simp only [Act.put, List.setIfInBounds_toArray, List.set_cons_zero, List.set_cons_succ]))
  (refine wpT_nil ?_)
  go_wp2
  go_ret
  exact ⟨rfl, hb1.trans (h3.mono hb1.size)⟩
set_option maxRecDepth 100000 in
set_option maxHeartbeats 2000000 in
theorem is_ok (ao : Option Addr) (n c : Nat) (f : Nat → Int) (x most : Int) (w : World) (hr : Row w ao n c 1 (bcells f n)) (hb : ∀ i, 0 ≤ f i ∧ f i < 256) (hn : n ≤ 1000) (hx0 : 0 ≤ x) (hx1 : x < 18446744073709551616)
    (h1 : -9223372036854775808 ≤ most) (h2 : most ≤ 9223372036854775807) (y k : Nat) (hGy : getF f n = ((y : Int), (k : Int), 0)) (hky : k + y ≤ n) (hk1 : 1 ≤ k) (hym : (y : Int) ≤ most) (hy31 : y ≤ 2147483647) :
    Calls Try.prog 3 #[.slice ao n c, .int .u64 x, .int .i64 most] w fun e w' => e = .returned (.bool true) ∧ Below w.heap.size w w' := by
  have HR := Lib.hid hr
  have HB := Lib.hid hb
  obtain ⟨fp, hbp, hfp⟩ := putL_bcells x hx0
  obtain ⟨L, hL⟩ : ∃ L, (putL x).length = L := ⟨_, rfl⟩
  rw [hL] at hfp
  have HP := Lib.hid hfp
  have HL := Lib.hid hL
  clear hfp hL
  obtain ⟨p2, q2, r2, hBd⟩ : ∃ p2 q2 r2, boundN (y : Int) (k : Int) 0 x = (p2, q2, r2) := ⟨_, _, _, rfl⟩
  have HG := Lib.hid hGy
  have HBd := Lib.hid hBd
  clear hr hb hGy hBd
  go_enter Try.func3, Try.ntmps3
  go_wp2_with (first | (go_at_call 8; refine (awake_any _).mono ?_; rintro e w1 ⟨rfl, hb1⟩) | (go_at_call 9; refine (get_any ao n c f _ (by omega) (HR.out.later hb1) HB.out).mono ?_; rintro e w2 ⟨rfl, rfl⟩; simp only [HG.out]) | (go_at_call 10; refine (rget_any ao n c f _ (by omega) (HR.out.later hb1) HB.out).mono ?_; rintro e w2 ⟨rfl, rfl⟩; simp only [HG.out]) | (go_at_call 11; refine (bounded_any ao n c f _ _ (by omega) (HR.out.later hb1) HB.out hx0).mono ?_; rintro e w2 ⟨rfl, rfl⟩; simp only [HG.out, HBd.out]) | (go_at_call 12; refine (rbounded_any ao n c f _ _ (by omega) (HR.out.later hb1) HB.out hx0).mono ?_; rintro e w2 ⟨rfl, rfl⟩; simp only [HG.out, HBd.out]) | (go_at_call 13; refine (bytes_ok ao n c f _ _ (by omega) (HR.out.later hb1) HB.out h2 y k HG.out hky hk1 hym hy31).mono ?_; rintro e w2 ⟨ao', rfl, hrc, rfl⟩) | (go_at_call 14; refine (rbytes_ok ao n c f _ _ (by omega) (HR.out.later hb1) HB.out h2 y k HG.out hky hk1 hym hy31).mono ?_; rintro e w2 ⟨gd, capd, rfl, hownd, hbd⟩))
  have hrd := row_own hownd (bcells_one _ _)
  have hrc2 := hrc.later hbd
  have hb1' := hb1.trans (hbd.mono hb1.size)
  clear hrc hbd hownd hb1
  obtain ⟨hb1, hb1'⟩ : Below w.heap.size w w2 ∧ True := ⟨hb1', trivial⟩
  clear w1
  have hcc : ∀ w' : World, Below w2.heap.size w2 w' → (convert 22 9 (.slice ao' y y)).run Try.prog w' = .ok (.string (strOfNums (bnums (fun i => f (k + i)) y))) w' := fun w' hb' => row_string w' Try.underlying22 Try.underlying5 Try.underlying9 (by rw [← bcells_nums]; exact hrc2.later hb')
  have hcd : ∀ w' : World, Below w2.heap.size w2 w' → (convert 22 9 (.slice (some ⟨gd, 0, none⟩) y capd)).run Try.prog w' = .ok (.string (strOfNums (bnums (fun i => f (k + i)) y))) w' := fun w' hb' => row_string w' Try.underlying22 Try.underlying5 Try.underlying9 (by rw [← bcells_nums]; exact hrd.later hb')
  have HCC := Lib.hid hcc
  have HCD := Lib.hid hcd
  have hd := (Below.refl w2.heap.size w2).drew
  clear hcc hcd hrc2 hrd
  refine wp_plan (fun w' => Below w2.heap.size w2 w' ∧ (convert 22 9 (.slice ao' y y)).run Try.prog w' = .ok (.string (strOfNums (bnums (fun i => f (k + i)) y))) w' ∧ (convert 22 9 (.slice (some ⟨gd, 0, none⟩) y capd)).run Try.prog w' = .ok (.string (strOfNums (bnums (fun i => f (k + i)) y))) w') [51, 55, 56, 61, 63] [0, 1, 2, 3, 4, 5, 6, 7, 8, 9, 10, 11, 12, 13, 14, 15, 16, 17, 18, 19, 20, 21, 22, 23, 24, 25, 26, 27, 28, 29, 30, 31, 32, 33, 34, 35, 36, 37, 38, 39, 40, 41, 42, 43, 44, 45, 46, 47, 48, 49, 50, 53, 54, 51, 52, 55, 56, 57, 58, 59, 60, 62, 61, 63, 64, 65, 66] (by kernel_rfl) (by kernel_rfl) ⟨hd, HCC.out _ hd, HCD.out _ hd⟩ (fun hHeld => ?_)
  iterate 53 (refine wpT_take rfl (by rfl) (by rfl) (by intro w' hSw; (try dsimp only at hSw); go_simp; (try with_reducible rfl)) (by assumption) ?_; (try simp only [Act.put, List.setIfInBounds_toArray, List.set_cons_zero, List.set_cons_succ]))
  (refine wpT_step rfl (by rfl) (fun K hK => ?_); go_simp)
  refine (put_any ao n c (bcells f n) x _ (by omega) hx0 hx1 (HR.out.later (hb1.trans (hd.mono hb1.size)))).mono ?_
  rintro e w5 ⟨g, cap, rfl, hown, hbel⟩
  rw [HL.out] at hown ⊢
  have h5 := hd.trans hbel
  have hcA : ∀ w', Below w5.heap.size w5 w' → (convert 22 9 (.slice (some ⟨g, 0, none⟩) (n + L) cap)).run Try.prog w' = .ok (.string (strOfNums (bnums (cat2 f n fp) (n + L)))) w' := fun w' hb' =>
    row_string w' Try.underlying22 Try.underlying5 Try.underlying9 (by rw [← bcells_nums]; exact (show Row w5 (some ⟨g, 0, none⟩) (n + L) cap 1 (bcells (cat2 f n fp) (n + L)) by rw [bcells_cat2, HP.out]; exact row_own hown (by rw [← HP.out, ← bcells_cat2]; exact bcells_one _ _)).later hb')
  have HCA := Lib.hid hcA
  have h55 := Below.refl w5.heap.size w5
  clear hcA hown hbel
  (refine hK.out _ _ (fun w' => _ ∧ (fun x => (convert 22 9 (.slice (some ⟨g, 0, none⟩) (n + L) cap)).run Try.prog x = .ok (.string (strOfNums (bnums (cat2 f n fp) (n + L)))) x) w') (fun _ h => h.1) ⟨⟨h5, HCC.out _ h5, HCD.out _ h5⟩, HCA.out _ h55⟩ (fun hHeld => ?_); clear hK; clear K; (try simp only [Act.put, List.setIfInBounds_toArray, List.set_cons_zero, List.set_cons_succ]))
  iterate 1 (refine wpT_take rfl (by rfl) (by rfl) (by intro w' hSw; (try dsimp only at hSw); go_simp; (try with_reducible rfl)) (by assumption) ?_; (try simp only [Act.put, List.setIfInBounds_toArray, List.set_cons_zero, List.set_cons_succ]))
  (refine wpT_step rfl (by rfl) (fun K hK => ?_); go_simp)
  refine (rput_any ao n c (bcells f n) x _ (by omega) hx0 hx1 (HR.out.later (hb1.trans (h5.mono hb1.size)))).mono ?_
  rintro e w3 ⟨g3, cap3, rfl, hown3, hbel3⟩
  rw [HL.out] at hown3 ⊢
  have h3 := h5.trans (hbel3.mono h5.size)
  have hcB := row_string (P := Try.prog) (T := 22) (S := 9) (zs := bnums (cat2 f n fp) (n + L)) w3 Try.underlying22 Try.underlying5 Try.underlying9 (by
    rw [← bcells_nums, bcells_cat2, HP.out]; exact row_own hown3 (by rw [← HP.out, ← bcells_cat2]; exact bcells_one _ _))
  clear hown3
  (refine hK.out _ _ _ (fun _ h => h) (⟨⟨h3, HCC.out _ h3, HCD.out _ h3⟩, HCA.out _ hbel3⟩) (fun hHeld => ?_); clear hK; clear K; (try simp only [Act.put, List.setIfInBounds_toArray, List.set_cons_zero, List.set_cons_succ]))
  (refine wpT_step rfl (by rfl) (fun K hK => ?_); go_simp)
  (refine hK.out _ _ _ (fun _ h => h) (⟨⟨h3, HCC.out _ h3, HCD.out _ h3⟩, HCA.out _ hbel3⟩) (fun hHeld => ?_); clear hK; clear K; (try simp only [Act.put, List.setIfInBounds_toArray, List.set_cons_zero, List.set_cons_succ]))
  iterate 5 (refine wpT_take rfl (by rfl) (by rfl) (by intro w' hSw; (try dsimp only at hSw); go_simp; (try with_reducible rfl)) (by assumption) ?_; (try simp only [Act.put, List.setIfInBounds_toArray, List.set_cons_zero, List.set_cons_succ]))
  (refine wpT_step rfl (by rfl) (fun K hK => ?_); go_simp)
  refine (size_any _ _).mono ?_
  rintro e w4 ⟨rfl, rfl⟩
  (refine hK.out _ _ _ (fun _ h => h) (⟨⟨h3, HCC.out _ h3, HCD.out _ h3⟩, HCA.out _ hbel3⟩) (fun hHeld => ?_); clear hK; clear K; (try simp only [Act.put, List.setIfInBounds_toArray, List.set_cons_zero, List.set_cons_succ]))
  (refine wpT_step rfl (by rfl) (fun K hK => ?_); go_simp)
  refine (rsize_any _ _).mono ?_
  rintro e w4 ⟨rfl, rfl⟩
  (refine hK.out _ _ _ (fun _ h => h) (⟨⟨h3, HCC.out _ h3, HCD.out _ h3⟩, HCA.out _ hbel3⟩) (fun hHeld => ?_); clear hK; clear K; (try simp only [Act.put, List.setIfInBounds_toArray, List.set_cons_zero, List.set_cons_succ]))
  iterate 3 (refine wpT_take rfl (by rfl) (by rfl) (by intro w' hSw; (try dsimp only at hSw); go_simp; (try with_reducible rfl)) (by assumption) ?_; (try simp only [Act.put, List.setIfInBounds_toArray, List.set_cons_zero, List.set_cons_succ]))
  (refine wpT_nil ?_)
  go_wp2
  go_ret
  exact ⟨rfl, hb1.trans (h3.mono hb1.size)⟩

theorem is_big (ao : Option Addr) (n c : Nat) (x most : Int) (w : World) (hm : n ≤ 9223372036854775807) (h : 1000 < n) :
    Calls Try.prog 3 #[.slice ao n c, .int .u64 x, .int .i64 most] w fun e w' => e = .returned (.bool true) ∧ Below w.heap.size w w' := by
  have h1' : (1000 : Int) < (n : Int) := by omega
  clear h
  go_enter Try.func3, Try.ntmps3
  go_wp2_with (go_at_call 8; refine (awake_any _).mono ?_; rintro e w1 ⟨rfl, hb1⟩)
  go_ret
  exact ⟨rfl, hb1⟩

theorem is_walk (ao : Option Addr) (n c : Nat) (f : Nat → Int) (x most : Int) (w : World) (hr : Row w ao n c 1 (bcells f n)) (hb : ∀ i, 0 ≤ f i ∧ f i < 256) (hm : n ≤ 9223372036854775807) (hx0 : 0 ≤ x) (hx1 : x < 18446744073709551616)
    (h1 : -9223372036854775808 ≤ most) (h2 : most ≤ 9223372036854775807) :
    Calls Try.prog 3 #[.slice ao n c, .int .u64 x, .int .i64 most] w fun e w' => e = .returned (.bool true) ∧ Below w.heap.size w w' := by
  by_cases hn : 1000 < n
  · exact is_big ao n c x most w hm hn
  · rcases bytes_cases n f most hb with ⟨er, he, he0⟩ | ⟨y, k, g1, g2, g3, g4, g5⟩
    · exact is_err ao n c f x most w hr hb (by omega) hx0 hx1 h1 h2 er he he0
    · exact is_ok ao n c f x most w hr hb (by omega) hx0 hx1 h1 h2 y k g1 g2 g3 g4 g5
end Go.Proofs.Ytpifenhboblcfaa
