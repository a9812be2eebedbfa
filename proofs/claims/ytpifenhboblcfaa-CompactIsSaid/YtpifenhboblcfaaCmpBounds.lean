/- CompactBounds: the walk of the law. -/
import Derived.Test.YtpifenhboblcfaaCmpB
import Derived.Test.YtpifenhboblcfaaCmpM2
namespace Go.Proofs.Ytpifenhboblcfaa
set_option linter.unusedVariables false
set_option linter.unusedSimpArgs false
open Go.RowKit

/-- any list of bytes is the bytes of a function -/
theorem putL_bcells (x : Int) (h0 : 0 ≤ x) : ∃ f : Nat → Int, (∀ i, 0 ≤ f i ∧ f i < 256) ∧ bcells f (putL x).length = putL x := by
  have key : ∀ l : List Value, (∀ u ∈ l, ∃ b : Int, u = .int .u8 b ∧ 0 ≤ b ∧ b < 256) → ∃ f : Nat → Int, (∀ i, 0 ≤ f i ∧ f i < 256) ∧ bcells f l.length = l := by
    intro l
    induction l with
    | nil => intro _; exact ⟨fun _ => 0, fun _ => by simp, rfl⟩
    | cons u r ih =>
      intro h
      obtain ⟨f, hf, hr⟩ := ih (fun v hv => h v (List.mem_cons_of_mem _ hv))
      obtain ⟨b, rfl, hb⟩ := h u List.mem_cons_self
      refine ⟨fun i => if i = 0 then b else f (i - 1), fun i => by dsimp only; split; exact hb; exact hf _, ?_⟩
      rw [List.length_cons, bcells_succ]
      congr 1
      rw [← hr]
      simp only [bcells, List.length_map, List.length_range]
      apply List.map_congr_left
      intro i _
      rw [if_neg (by omega), Nat.add_sub_cancel_left]
  apply key
  have hle : ∀ j, ∀ u ∈ leB x j, ∃ b : Int, u = .int .u8 b ∧ 0 ≤ b ∧ b < 256 := by
    intro j u hu
    simp only [leB, List.mem_map] at hu
    obtain ⟨i, _, rfl⟩ := hu
    exact ⟨_, rfl, Int.emod_nonneg _ (by omega), Int.emod_lt_of_pos _ (by omega)⟩
  intro u hu
  unfold putL at hu
  by_cases h1 : x < 253
  · rw [if_pos h1] at hu; simp at hu; exact ⟨x, hu, h0, by omega⟩
  rw [if_neg h1] at hu
  by_cases h2 : x < 65536
  · rw [if_pos h2] at hu
    rcases List.mem_cons.1 hu with rfl | hu
    · exact ⟨253, rfl, by omega, by omega⟩
    · exact hle _ _ hu
  rw [if_neg h2] at hu
  by_cases h3 : x < 4294967296
  · rw [if_pos h3] at hu
    rcases List.mem_cons.1 hu with rfl | hu
    · exact ⟨254, rfl, by omega, by omega⟩
    · exact hle _ _ hu
  · rw [if_neg h3] at hu
    rcases List.mem_cons.1 hu with rfl | hu
    · exact ⟨255, rfl, by omega, by omega⟩
    · exact hle _ _ hu

theorem sizeOf_mono (a b : Int) (h : a ≤ b) : sizeOfN a ≤ sizeOfN b := by
  rcases sizeOf_cases a with ⟨h1, _⟩ | ⟨h1, _, _⟩ | ⟨h1, _, _⟩ | ⟨h1, _⟩ <;> rcases sizeOf_cases b with ⟨h2, _⟩ | ⟨h2, _, _⟩ | ⟨h2, _, _⟩ | ⟨h2, _⟩ <;> omega

theorem sizeOf_pos (a : Int) : 1 ≤ sizeOfN a ∧ sizeOfN a ≤ 9 := by
  rcases sizeOf_cases a with ⟨h1, _⟩ | ⟨h1, _, _⟩ | ⟨h1, _, _⟩ | ⟨h1, _⟩ <;> omega

theorem putL_len' (k : Int) : ((putL k).length : Int) = sizeOfN k := by
  rw [putL_len]; have := sizeOf_pos k; omega


set_option maxHeartbeats 1000000 in
theorem bounds_okgt (n m most : Int) (w : World) (hn0 : 0 ≤ n) (hn1 : n < 18446744073709551616) (hmo : 0 ≤ most) (ho1 : n ≤ most) (ho2 : n < 2147483648) (hmn : m < n) :
    Calls Try.prog 7 #[.int .u64 n, .int .u64 m, .int .u64 most] w fun e w' => e = .returned (.bool true) ∧ Below w.heap.size w w' := by
  obtain ⟨f, hb, hf⟩ := putL_bcells n hn0
  obtain ⟨L, hL⟩ : ∃ L, (putL n).length = L := ⟨_, rfl⟩
  have hLs : (L : Int) = sizeOfN n := by rw [← hL]; exact putL_len' n
  have hL9 := sizeOf_pos n
  have hG : getF f L = (n, (L : Int), 0) := by rw [getF_put n hn0 hn1 f hf L, hL, if_neg (by omega)]
  rw [hL] at hf
  have HF := Lib.hid hf
  have HB := Lib.hid hb
  have HG := Lib.hid hG
  have HLs := Lib.hid hLs
  have HL := Lib.hid hL
  have hL9' : L ≤ 9 := by omega
  have h0L : (0 : Int) ≤ (L : Int) := by omega
  have HBd := Lib.hid (show boundN n (L : Int) 0 most = (n, (L : Int), 0) by unfold boundN; rw [if_neg (by simp), if_pos (by omega)])
  clear hf hb hG hLs hL hL9
  go_enter Try.func7, Try.ntmps7
  go_wp2_with (go_at_call 8; refine (awake_any _).mono ?_; rintro e w1 ⟨rfl, hb1⟩)
  refine (put_any none 0 0 [] n _ (by omega) hn0 hn1 (row_nil _ _)).mono ?_
  rintro e w2 ⟨g, cap, rfl, hown, hbel⟩
  rw [HL.out, Nat.zero_add, List.nil_append] at hown
  rw [HL.out, Nat.zero_add]
  have HR := Lib.hid (show Row w2 (some ⟨g, 0, none⟩) L cap 1 (bcells f L) by rw [HF.out]; exact row_own hown (by rw [← HF.out]; exact bcells_one _ _))
  have hb2 := hb1.trans (hbel.mono hb1.size)
  clear hown hbel
  go_wp2_with (go_at_call 11; refine (bounded_any _ L _ f _ _ (by omega) HR.out HB.out hmo).mono ?_; rintro e w3 ⟨rfl, rfl⟩; rw [HG.out]; simp only [HBd.out])
  refine (size_any _ _).mono ?_
  rintro e w3 ⟨rfl, rfl⟩
  rw [← HLs.out]
  go_wp2_with fail
  refine (put_any none 0 0 [] n _ (by omega) hn0 hn1 (row_nil _ _)).mono ?_
  rintro e w4 ⟨g2, cap2, rfl, _, hbel2⟩
  rw [HL.out, Nat.zero_add]
  have hb3 := hb2.trans (hbel2.mono hb2.size)
  clear hbel2
  go_wp2_with fail
  refine (size_any _ _).mono ?_
  rintro e w5 ⟨rfl, rfl⟩
  rw [← HLs.out]
  go_wp2_with fail
  go_ret
  exact ⟨rfl, hb3⟩

set_option maxHeartbeats 1000000 in
theorem bounds_okle (n m most : Int) (w : World) (hn0 : 0 ≤ n) (hn1 : n < 18446744073709551616) (hmo : 0 ≤ most) (ho1 : n ≤ most) (ho2 : n < 2147483648) (hmn : ¬ m < n) :
    Calls Try.prog 7 #[.int .u64 n, .int .u64 m, .int .u64 most] w fun e w' => e = .returned (.bool true) ∧ Below w.heap.size w w' := by
  obtain ⟨f, hb, hf⟩ := putL_bcells n hn0
  obtain ⟨L, hL⟩ : ∃ L, (putL n).length = L := ⟨_, rfl⟩
  have hLs : (L : Int) = sizeOfN n := by rw [← hL]; exact putL_len' n
  have hL9 := sizeOf_pos n
  have hG : getF f L = (n, (L : Int), 0) := by rw [getF_put n hn0 hn1 f hf L, hL, if_neg (by omega)]
  rw [hL] at hf
  have HF := Lib.hid hf
  have HB := Lib.hid hb
  have HG := Lib.hid hG
  have HLs := Lib.hid hLs
  have HL := Lib.hid hL
  have hL9' : L ≤ 9 := by omega
  have h0L : (0 : Int) ≤ (L : Int) := by omega
  have HBd := Lib.hid (show boundN n (L : Int) 0 most = (n, (L : Int), 0) by unfold boundN; rw [if_neg (by simp), if_pos (by omega)])
  have hLm : (L : Int) ≤ sizeOfN m := by rw [hLs]; exact sizeOf_mono n m (by omega)
  clear hf hb hG hLs hL hL9
  go_enter Try.func7, Try.ntmps7
  go_wp2_with (go_at_call 8; refine (awake_any _).mono ?_; rintro e w1 ⟨rfl, hb1⟩)
  refine (put_any none 0 0 [] n _ (by omega) hn0 hn1 (row_nil _ _)).mono ?_
  rintro e w2 ⟨g, cap, rfl, hown, hbel⟩
  rw [HL.out, Nat.zero_add, List.nil_append] at hown
  rw [HL.out, Nat.zero_add]
  have HR := Lib.hid (show Row w2 (some ⟨g, 0, none⟩) L cap 1 (bcells f L) by rw [HF.out]; exact row_own hown (by rw [← HF.out]; exact bcells_one _ _))
  have hb2 := hb1.trans (hbel.mono hb1.size)
  clear hown hbel
  go_wp2_with (go_at_call 11; refine (bounded_any _ L _ f _ _ (by omega) HR.out HB.out hmo).mono ?_; rintro e w3 ⟨rfl, rfl⟩; rw [HG.out]; simp only [HBd.out])
  refine (size_any _ _).mono ?_
  rintro e w3 ⟨rfl, rfl⟩
  rw [← HLs.out]
  go_wp2_with fail
  refine (size_any _ _).mono ?_
  rintro e w3 ⟨rfl, rfl⟩
  rw [← HLs.out]
  go_wp2_with fail
  refine (size_any _ _).mono ?_
  rintro e w3 ⟨rfl, rfl⟩
  go_wp2_with fail
  refine (put_any none 0 0 [] n _ (by omega) hn0 hn1 (row_nil _ _)).mono ?_
  rintro e w4 ⟨g2, cap2, rfl, _, hbel2⟩
  rw [HL.out, Nat.zero_add]
  have hb3 := hb2.trans (hbel2.mono hb2.size)
  clear hbel2
  go_wp2_with fail
  refine (size_any _ _).mono ?_
  rintro e w5 ⟨rfl, rfl⟩
  rw [← HLs.out]
  go_wp2_with fail
  go_ret
  exact ⟨rfl, hb3⟩

set_option maxHeartbeats 1000000 in
theorem bounds_bigt (n m most : Int) (w : World) (hn0 : 0 ≤ n) (hn1 : n < 18446744073709551616) (hmo : 0 ≤ most) (ho1 : most < n) (hmn : m < n) :
    Calls Try.prog 7 #[.int .u64 n, .int .u64 m, .int .u64 most] w fun e w' => e = .returned (.bool true) ∧ Below w.heap.size w w' := by
  obtain ⟨f, hb, hf⟩ := putL_bcells n hn0
  obtain ⟨L, hL⟩ : ∃ L, (putL n).length = L := ⟨_, rfl⟩
  have hLs : (L : Int) = sizeOfN n := by rw [← hL]; exact putL_len' n
  have hL9 := sizeOf_pos n
  have hG : getF f L = (n, (L : Int), 0) := by rw [getF_put n hn0 hn1 f hf L, hL, if_neg (by omega)]
  rw [hL] at hf
  have HF := Lib.hid hf
  have HB := Lib.hid hb
  have HG := Lib.hid hG
  have HLs := Lib.hid hLs
  have HL := Lib.hid hL
  have hL9' : L ≤ 9 := by omega
  have h0L : (0 : Int) ≤ (L : Int) := by omega
  have HBd := Lib.hid (show boundN n (L : Int) 0 most = (0, 0, 3) by unfold boundN; rw [if_neg (by simp), if_neg (by omega)])
  clear hf hb hG hLs hL hL9
  go_enter Try.func7, Try.ntmps7
  go_wp2_with (go_at_call 8; refine (awake_any _).mono ?_; rintro e w1 ⟨rfl, hb1⟩)
  refine (put_any none 0 0 [] n _ (by omega) hn0 hn1 (row_nil _ _)).mono ?_
  rintro e w2 ⟨g, cap, rfl, hown, hbel⟩
  rw [HL.out, Nat.zero_add, List.nil_append] at hown
  rw [HL.out, Nat.zero_add]
  have HR := Lib.hid (show Row w2 (some ⟨g, 0, none⟩) L cap 1 (bcells f L) by rw [HF.out]; exact row_own hown (by rw [← HF.out]; exact bcells_one _ _))
  have hb2 := hb1.trans (hbel.mono hb1.size)
  clear hown hbel
  go_wp2_with (go_at_call 11; refine (bounded_any _ L _ f _ _ (by omega) HR.out HB.out hmo).mono ?_; rintro e w3 ⟨rfl, rfl⟩; rw [HG.out]; simp only [HBd.out])
  refine (put_any none 0 0 [] n _ (by omega) hn0 hn1 (row_nil _ _)).mono ?_
  rintro e w4 ⟨g2, cap2, rfl, _, hbel2⟩
  rw [HL.out, Nat.zero_add]
  have hb3 := hb2.trans (hbel2.mono hb2.size)
  clear hbel2
  go_wp2_with fail
  refine (size_any _ _).mono ?_
  rintro e w5 ⟨rfl, rfl⟩
  rw [← HLs.out]
  go_wp2_with fail
  go_ret
  exact ⟨rfl, hb3⟩

set_option maxHeartbeats 1000000 in
theorem bounds_bigle (n m most : Int) (w : World) (hn0 : 0 ≤ n) (hn1 : n < 18446744073709551616) (hmo : 0 ≤ most) (ho1 : most < n) (hmn : ¬ m < n) :
    Calls Try.prog 7 #[.int .u64 n, .int .u64 m, .int .u64 most] w fun e w' => e = .returned (.bool true) ∧ Below w.heap.size w w' := by
  obtain ⟨f, hb, hf⟩ := putL_bcells n hn0
  obtain ⟨L, hL⟩ : ∃ L, (putL n).length = L := ⟨_, rfl⟩
  have hLs : (L : Int) = sizeOfN n := by rw [← hL]; exact putL_len' n
  have hL9 := sizeOf_pos n
  have hG : getF f L = (n, (L : Int), 0) := by rw [getF_put n hn0 hn1 f hf L, hL, if_neg (by omega)]
  rw [hL] at hf
  have HF := Lib.hid hf
  have HB := Lib.hid hb
  have HG := Lib.hid hG
  have HLs := Lib.hid hLs
  have HL := Lib.hid hL
  have hL9' : L ≤ 9 := by omega
  have h0L : (0 : Int) ≤ (L : Int) := by omega
  have HBd := Lib.hid (show boundN n (L : Int) 0 most = (0, 0, 3) by unfold boundN; rw [if_neg (by simp), if_neg (by omega)])
  have hLm : (L : Int) ≤ sizeOfN m := by rw [hLs]; exact sizeOf_mono n m (by omega)
  clear hf hb hG hLs hL hL9
  go_enter Try.func7, Try.ntmps7
  go_wp2_with (go_at_call 8; refine (awake_any _).mono ?_; rintro e w1 ⟨rfl, hb1⟩)
  refine (put_any none 0 0 [] n _ (by omega) hn0 hn1 (row_nil _ _)).mono ?_
  rintro e w2 ⟨g, cap, rfl, hown, hbel⟩
  rw [HL.out, Nat.zero_add, List.nil_append] at hown
  rw [HL.out, Nat.zero_add]
  have HR := Lib.hid (show Row w2 (some ⟨g, 0, none⟩) L cap 1 (bcells f L) by rw [HF.out]; exact row_own hown (by rw [← HF.out]; exact bcells_one _ _))
  have hb2 := hb1.trans (hbel.mono hb1.size)
  clear hown hbel
  go_wp2_with (go_at_call 11; refine (bounded_any _ L _ f _ _ (by omega) HR.out HB.out hmo).mono ?_; rintro e w3 ⟨rfl, rfl⟩; rw [HG.out]; simp only [HBd.out])
  refine (size_any _ _).mono ?_
  rintro e w3 ⟨rfl, rfl⟩
  rw [← HLs.out]
  go_wp2_with fail
  refine (size_any _ _).mono ?_
  rintro e w3 ⟨rfl, rfl⟩
  go_wp2_with fail
  refine (put_any none 0 0 [] n _ (by omega) hn0 hn1 (row_nil _ _)).mono ?_
  rintro e w4 ⟨g2, cap2, rfl, _, hbel2⟩
  rw [HL.out, Nat.zero_add]
  have hb3 := hb2.trans (hbel2.mono hb2.size)
  clear hbel2
  go_wp2_with fail
  refine (size_any _ _).mono ?_
  rintro e w5 ⟨rfl, rfl⟩
  rw [← HLs.out]
  go_wp2_with fail
  go_ret
  exact ⟨rfl, hb3⟩

set_option maxHeartbeats 1000000 in
theorem bounds_bi2gt (n m most : Int) (w : World) (hn0 : 0 ≤ n) (hn1 : n < 18446744073709551616) (hmo : 0 ≤ most) (ho1 : n ≤ most) (ho2 : ¬ n < 2147483648) (hmn : m < n) :
    Calls Try.prog 7 #[.int .u64 n, .int .u64 m, .int .u64 most] w fun e w' => e = .returned (.bool true) ∧ Below w.heap.size w w' := by
  obtain ⟨f, hb, hf⟩ := putL_bcells n hn0
  obtain ⟨L, hL⟩ : ∃ L, (putL n).length = L := ⟨_, rfl⟩
  have hLs : (L : Int) = sizeOfN n := by rw [← hL]; exact putL_len' n
  have hL9 := sizeOf_pos n
  have hG : getF f L = (n, (L : Int), 0) := by rw [getF_put n hn0 hn1 f hf L, hL, if_neg (by omega)]
  rw [hL] at hf
  have HF := Lib.hid hf
  have HB := Lib.hid hb
  have HG := Lib.hid hG
  have HLs := Lib.hid hLs
  have HL := Lib.hid hL
  have hL9' : L ≤ 9 := by omega
  have h0L : (0 : Int) ≤ (L : Int) := by omega
  have HBd := Lib.hid (show boundN n (L : Int) 0 most = (0, 0, 3) by unfold boundN; rw [if_neg (by simp), if_neg (by omega)])
  clear hf hb hG hLs hL hL9
  go_enter Try.func7, Try.ntmps7
  go_wp2_with (go_at_call 8; refine (awake_any _).mono ?_; rintro e w1 ⟨rfl, hb1⟩)
  refine (put_any none 0 0 [] n _ (by omega) hn0 hn1 (row_nil _ _)).mono ?_
  rintro e w2 ⟨g, cap, rfl, hown, hbel⟩
  rw [HL.out, Nat.zero_add, List.nil_append] at hown
  rw [HL.out, Nat.zero_add]
  have HR := Lib.hid (show Row w2 (some ⟨g, 0, none⟩) L cap 1 (bcells f L) by rw [HF.out]; exact row_own hown (by rw [← HF.out]; exact bcells_one _ _))
  have hb2 := hb1.trans (hbel.mono hb1.size)
  clear hown hbel
  go_wp2_with (go_at_call 11; refine (bounded_any _ L _ f _ _ (by omega) HR.out HB.out hmo).mono ?_; rintro e w3 ⟨rfl, rfl⟩; rw [HG.out]; simp only [HBd.out])
  refine (put_any none 0 0 [] n _ (by omega) hn0 hn1 (row_nil _ _)).mono ?_
  rintro e w4 ⟨g2, cap2, rfl, _, hbel2⟩
  rw [HL.out, Nat.zero_add]
  have hb3 := hb2.trans (hbel2.mono hb2.size)
  clear hbel2
  go_wp2_with fail
  refine (size_any _ _).mono ?_
  rintro e w5 ⟨rfl, rfl⟩
  rw [← HLs.out]
  go_wp2_with fail
  go_ret
  exact ⟨rfl, hb3⟩

set_option maxHeartbeats 1000000 in
theorem bounds_bi2le (n m most : Int) (w : World) (hn0 : 0 ≤ n) (hn1 : n < 18446744073709551616) (hmo : 0 ≤ most) (ho1 : n ≤ most) (ho2 : ¬ n < 2147483648) (hmn : ¬ m < n) :
    Calls Try.prog 7 #[.int .u64 n, .int .u64 m, .int .u64 most] w fun e w' => e = .returned (.bool true) ∧ Below w.heap.size w w' := by
  obtain ⟨f, hb, hf⟩ := putL_bcells n hn0
  obtain ⟨L, hL⟩ : ∃ L, (putL n).length = L := ⟨_, rfl⟩
  have hLs : (L : Int) = sizeOfN n := by rw [← hL]; exact putL_len' n
  have hL9 := sizeOf_pos n
  have hG : getF f L = (n, (L : Int), 0) := by rw [getF_put n hn0 hn1 f hf L, hL, if_neg (by omega)]
  rw [hL] at hf
  have HF := Lib.hid hf
  have HB := Lib.hid hb
  have HG := Lib.hid hG
  have HLs := Lib.hid hLs
  have HL := Lib.hid hL
  have hL9' : L ≤ 9 := by omega
  have h0L : (0 : Int) ≤ (L : Int) := by omega
  have HBd := Lib.hid (show boundN n (L : Int) 0 most = (0, 0, 3) by unfold boundN; rw [if_neg (by simp), if_neg (by omega)])
  have hLm : (L : Int) ≤ sizeOfN m := by rw [hLs]; exact sizeOf_mono n m (by omega)
  clear hf hb hG hLs hL hL9
  go_enter Try.func7, Try.ntmps7
  go_wp2_with (go_at_call 8; refine (awake_any _).mono ?_; rintro e w1 ⟨rfl, hb1⟩)
  refine (put_any none 0 0 [] n _ (by omega) hn0 hn1 (row_nil _ _)).mono ?_
  rintro e w2 ⟨g, cap, rfl, hown, hbel⟩
  rw [HL.out, Nat.zero_add, List.nil_append] at hown
  rw [HL.out, Nat.zero_add]
  have HR := Lib.hid (show Row w2 (some ⟨g, 0, none⟩) L cap 1 (bcells f L) by rw [HF.out]; exact row_own hown (by rw [← HF.out]; exact bcells_one _ _))
  have hb2 := hb1.trans (hbel.mono hb1.size)
  clear hown hbel
  go_wp2_with (go_at_call 11; refine (bounded_any _ L _ f _ _ (by omega) HR.out HB.out hmo).mono ?_; rintro e w3 ⟨rfl, rfl⟩; rw [HG.out]; simp only [HBd.out])
  refine (size_any _ _).mono ?_
  rintro e w3 ⟨rfl, rfl⟩
  rw [← HLs.out]
  go_wp2_with fail
  refine (size_any _ _).mono ?_
  rintro e w3 ⟨rfl, rfl⟩
  go_wp2_with fail
  refine (put_any none 0 0 [] n _ (by omega) hn0 hn1 (row_nil _ _)).mono ?_
  rintro e w4 ⟨g2, cap2, rfl, _, hbel2⟩
  rw [HL.out, Nat.zero_add]
  have hb3 := hb2.trans (hbel2.mono hb2.size)
  clear hbel2
  go_wp2_with fail
  refine (size_any _ _).mono ?_
  rintro e w5 ⟨rfl, rfl⟩
  rw [← HLs.out]
  go_wp2_with fail
  go_ret
  exact ⟨rfl, hb3⟩

theorem bounds_walk (n m most : Int) (w : World) (hn0 : 0 ≤ n) (hn1 : n < 18446744073709551616) (hmo : 0 ≤ most) :
    Calls Try.prog 7 #[.int .u64 n, .int .u64 m, .int .u64 most] w fun e w' => e = .returned (.bool true) ∧ Below w.heap.size w w' := by
  by_cases hmn : m < n <;> by_cases ho1 : n ≤ most
  · by_cases ho2 : n < 2147483648
    · exact bounds_okgt n m most w hn0 hn1 hmo ho1 ho2 hmn
    · exact bounds_bi2gt n m most w hn0 hn1 hmo ho1 ho2 hmn
  · exact bounds_bigt n m most w hn0 hn1 hmo (by omega) hmn
  · by_cases ho2 : n < 2147483648
    · exact bounds_okle n m most w hn0 hn1 hmo ho1 ho2 hmn
    · exact bounds_bi2le n m most w hn0 hn1 hmo ho1 ho2 hmn
  · exact bounds_bigle n m most w hn0 hn1 hmo (by omega) hmn
end Go.Proofs.Ytpifenhboblcfaa
