/- florinref04: contracts of the document's own Size, Put, Get, Bounded, Bytes: as package compact's. -/
import Derived.Test.YtpifenhboblcfaaCmpBytes
namespace Go.Proofs.Ytpifenhboblcfaa
set_option linter.unusedVariables false
set_option linter.unusedSimpArgs false
open Go.RowKit

set_option maxHeartbeats 400000 in
theorem rsize_any (n : Int) (w : World) :
    Calls Try.prog 18 #[.int .u64 n] w fun e w' => e = .returned (.int .i64 (sizeOfN n)) ∧ w = w' := by
  rcases sizeOf_cases n with ⟨hk, h1⟩ | ⟨hk, h1, h2⟩ | ⟨hk, h1, h2⟩ | ⟨hk, h1⟩
  all_goals
    have H := Lib.hid hk
    clear hk
    go_enter Try.func18, Try.ntmps18
    go_wp2
    go_ret
    rw [H.out]; exact ⟨rfl, rfl⟩

set_option maxHeartbeats 400000 in
theorem rget_empty (a : Option Addr) (c : Nat) (w : World) :
    Calls Try.prog 10 #[.slice a 0 c] w fun e w' => e = .returned (.tuple #[.int .u64 0, .int .i64 0, .int .i64 1]) ∧ w = w' := by
  go_enter Try.func10, Try.ntmps10
  go_wp2
  go_ret3
  exact ⟨rfl, rfl⟩

set_option maxHeartbeats 400000 in
theorem rget_one (b off n c : Nat) (x : Int) (w : World) (hm : n ≤ 140737488351232) (h0 : 0 < n) (hx0 : 0 ≤ x) (hx : x < 253)
    (hc0 : w.cell? ⟨b, off, none⟩ = some (.int .u8 x)) :
    Calls Try.prog 10 #[.slice (some ⟨b, off, none⟩) n c] w fun e w' => e = .returned (.tuple #[.int .u64 x, .int .i64 1, .int .i64 0]) ∧ w = w' := by
  have hn0 : (0 : Int) < (n : Int) := by omega
  have HS := Lib.hid (show sizeOfN x = 1 by simp [sizeOfN, hx])
  go_enter Try.func10, Try.ntmps10
  go_wp2_with (go_at_call 18; refine (rsize_any _ _).mono ?_; rintro e w' ⟨rfl, rfl⟩; rw [HS.out])
  go_ret3
  exact ⟨rfl, rfl⟩

set_option maxHeartbeats 400000 in
theorem rget_short3 (b off n c : Nat) (w : World) (hm : n ≤ 140737488351232) (h0 : 0 < n) (hkn : n < 3)
    (hc0 : w.cell? ⟨b, off, none⟩ = some (.int .u8 253)) :
    Calls Try.prog 10 #[.slice (some ⟨b, off, none⟩) n c] w fun e w' => e = .returned (.tuple #[.int .u64 0, .int .i64 0, .int .i64 1]) ∧ w = w' := by
  have hn0 : (0 : Int) < (n : Int) := by omega
  go_enter Try.func10, Try.ntmps10
  go_wp2
  go_ret3
  exact ⟨rfl, rfl⟩

set_option maxHeartbeats 400000 in
theorem rget_long3 (b off n c : Nat) (f : Nat → Int) (w : World) (hm : n ≤ 140737488351232) (hkn : 3 ≤ n) (hf0 : f 0 = 253)
    (hc : ∀ i, i < n → w.cell? ⟨b, off + i, none⟩ = some (.int .u8 (f i))) (hb : ∀ i, 0 ≤ f i ∧ f i < 256) :
    Calls Try.prog 10 #[.slice (some ⟨b, off, none⟩) n c] w fun e w' => e = .returned (.tuple #[.int .u64 (getF f n).1, .int .i64 (getF f n).2.1, .int .i64 (getF f n).2.2]) ∧ w = w' := by
  have hc0 : w.cell? ⟨b, off, none⟩ = some (.int .u8 253) := by have := hc 0 (by omega); rw [hf0] at this; exact this
  have hn0 : (0 : Int) < (n : Int) := by omega
  have hlt : ¬ ((n : Int) < 3) := by omega
  have HG : Hid (getF f n = if sizeOfN (leF f 1 (3 - 1)) = 3 then (leF f 1 (3 - 1), 3, 0) else (0, 0, 2)) := by
    show getF f n = _
    unfold getF
    have : sizeBehindN (f 0) = 3 := by rw [hf0]; rfl
    rw [this, if_neg (by omega), if_neg (by omega), if_neg (by omega)]
    rfl
  have HC := Lib.hid hc
  have HB := Lib.hid hb
  clear hf0 hc hb
  go_enter Try.func10, Try.ntmps10
  go_wp2
  go_loop [6, 7] (fun t i => ∃ j : Nat, j < 3 ∧ i = .int .i64 j ∧ t = .int .u64 (leF f (j + 1) (3 - 1 - j))) (fun _ i => (intOf i).toNat)
  case atStart => exact ⟨3 - 1, by omega, by go_num, rfl⟩
  case round =>
    obtain ⟨j, hj, rfl, rfl⟩ := hrel
    by_cases hj0 : 0 < j
    · have hcj : w.cell? ⟨b, off + j, none⟩ = some (.int .u8 (f j)) := HC.out j (by omega)
      have hj0' : (1 : Int) ≤ (j : Int) := by omega
      have hjn : (j : Int) < (n : Int) := by omega
      obtain ⟨m, hm'⟩ : ∃ m, leF f (j + 1) (3 - 1 - j) = m := ⟨_, rfl⟩
      have hmb1 : 0 ≤ m := by rw [← hm']; exact leF_nn f HB.out (3 - 1 - j) (j + 1)
      have hmb2 : m < 72057594037927936 := by rw [← hm']; exact leF_lt7 f HB.out (3 - 1 - j) (by omega) (j + 1)
      have HM := Lib.hid hm'
      rw [hm']
      clear hm'
      have hbj := HB.out j
      obtain ⟨hbj0, hbj1⟩ := hbj
      go_wp2
      go_round
      case rel => exact ⟨j - 1, by omega, by go_num, by rw [show j - 1 + 1 = j from by omega, show 3 - 1 - (j - 1) = (3 - 1 - j) + 1 from by omega]; simp only [leF]; rw [HM.out, Int.mul_comm, Int.add_comm]⟩
      case measure => simp [intOf]; omega
    · have : j = 0 := by omega
      subst this
      go_wp2_with (go_at_call 18; refine (rsize_any _ _).mono ?_; rintro e w' ⟨rfl, rfl⟩)
      · have hne : sizeOfN (leF f 1 (3 - 1)) ≠ 3 := by simpa using ‹(sizeOfN (leF f 1 2) != (3 : Int)) = true›
        go_ret3
        rw [HG.out, if_neg hne]
        exact ⟨rfl, rfl⟩
      · have hne : sizeOfN (leF f 1 (3 - 1)) = 3 := by simpa using ‹(sizeOfN (leF f 1 2) != (3 : Int)) = false›
        go_ret3
        rw [HG.out, if_pos hne]
        exact ⟨rfl, rfl⟩

set_option maxHeartbeats 400000 in
theorem rget_short5 (b off n c : Nat) (w : World) (hm : n ≤ 140737488351232) (h0 : 0 < n) (hkn : n < 5)
    (hc0 : w.cell? ⟨b, off, none⟩ = some (.int .u8 254)) :
    Calls Try.prog 10 #[.slice (some ⟨b, off, none⟩) n c] w fun e w' => e = .returned (.tuple #[.int .u64 0, .int .i64 0, .int .i64 1]) ∧ w = w' := by
  have hn0 : (0 : Int) < (n : Int) := by omega
  go_enter Try.func10, Try.ntmps10
  go_wp2
  go_ret3
  exact ⟨rfl, rfl⟩

set_option maxHeartbeats 400000 in
theorem rget_long5 (b off n c : Nat) (f : Nat → Int) (w : World) (hm : n ≤ 140737488351232) (hkn : 5 ≤ n) (hf0 : f 0 = 254)
    (hc : ∀ i, i < n → w.cell? ⟨b, off + i, none⟩ = some (.int .u8 (f i))) (hb : ∀ i, 0 ≤ f i ∧ f i < 256) :
    Calls Try.prog 10 #[.slice (some ⟨b, off, none⟩) n c] w fun e w' => e = .returned (.tuple #[.int .u64 (getF f n).1, .int .i64 (getF f n).2.1, .int .i64 (getF f n).2.2]) ∧ w = w' := by
  have hc0 : w.cell? ⟨b, off, none⟩ = some (.int .u8 254) := by have := hc 0 (by omega); rw [hf0] at this; exact this
  have hn0 : (0 : Int) < (n : Int) := by omega
  have hlt : ¬ ((n : Int) < 5) := by omega
  have HG : Hid (getF f n = if sizeOfN (leF f 1 (5 - 1)) = 5 then (leF f 1 (5 - 1), 5, 0) else (0, 0, 2)) := by
    show getF f n = _
    unfold getF
    have : sizeBehindN (f 0) = 5 := by rw [hf0]; rfl
    rw [this, if_neg (by omega), if_neg (by omega), if_neg (by omega)]
    rfl
  have HC := Lib.hid hc
  have HB := Lib.hid hb
  clear hf0 hc hb
  go_enter Try.func10, Try.ntmps10
  go_wp2
  go_loop [6, 7] (fun t i => ∃ j : Nat, j < 5 ∧ i = .int .i64 j ∧ t = .int .u64 (leF f (j + 1) (5 - 1 - j))) (fun _ i => (intOf i).toNat)
  case atStart => exact ⟨5 - 1, by omega, by go_num, rfl⟩
  case round =>
    obtain ⟨j, hj, rfl, rfl⟩ := hrel
    by_cases hj0 : 0 < j
    · have hcj : w.cell? ⟨b, off + j, none⟩ = some (.int .u8 (f j)) := HC.out j (by omega)
      have hj0' : (1 : Int) ≤ (j : Int) := by omega
      have hjn : (j : Int) < (n : Int) := by omega
      obtain ⟨m, hm'⟩ : ∃ m, leF f (j + 1) (5 - 1 - j) = m := ⟨_, rfl⟩
      have hmb1 : 0 ≤ m := by rw [← hm']; exact leF_nn f HB.out (5 - 1 - j) (j + 1)
      have hmb2 : m < 72057594037927936 := by rw [← hm']; exact leF_lt7 f HB.out (5 - 1 - j) (by omega) (j + 1)
      have HM := Lib.hid hm'
      rw [hm']
      clear hm'
      have hbj := HB.out j
      obtain ⟨hbj0, hbj1⟩ := hbj
      go_wp2
      go_round
      case rel => exact ⟨j - 1, by omega, by go_num, by rw [show j - 1 + 1 = j from by omega, show 5 - 1 - (j - 1) = (5 - 1 - j) + 1 from by omega]; simp only [leF]; rw [HM.out, Int.mul_comm, Int.add_comm]⟩
      case measure => simp [intOf]; omega
    · have : j = 0 := by omega
      subst this
      go_wp2_with (go_at_call 18; refine (rsize_any _ _).mono ?_; rintro e w' ⟨rfl, rfl⟩)
      · have hne : sizeOfN (leF f 1 (5 - 1)) ≠ 5 := by simpa using ‹(sizeOfN (leF f 1 4) != (5 : Int)) = true›
        go_ret3
        rw [HG.out, if_neg hne]
        exact ⟨rfl, rfl⟩
      · have hne : sizeOfN (leF f 1 (5 - 1)) = 5 := by simpa using ‹(sizeOfN (leF f 1 4) != (5 : Int)) = false›
        go_ret3
        rw [HG.out, if_pos hne]
        exact ⟨rfl, rfl⟩

set_option maxHeartbeats 400000 in
theorem rget_short9 (b off n c : Nat) (w : World) (hm : n ≤ 140737488351232) (h0 : 0 < n) (hkn : n < 9)
    (hc0 : w.cell? ⟨b, off, none⟩ = some (.int .u8 255)) :
    Calls Try.prog 10 #[.slice (some ⟨b, off, none⟩) n c] w fun e w' => e = .returned (.tuple #[.int .u64 0, .int .i64 0, .int .i64 1]) ∧ w = w' := by
  have hn0 : (0 : Int) < (n : Int) := by omega
  go_enter Try.func10, Try.ntmps10
  go_wp2
  go_ret3
  exact ⟨rfl, rfl⟩

set_option maxHeartbeats 400000 in
theorem rget_long9 (b off n c : Nat) (f : Nat → Int) (w : World) (hm : n ≤ 140737488351232) (hkn : 9 ≤ n) (hf0 : f 0 = 255)
    (hc : ∀ i, i < n → w.cell? ⟨b, off + i, none⟩ = some (.int .u8 (f i))) (hb : ∀ i, 0 ≤ f i ∧ f i < 256) :
    Calls Try.prog 10 #[.slice (some ⟨b, off, none⟩) n c] w fun e w' => e = .returned (.tuple #[.int .u64 (getF f n).1, .int .i64 (getF f n).2.1, .int .i64 (getF f n).2.2]) ∧ w = w' := by
  have hc0 : w.cell? ⟨b, off, none⟩ = some (.int .u8 255) := by have := hc 0 (by omega); rw [hf0] at this; exact this
  have hn0 : (0 : Int) < (n : Int) := by omega
  have hlt : ¬ ((n : Int) < 9) := by omega
  have HG : Hid (getF f n = if sizeOfN (leF f 1 (9 - 1)) = 9 then (leF f 1 (9 - 1), 9, 0) else (0, 0, 2)) := by
    show getF f n = _
    unfold getF
    have : sizeBehindN (f 0) = 9 := by rw [hf0]; rfl
    rw [this, if_neg (by omega), if_neg (by omega), if_neg (by omega)]
    rfl
  have HC := Lib.hid hc
  have HB := Lib.hid hb
  clear hf0 hc hb
  go_enter Try.func10, Try.ntmps10
  go_wp2
  go_loop [6, 7] (fun t i => ∃ j : Nat, j < 9 ∧ i = .int .i64 j ∧ t = .int .u64 (leF f (j + 1) (9 - 1 - j))) (fun _ i => (intOf i).toNat)
  case atStart => exact ⟨9 - 1, by omega, by go_num, rfl⟩
  case round =>
    obtain ⟨j, hj, rfl, rfl⟩ := hrel
    by_cases hj0 : 0 < j
    · have hcj : w.cell? ⟨b, off + j, none⟩ = some (.int .u8 (f j)) := HC.out j (by omega)
      have hj0' : (1 : Int) ≤ (j : Int) := by omega
      have hjn : (j : Int) < (n : Int) := by omega
      obtain ⟨m, hm'⟩ : ∃ m, leF f (j + 1) (9 - 1 - j) = m := ⟨_, rfl⟩
      have hmb1 : 0 ≤ m := by rw [← hm']; exact leF_nn f HB.out (9 - 1 - j) (j + 1)
      have hmb2 : m < 72057594037927936 := by rw [← hm']; exact leF_lt7 f HB.out (9 - 1 - j) (by omega) (j + 1)
      have HM := Lib.hid hm'
      rw [hm']
      clear hm'
      have hbj := HB.out j
      obtain ⟨hbj0, hbj1⟩ := hbj
      go_wp2
      go_round
      case rel => exact ⟨j - 1, by omega, by go_num, by rw [show j - 1 + 1 = j from by omega, show 9 - 1 - (j - 1) = (9 - 1 - j) + 1 from by omega]; simp only [leF]; rw [HM.out, Int.mul_comm, Int.add_comm]⟩
      case measure => simp [intOf]; omega
    · have : j = 0 := by omega
      subst this
      go_wp2_with (go_at_call 18; refine (rsize_any _ _).mono ?_; rintro e w' ⟨rfl, rfl⟩)
      · have hne : sizeOfN (leF f 1 (9 - 1)) ≠ 9 := by simpa using ‹(sizeOfN (leF f 1 8) != (9 : Int)) = true›
        go_ret3
        rw [HG.out, if_neg hne]
        exact ⟨rfl, rfl⟩
      · have hne : sizeOfN (leF f 1 (9 - 1)) = 9 := by simpa using ‹(sizeOfN (leF f 1 8) != (9 : Int)) = false›
        go_ret3
        rw [HG.out, if_pos hne]
        exact ⟨rfl, rfl⟩

theorem rget_any (ao : Option Addr) (n c : Nat) (f : Nat → Int) (w : World) (hm : n ≤ 140737488351232) (hr : Row w ao n c 1 (bcells f n)) (hb : ∀ i, 0 ≤ f i ∧ f i < 256) :
    Calls Try.prog 10 #[.slice ao n c] w fun e w' => e = .returned (.tuple #[.int .u64 (getF f n).1, .int .i64 (getF f n).2.1, .int .i64 (getF f n).2.2]) ∧ w = w' := by
  by_cases h0 : n = 0
  · subst h0
    have : getF f 0 = (0, 0, 1) := by simp [getF]
    rw [this]
    exact rget_empty ao c w
  obtain ⟨b, off, rfl⟩ := row_addr hr (bcells_ne f n (by omega))
  have hc := fun i hi => row_cell hr i hi
  have hc0 := hc 0 (by omega)
  have hb0 := hb 0
  rcases sizeBehind_cases (f 0) with ⟨hk, hx⟩ | ⟨hk, hx⟩ | ⟨hk, hx⟩ | ⟨hk, hx⟩
  · have : getF f n = (f 0, 1, 0) := by simp [getF, h0, hk]
    rw [this]
    exact rget_one b off n c (f 0) w hm (by omega) hb0.1 (by omega) hc0
  · by_cases hs : n < 3
    · have : getF f n = (0, 0, 1) := by unfold getF; rw [hk, if_neg h0, if_neg (by decide), if_pos (by omega)]
      rw [this]
      rw [hx] at hc0
      exact rget_short3 b off n c w hm (by omega) hs hc0
    · exact rget_long3 b off n c f w hm (by omega) hx hc hb
  · by_cases hs : n < 5
    · have : getF f n = (0, 0, 1) := by unfold getF; rw [hk, if_neg h0, if_neg (by decide), if_pos (by omega)]
      rw [this]
      rw [hx] at hc0
      exact rget_short5 b off n c w hm (by omega) hs hc0
    · exact rget_long5 b off n c f w hm (by omega) hx hc hb
  · by_cases hs : n < 9
    · have : getF f n = (0, 0, 1) := by unfold getF; rw [hk, if_neg h0, if_neg (by decide), if_pos (by omega)]
      rw [this]
      rw [hx] at hc0
      exact rget_short9 b off n c w hm (by omega) hs hc0
    · exact rget_long9 b off n c f w hm (by omega) hx hc hb

set_option maxHeartbeats 400000 in
theorem rput_one (ao : Option Addr) (n c : Nat) (xs : List Value) (k : Int) (w : World) (hm : n ≤ 140737488351232)
    (hk : k < 253) (hk0 : 0 ≤ k) (hr : Row w ao n c 1 xs) :
    Calls Try.prog 16 #[.slice ao n c, .int .u64 k] w fun e w' => ∃ g cap, e = .returned (.slice (some ⟨g, 0, none⟩) (n + 1) cap) ∧ w'.ownsRow w.heap.size 5 1 (.slice (some ⟨g, 0, none⟩) (n + 1) cap) (n + 1) (xs ++ [.int .u8 k]) ∧ Below w.heap.size w w' := by
  have HK := Lib.hid (show sizeOfN k = 1 by simp [sizeOfN, hk])
  have HR := Lib.hid hr
  have HO := Lib.hid (World.ownsRow_made (base := w.heap.size) (e := 5) (size := 1) w #[] 0 (Nat.le_refl _) (by decide) rfl)
  have hbA := below_alloc w (.cells #[] 5)
  clear hr
  go_enter Try.func16, Try.ntmps16
  go_wp2_with (first | (at_builtin; refine wpList_appO eltU8 _ rfl (.tmp 9) (.tmp 10) rfl w.heap.size _ 0 0 _ rfl HO.out ao n c xs rfl (HR.out.alloc _) (by omega) (by simp) ?_; intro g1 cap1 w1 hown1 hgrow1 _ hg1 hl1; simp only [Nat.zero_add, List.nil_append] at hown1) | (go_at_call 18; refine (rsize_any _ _).mono ?_; rintro e w' ⟨rfl, rfl⟩; rw [HK.out]) | (at_builtin; refine wpList_appO eltU8 _ rfl (.tmp 16) (.tmp 19) rfl w.heap.size g1 n cap1 xs rfl (hown1.alloc _) _ 1 1 _ rfl (row_new w1 #[.int .u8 k] 5 1 1 1 rfl (by omega) (by simp [Value.oneCell'])) (by omega) (by have := hgrow1.size; simp at this; simp; omega) ?_; intro g2 cap2 w2 hown2 hgrow2 _ _ _))
  have hb1 := below_grown hbA hgrow1 (fun k hk => by cases hk; exact Nat.le_refl _)
  have hb2 := below_grown (hb1.trans ((Below.refl _ _).alloc hb1.size _)) hgrow2 (fun k hk => by cases hk; exact hg1)
  go_ret
  exact ⟨g2, cap2, rfl, hown2, hb2⟩

set_option maxHeartbeats 1000000 in
theorem rput_3 (ao : Option Addr) (n c : Nat) (xs : List Value) (k : Int) (w : World) (hm : n ≤ 140737488351232)
    (hk : sizeOfN k = 3) (hk0 : 0 ≤ k) (hk1 : k < 18446744073709551616) (hr : Row w ao n c 1 xs) :
    Calls Try.prog 16 #[.slice ao n c, .int .u64 k] w fun e w' => ∃ g cap, e = .returned (.slice (some ⟨g, 0, none⟩) (n + 1 + 2) cap) ∧ w'.ownsRow w.heap.size 5 1 (.slice (some ⟨g, 0, none⟩) (n + 1 + 2) cap) (n + 1 + 2) (xs ++ [.int .u8 253] ++ leB k 2) ∧ Below w.heap.size w w' := by
  have HK := Lib.hid hk
  have HR := Lib.hid hr
  have HO := Lib.hid (World.ownsRow_made (base := w.heap.size) (e := 5) (size := 1) w #[] 0 (Nat.le_refl _) (by decide) rfl)
  have hbA := below_alloc w (.cells #[] 5)
  clear hr hk
  go_enter Try.func16, Try.ntmps16
  go_wp2_with (first | (at_builtin; refine wpList_appO eltU8 _ rfl (.tmp 9) (.tmp 10) rfl w.heap.size _ 0 0 _ rfl HO.out ao n c xs rfl (HR.out.alloc _) (by omega) (by simp) ?_; intro g1 cap1 w1 hown1 hgrow1 _ hg1 hl1; simp only [Nat.zero_add, List.nil_append] at hown1) | (go_at_call 18; refine (rsize_any _ _).mono ?_; rintro e w' ⟨rfl, rfl⟩; rw [HK.out]) | (at_builtin; refine wpList_appO eltU8 _ rfl (.tmp 25) (.tmp 27) rfl w.heap.size g1 n cap1 xs rfl (hown1.alloc _) _ 1 1 _ rfl (row_new w1 #[.int .u8 253] 5 1 1 1 rfl (by omega) (by simp [Value.oneCell'])) (by omega) (by have := hgrow1.size; simp at this; simp; omega) ?_; intro g cap w2 hown hgrow2 _ _ _))
  have hb1 := below_grown hbA hgrow1 (fun k hk => by cases hk; exact Nat.le_refl _)
  have hbel := below_grown (hb1.trans ((Below.refl _ _).alloc hb1.size _)) hgrow2 (fun k hk => by cases hk; exact hg1)
  have hown' := Lib.hid hown
  clear hown hgrow2 hgrow1 hown1 hb1 hbA HO
  go_loopw [5, 8] (fun b i wr => PutRel w n xs 253 k 2 b i wr) (fun _ i _ => 2 - (intOf i).toNat)
  case atStart => exact ⟨0, g, cap, by omega, rfl, rfl, by simpa [leB] using hown'.out, hbel⟩
  case round =>
    obtain ⟨j, g', cap', hj, rfl, rfl, hown, hbel'⟩ := hrel
    clear hbel hown'
    by_cases hlt : j < 2
    · have hj8 : (8 : Int) * (j : Int) < 64 := by omega
      have HX := Lib.hid (row_new wr #[.int .u8 (k / 2 ^ (8 * j) % 256)] 5 1 1 1 rfl (by omega) (by simp [Value.oneCell']))
      have HO := Lib.hid (hown.alloc (.cells #[.int .u8 (k / 2 ^ (8 * j) % 256)] 5))
      have hbg := (hown.lt g' rfl).1
      have hsz := hbel'.size
      clear hown
      go_wp2_with (at_builtin; refine wpList_appO eltU8 _ rfl (.tmp 35) (.tmp 42) rfl w.heap.size g' (n + 1 + j) cap' _ rfl HO.out _ 1 1 _ rfl HX.out (by omega) (by simp; omega) ?_; intro g2 cap2 w2 hown2 hgrow2 _ _ _)
      have HO2 := Lib.hid hown2
      have hb2 := below_grown (hbel'.trans ((Below.refl _ _).alloc hsz _)) hgrow2 (fun k hk => by cases hk; exact hbg)
      clear hown2 hgrow2
      go_roundw
      case rel => exact ⟨j + 1, g2, cap2, by omega, by go_num, rfl, by rw [leB_succ, ← List.append_assoc]; exact HO2.out, hb2⟩
      case measure => simp [intOf]; omega
    · have : j = 2 := by omega
      subst this
      have HO := Lib.hid hown
      clear hown
      go_wp2
      go_ret
      exact ⟨g', cap', rfl, HO.out, hbel'⟩

set_option maxHeartbeats 1000000 in
theorem rput_5 (ao : Option Addr) (n c : Nat) (xs : List Value) (k : Int) (w : World) (hm : n ≤ 140737488351232)
    (hk : sizeOfN k = 5) (hk0 : 0 ≤ k) (hk1 : k < 18446744073709551616) (hr : Row w ao n c 1 xs) :
    Calls Try.prog 16 #[.slice ao n c, .int .u64 k] w fun e w' => ∃ g cap, e = .returned (.slice (some ⟨g, 0, none⟩) (n + 1 + 4) cap) ∧ w'.ownsRow w.heap.size 5 1 (.slice (some ⟨g, 0, none⟩) (n + 1 + 4) cap) (n + 1 + 4) (xs ++ [.int .u8 254] ++ leB k 4) ∧ Below w.heap.size w w' := by
  have HK := Lib.hid hk
  have HR := Lib.hid hr
  have HO := Lib.hid (World.ownsRow_made (base := w.heap.size) (e := 5) (size := 1) w #[] 0 (Nat.le_refl _) (by decide) rfl)
  have hbA := below_alloc w (.cells #[] 5)
  clear hr hk
  go_enter Try.func16, Try.ntmps16
  go_wp2_with (first | (at_builtin; refine wpList_appO eltU8 _ rfl (.tmp 9) (.tmp 10) rfl w.heap.size _ 0 0 _ rfl HO.out ao n c xs rfl (HR.out.alloc _) (by omega) (by simp) ?_; intro g1 cap1 w1 hown1 hgrow1 _ hg1 hl1; simp only [Nat.zero_add, List.nil_append] at hown1) | (go_at_call 18; refine (rsize_any _ _).mono ?_; rintro e w' ⟨rfl, rfl⟩; rw [HK.out]) | (at_builtin; refine wpList_appO eltU8 _ rfl (.tmp 25) (.tmp 27) rfl w.heap.size g1 n cap1 xs rfl (hown1.alloc _) _ 1 1 _ rfl (row_new w1 #[.int .u8 254] 5 1 1 1 rfl (by omega) (by simp [Value.oneCell'])) (by omega) (by have := hgrow1.size; simp at this; simp; omega) ?_; intro g cap w2 hown hgrow2 _ _ _))
  have hb1 := below_grown hbA hgrow1 (fun k hk => by cases hk; exact Nat.le_refl _)
  have hbel := below_grown (hb1.trans ((Below.refl _ _).alloc hb1.size _)) hgrow2 (fun k hk => by cases hk; exact hg1)
  have hown' := Lib.hid hown
  clear hown hgrow2 hgrow1 hown1 hb1 hbA HO
  go_loopw [5, 8] (fun b i wr => PutRel w n xs 254 k 4 b i wr) (fun _ i _ => 4 - (intOf i).toNat)
  case atStart => exact ⟨0, g, cap, by omega, rfl, rfl, by simpa [leB] using hown'.out, hbel⟩
  case round =>
    obtain ⟨j, g', cap', hj, rfl, rfl, hown, hbel'⟩ := hrel
    clear hbel hown'
    by_cases hlt : j < 4
    · have hj8 : (8 : Int) * (j : Int) < 64 := by omega
      have HX := Lib.hid (row_new wr #[.int .u8 (k / 2 ^ (8 * j) % 256)] 5 1 1 1 rfl (by omega) (by simp [Value.oneCell']))
      have HO := Lib.hid (hown.alloc (.cells #[.int .u8 (k / 2 ^ (8 * j) % 256)] 5))
      have hbg := (hown.lt g' rfl).1
      have hsz := hbel'.size
      clear hown
      go_wp2_with (at_builtin; refine wpList_appO eltU8 _ rfl (.tmp 35) (.tmp 42) rfl w.heap.size g' (n + 1 + j) cap' _ rfl HO.out _ 1 1 _ rfl HX.out (by omega) (by simp; omega) ?_; intro g2 cap2 w2 hown2 hgrow2 _ _ _)
      have HO2 := Lib.hid hown2
      have hb2 := below_grown (hbel'.trans ((Below.refl _ _).alloc hsz _)) hgrow2 (fun k hk => by cases hk; exact hbg)
      clear hown2 hgrow2
      go_roundw
      case rel => exact ⟨j + 1, g2, cap2, by omega, by go_num, rfl, by rw [leB_succ, ← List.append_assoc]; exact HO2.out, hb2⟩
      case measure => simp [intOf]; omega
    · have : j = 4 := by omega
      subst this
      have HO := Lib.hid hown
      clear hown
      go_wp2
      go_ret
      exact ⟨g', cap', rfl, HO.out, hbel'⟩

set_option maxHeartbeats 1000000 in
theorem rput_9 (ao : Option Addr) (n c : Nat) (xs : List Value) (k : Int) (w : World) (hm : n ≤ 140737488351232)
    (hk : sizeOfN k = 9) (hk0 : 0 ≤ k) (hk1 : k < 18446744073709551616) (hr : Row w ao n c 1 xs) :
    Calls Try.prog 16 #[.slice ao n c, .int .u64 k] w fun e w' => ∃ g cap, e = .returned (.slice (some ⟨g, 0, none⟩) (n + 1 + 8) cap) ∧ w'.ownsRow w.heap.size 5 1 (.slice (some ⟨g, 0, none⟩) (n + 1 + 8) cap) (n + 1 + 8) (xs ++ [.int .u8 255] ++ leB k 8) ∧ Below w.heap.size w w' := by
  have HK := Lib.hid hk
  have HR := Lib.hid hr
  have HO := Lib.hid (World.ownsRow_made (base := w.heap.size) (e := 5) (size := 1) w #[] 0 (Nat.le_refl _) (by decide) rfl)
  have hbA := below_alloc w (.cells #[] 5)
  clear hr hk
  go_enter Try.func16, Try.ntmps16
  go_wp2_with (first | (at_builtin; refine wpList_appO eltU8 _ rfl (.tmp 9) (.tmp 10) rfl w.heap.size _ 0 0 _ rfl HO.out ao n c xs rfl (HR.out.alloc _) (by omega) (by simp) ?_; intro g1 cap1 w1 hown1 hgrow1 _ hg1 hl1; simp only [Nat.zero_add, List.nil_append] at hown1) | (go_at_call 18; refine (rsize_any _ _).mono ?_; rintro e w' ⟨rfl, rfl⟩; rw [HK.out]) | (at_builtin; refine wpList_appO eltU8 _ rfl (.tmp 25) (.tmp 27) rfl w.heap.size g1 n cap1 xs rfl (hown1.alloc _) _ 1 1 _ rfl (row_new w1 #[.int .u8 255] 5 1 1 1 rfl (by omega) (by simp [Value.oneCell'])) (by omega) (by have := hgrow1.size; simp at this; simp; omega) ?_; intro g cap w2 hown hgrow2 _ _ _))
  have hb1 := below_grown hbA hgrow1 (fun k hk => by cases hk; exact Nat.le_refl _)
  have hbel := below_grown (hb1.trans ((Below.refl _ _).alloc hb1.size _)) hgrow2 (fun k hk => by cases hk; exact hg1)
  have hown' := Lib.hid hown
  clear hown hgrow2 hgrow1 hown1 hb1 hbA HO
  go_loopw [5, 8] (fun b i wr => PutRel w n xs 255 k 8 b i wr) (fun _ i _ => 8 - (intOf i).toNat)
  case atStart => exact ⟨0, g, cap, by omega, rfl, rfl, by simpa [leB] using hown'.out, hbel⟩
  case round =>
    obtain ⟨j, g', cap', hj, rfl, rfl, hown, hbel'⟩ := hrel
    clear hbel hown'
    by_cases hlt : j < 8
    · have hj8 : (8 : Int) * (j : Int) < 64 := by omega
      have HX := Lib.hid (row_new wr #[.int .u8 (k / 2 ^ (8 * j) % 256)] 5 1 1 1 rfl (by omega) (by simp [Value.oneCell']))
      have HO := Lib.hid (hown.alloc (.cells #[.int .u8 (k / 2 ^ (8 * j) % 256)] 5))
      have hbg := (hown.lt g' rfl).1
      have hsz := hbel'.size
      clear hown
      go_wp2_with (at_builtin; refine wpList_appO eltU8 _ rfl (.tmp 35) (.tmp 42) rfl w.heap.size g' (n + 1 + j) cap' _ rfl HO.out _ 1 1 _ rfl HX.out (by omega) (by simp; omega) ?_; intro g2 cap2 w2 hown2 hgrow2 _ _ _)
      have HO2 := Lib.hid hown2
      have hb2 := below_grown (hbel'.trans ((Below.refl _ _).alloc hsz _)) hgrow2 (fun k hk => by cases hk; exact hbg)
      clear hown2 hgrow2
      go_roundw
      case rel => exact ⟨j + 1, g2, cap2, by omega, by go_num, rfl, by rw [leB_succ, ← List.append_assoc]; exact HO2.out, hb2⟩
      case measure => simp [intOf]; omega
    · have : j = 8 := by omega
      subst this
      have HO := Lib.hid hown
      clear hown
      go_wp2
      go_ret
      exact ⟨g', cap', rfl, HO.out, hbel'⟩

theorem rput_any (ao : Option Addr) (n c : Nat) (xs : List Value) (k : Int) (w : World) (hm : n ≤ 140737488351232) (hk0 : 0 ≤ k) (hk1 : k < 18446744073709551616) (hr : Row w ao n c 1 xs) :
    Calls Try.prog 16 #[.slice ao n c, .int .u64 k] w fun e w' => ∃ g cap, e = .returned (.slice (some ⟨g, 0, none⟩) (n + (putL k).length) cap) ∧ w'.ownsRow w.heap.size 5 1 (.slice (some ⟨g, 0, none⟩) (n + (putL k).length) cap) (n + (putL k).length) (xs ++ putL k) ∧ Below w.heap.size w w' := by
  rcases sizeOf_cases k with ⟨hk, h1⟩ | ⟨hk, h1, h2⟩ | ⟨hk, h1, h2⟩ | ⟨hk, h1⟩
  · have : putL k = [.int .u8 k] := by simp [putL, h1]
    rw [this]
    exact rput_one ao n c xs k w hm h1 hk0 hr
  · have : putL k = [.int .u8 253] ++ leB k 2 := by simp [putL, h2, show ¬ k < 253 by omega]
    rw [this]
    simp only [List.length_append, List.length_singleton, leB_len, ← Nat.add_assoc, ← List.append_assoc]
    exact rput_3 ao n c xs k w hm hk hk0 hk1 hr
  · have : putL k = [.int .u8 254] ++ leB k 4 := by simp [putL, h2, show ¬ k < 253 by omega, show ¬ k < 65536 by omega]
    rw [this]
    simp only [List.length_append, List.length_singleton, leB_len, ← Nat.add_assoc, ← List.append_assoc]
    exact rput_5 ao n c xs k w hm hk hk0 hk1 hr
  · have : putL k = [.int .u8 255] ++ leB k 8 := by simp [putL, show ¬ k < 253 by omega, show ¬ k < 65536 by omega, show ¬ k < 4294967296 by omega]
    rw [this]
    simp only [List.length_append, List.length_singleton, leB_len, ← Nat.add_assoc, ← List.append_assoc]
    exact rput_9 ao n c xs k w hm hk hk0 hk1 hr
end Go.Proofs.Ytpifenhboblcfaa
