/- Package compact: contracts of Size and sizeBehind. Merged: Cmp1, Cmp2, Cmp3, Cmp4. -/
import Derived.Test.YtpdgeiflmnhkfaaDoorBase
/- Package compact: contracts of Size and sizeBehind. -/
namespace Go.Proofs.YtpdgeiflmnhkfaaDoor
set_option linter.unusedVariables false
set_option linter.unusedSimpArgs false
open Go.RowKit

def sizeOfN (n : Int) : Int := if n < 253 then 1 else if n < 65536 then 3 else if n < 4294967296 then 5 else 9

set_option maxHeartbeats 400000 in
theorem size_any (n : Int) (w : World) :
    Calls Tryd.prog 149 #[.int .u64 n] w fun e w' => e = .returned (.int .i64 (sizeOfN n)) ∧ w = w' := by
  by_cases h1 : n < 253
  · have h2 : n < 65536 := by omega
    have h3 : n < 4294967296 := by omega
    have H : Hid (sizeOfN n = 1) := by simp [sizeOfN, h1, Hid]
    go_enter Tryd.func149, Tryd.ntmps149
    go_wp2
    go_ret
    rw [H.out]; exact ⟨rfl, rfl⟩
  by_cases h2 : n < 65536
  · have h3 : n < 4294967296 := by omega
    have H : Hid (sizeOfN n = 3) := by simp [sizeOfN, h1, h2, Hid]
    go_enter Tryd.func149, Tryd.ntmps149
    go_wp2
    go_ret
    rw [H.out]; exact ⟨rfl, rfl⟩
  by_cases h3 : n < 4294967296
  · have H : Hid (sizeOfN n = 5) := by simp [sizeOfN, h1, h2, h3, Hid]
    go_enter Tryd.func149, Tryd.ntmps149
    go_wp2
    go_ret
    rw [H.out]; exact ⟨rfl, rfl⟩
  · have H : Hid (sizeOfN n = 9) := by simp [sizeOfN, h1, h2, h3, Hid]
    go_enter Tryd.func149, Tryd.ntmps149
    go_wp2
    go_ret
    rw [H.out]; exact ⟨rfl, rfl⟩

def sizeBehindN (n : Int) : Int := if n = 255 then 9 else if n = 254 then 5 else if n = 253 then 3 else 1

set_option maxHeartbeats 400000 in
theorem sizeBehind_any (n : Int) (w : World) :
    Calls Tryd.prog 159 #[.int .u8 n] w fun e w' => e = .returned (.int .i64 (sizeBehindN n)) ∧ w = w' := by
  by_cases h1 : n = 255
  · subst h1
    go_enter Tryd.func159, Tryd.ntmps159
    go_wp2
    go_ret
    exact ⟨rfl, rfl⟩
  by_cases h2 : n = 254
  · subst h2
    go_enter Tryd.func159, Tryd.ntmps159
    go_wp2
    go_ret
    exact ⟨rfl, rfl⟩
  by_cases h3 : n = 253
  · subst h3
    go_enter Tryd.func159, Tryd.ntmps159
    go_wp2
    go_ret
    exact ⟨rfl, rfl⟩
  · have H : Hid (sizeBehindN n = 1) := by simp [sizeBehindN, h1, h2, h3, Hid]
    go_enter Tryd.func159, Tryd.ntmps159
    go_wp2
    go_ret
    rw [H.out]; exact ⟨rfl, rfl⟩
end Go.Proofs.YtpdgeiflmnhkfaaDoor

/- Package compact: contract of Get. -/
namespace Go.Proofs.YtpdgeiflmnhkfaaDoor
set_option linter.unusedVariables false
set_option linter.unusedSimpArgs false
open Go.RowKit

/-- the number that m bytes from place a on tell, the lowest first -/
def leF (f : Nat → Int) : Nat → Nat → Int
  | _, 0 => 0
  | a, m + 1 => f a + 256 * leF f (a + 1) m

theorem leF_nn (f : Nat → Int) (hb : ∀ i, 0 ≤ f i ∧ f i < 256) : ∀ m a, 0 ≤ leF f a m := by
  intro m
  induction m with
  | zero => intro a; simp [leF]
  | succ m ih =>
    intro a
    have h1 := hb a
    have h2 := ih (a + 1)
    simp only [leF]
    omega

theorem leF_lt7 (f : Nat → Int) (hb : ∀ i, 0 ≤ f i ∧ f i < 256) (m : Nat) (hm : m ≤ 7) (a : Nat) : leF f a m < 72057594037927936 := by
  have hc : m = 0 ∨ m = 1 ∨ m = 2 ∨ m = 3 ∨ m = 4 ∨ m = 5 ∨ m = 6 ∨ m = 7 := by omega
  have h0 := hb a
  have h1 := hb (a + 1)
  have h2 := hb (a + 1 + 1)
  have h3 := hb (a + 1 + 1 + 1)
  have h4 := hb (a + 1 + 1 + 1 + 1)
  have h5 := hb (a + 1 + 1 + 1 + 1 + 1)
  have h6 := hb (a + 1 + 1 + 1 + 1 + 1 + 1)
  rcases hc with rfl | rfl | rfl | rfl | rfl | rfl | rfl | rfl <;> simp only [leF] <;> omega

def getF (f : Nat → Int) (n : Nat) : Int × Int × Int :=
  if n = 0 then (0, 0, 1) else
  if sizeBehindN (f 0) = 1 then (f 0, 1, 0) else
  if (n : Int) < sizeBehindN (f 0) then (0, 0, 1) else
  if sizeOfN (leF f 1 ((sizeBehindN (f 0)).toNat - 1)) = sizeBehindN (f 0) then (leF f 1 ((sizeBehindN (f 0)).toNat - 1), sizeBehindN (f 0), 0) else (0, 0, 2)

theorem shl8_or (n x : Nat) (hx : x < 256) : (n * 256) ||| x = n * 256 + x := by
  have h := Nat.two_pow_add_eq_or_of_lt (i := 8) (b := x) (by omega) n
  have e : 2 ^ 8 * n = n * 256 := by omega
  rw [e] at h
  exact h.symm

theorem or_shl8 (m x : Int) (hm : 0 ≤ m) (hm' : m < 72057594037927936) (hx : 0 ≤ x ∧ x < 256) : bits .or .u64 (m * 256) x = m * 256 + x := by
  obtain ⟨a, rfl⟩ := Int.eq_ofNat_of_zero_le hm
  obtain ⟨b, rfl⟩ := Int.eq_ofNat_of_zero_le hx.1
  have h := u64_or_nat (a * 256) b (by omega) (by omega)
  rw [shl8_or a b (by omega), Int.natCast_add, Int.natCast_mul] at h
  exact h

set_option maxHeartbeats 400000 in
theorem get_empty (a : Option Addr) (c : Nat) (w : World) :
    Calls Tryd.prog 151 #[.slice a 0 c] w fun e w' => e = .returned (.tuple #[.int .u64 0, .int .i64 0, .int .i64 1]) ∧ w = w' := by
  go_enter Tryd.func151, Tryd.ntmps151
  go_wp2
  go_ret3
  exact ⟨rfl, rfl⟩

set_option maxHeartbeats 400000 in
theorem get_one (b off n c : Nat) (f : Nat → Int) (w : World) (hm : n ≤ 140737488351232) (h0 : 0 < n)
    (hk : sizeBehindN (f 0) = 1)
    (hc : ∀ i, i < n → w.cell? ⟨b, off + i, none⟩ = some (.int .u8 (f i))) (hb : ∀ i, 0 ≤ f i ∧ f i < 256) :
    Calls Tryd.prog 151 #[.slice (some ⟨b, off, none⟩) n c] w fun e w' => e = .returned (.tuple #[.int .u64 (f 0), .int .i64 1, .int .i64 0]) ∧ w = w' := by
  have hc0 : w.cell? ⟨b, off, none⟩ = some (.int .u8 (f 0)) := hc 0 h0
  have hn0 : (0 : Int) < (n : Int) := by omega
  have hb0 := hb 0
  have HK := Lib.hid hk
  clear hk hc hb
  go_enter Tryd.func151, Tryd.ntmps151
  go_wp2_with (go_at_call 159; refine (sizeBehind_any _ _).mono ?_; rintro e w' ⟨rfl, rfl⟩; rw [HK.out])
  go_ret3
  exact ⟨rfl, rfl⟩

set_option maxHeartbeats 400000 in
theorem get_short (b off n c : Nat) (f : Nat → Int) (k : Nat) (w : World) (hm : n ≤ 140737488351232) (h0 : 0 < n)
    (hk : sizeBehindN (f 0) = k) (hk3 : 3 ≤ k) (hk9 : k ≤ 9) (hkn : n < k)
    (hc : ∀ i, i < n → w.cell? ⟨b, off + i, none⟩ = some (.int .u8 (f i))) :
    Calls Tryd.prog 151 #[.slice (some ⟨b, off, none⟩) n c] w fun e w' => e = .returned (.tuple #[.int .u64 0, .int .i64 0, .int .i64 1]) ∧ w = w' := by
  have hc0 : w.cell? ⟨b, off, none⟩ = some (.int .u8 (f 0)) := hc 0 h0
  have hn0 : (0 : Int) < (n : Int) := by omega
  have hk1 : ((k : Int) == 1) = false := by rw [beq_eq_false_iff_ne]; omega
  have hlt : ((n : Int) < (k : Int)) := by omega
  have HK := Lib.hid hk
  clear hk hc
  go_enter Tryd.func151, Tryd.ntmps151
  go_wp2_with (go_at_call 159; refine (sizeBehind_any _ _).mono ?_; rintro e w' ⟨rfl, rfl⟩; rw [HK.out])
  go_ret3
  exact ⟨rfl, rfl⟩

set_option maxHeartbeats 400000 in
theorem get_long (b off n c : Nat) (f : Nat → Int) (k : Nat) (w : World) (hm : n ≤ 140737488351232) (h0 : 0 < n)
    (hk : sizeBehindN (f 0) = k) (hk3 : 3 ≤ k) (hk9 : k ≤ 9) (hkn : k ≤ n)
    (hc : ∀ i, i < n → w.cell? ⟨b, off + i, none⟩ = some (.int .u8 (f i))) (hb : ∀ i, 0 ≤ f i ∧ f i < 256) :
    Calls Tryd.prog 151 #[.slice (some ⟨b, off, none⟩) n c] w fun e w' => e = .returned (.tuple #[.int .u64 (getF f n).1, .int .i64 (getF f n).2.1, .int .i64 (getF f n).2.2]) ∧ w = w' := by
  have hc0 : w.cell? ⟨b, off, none⟩ = some (.int .u8 (f 0)) := hc 0 h0
  have hn0 : (0 : Int) < (n : Int) := by omega
  have hk1 : ((k : Int) == 1) = false := by rw [beq_eq_false_iff_ne]; omega
  have hlt : ¬ ((n : Int) < (k : Int)) := by omega
  have HK := Lib.hid hk
  have HC := Lib.hid hc
  have HB := Lib.hid hb
  clear hk hc hb
  go_enter Tryd.func151, Tryd.ntmps151
  go_wp2_with (go_at_call 159; refine (sizeBehind_any _ _).mono ?_; rintro e w' ⟨rfl, rfl⟩; rw [HK.out])
  go_loop [6, 7] (fun t i => ∃ j : Nat, j < k ∧ i = .int .i64 j ∧ t = .int .u64 (leF f (j + 1) (k - 1 - j))) (fun _ i => (intOf i).toNat)
  case atStart => exact ⟨k - 1, by omega, by go_num, by rw [Nat.sub_self]; rfl⟩
  case round =>
    obtain ⟨j, hj, rfl, rfl⟩ := hrel
    by_cases hj0 : 0 < j
    · have hcj : w.cell? ⟨b, off + j, none⟩ = some (.int .u8 (f j)) := HC.out j (by omega)
      have hj0' : (0 : Int) < (j : Int) := by omega
      have hjn : (j : Int) < (n : Int) := by omega
      obtain ⟨m, hm'⟩ : ∃ m, leF f (j + 1) (k - 1 - j) = m := ⟨_, rfl⟩
      have hmb := leF_nn f HB.out (k - 1 - j) (j + 1)
      rw [hm'] at hmb
      have hmb1 : 0 ≤ m := hmb
      have hmb2 : m < 72057594037927936 := by
        have h7 := leF_lt7 f HB.out (k - 1 - j) (by omega) (j + 1)
        rw [hm'] at h7
        exact h7
      have HM := Lib.hid hm'
      rw [hm']
      clear hm' hmb
      have hbj := HB.out j
      go_wp2
      go_round
      case rel => exact ⟨j - 1, by omega, by go_num, by rw [or_shl8 m (f j) hmb1 hmb2 hbj, show j - 1 + 1 = j from by omega, show k - 1 - (j - 1) = (k - 1 - j) + 1 from by omega]; simp only [leF]; rw [HM.out, Int.mul_comm, Int.add_comm]⟩
      case measure => simp [intOf]; omega
    · have : j = 0 := by omega
      subst this
      have HG : Hid (getF f n = if sizeOfN (leF f 1 (k - 1)) = k then (leF f 1 (k - 1), (k : Int), 0) else (0, 0, 2)) := by
        show getF f n = _
        unfold getF
        rw [HK.out, if_neg (by omega), if_neg (by omega), if_neg (by omega), Int.toNat_natCast]
      go_wp2_with (go_at_call 149; refine (size_any _ _).mono ?_; rintro e w' ⟨rfl, rfl⟩)
      · have hne : sizeOfN (leF f 1 (k - 1)) ≠ k := by simpa using ‹(sizeOfN (leF f 1 (k - 1)) != (k : Int)) = true›
        go_ret3
        rw [HG.out, if_neg hne]
        exact ⟨rfl, rfl⟩
      · have hne : sizeOfN (leF f 1 (k - 1)) = k := by simpa using ‹(sizeOfN (leF f 1 (k - 1)) != (k : Int)) = false›
        go_ret3
        rw [HG.out, if_pos hne]
        exact ⟨rfl, rfl⟩
end Go.Proofs.YtpdgeiflmnhkfaaDoor

/- Package compact: contract of Put. -/
namespace Go.Proofs.YtpdgeiflmnhkfaaDoor
set_option linter.unusedVariables false
set_option linter.unusedSimpArgs false
open Go.RowKit

theorem eltU8 : Elt Tryd.prog 22 5 (.int .u8 0) 1 1 := ⟨Tryd.underlying22, by kernel_rfl, rfl, by decide, by decide⟩

/-- the bytes that are put -/
def leB (k : Int) (j : Nat) : List Value := (List.range j).map fun i => .int .u8 (k / 2 ^ (8 * i) % 256)
def putL (k : Int) : List Value :=
  if k < 253 then [.int .u8 k] else if k < 65536 then .int .u8 253 :: leB k 2 else if k < 4294967296 then .int .u8 254 :: leB k 4 else .int .u8 255 :: leB k 8

theorem leB_one (k : Int) (j : Nat) : ∀ u ∈ leB k j, u.oneCell' = true := by
  intro u hu
  simp only [leB, List.mem_map] at hu
  obtain ⟨i, _, rfl⟩ := hu
  rfl
theorem leB_len (k : Int) (j : Nat) : (leB k j).length = j := by simp [leB]

set_option maxHeartbeats 400000 in
theorem put_one (ao : Option Addr) (n c : Nat) (xs : List Value) (k : Int) (w : World) (hm : n ≤ 140737488351232)
    (hk : k < 253) (hk0 : 0 ≤ k) (hr : Row w ao n c 1 xs) :
    Calls Tryd.prog 129 #[.slice ao n c, .int .u64 k] w fun e w' => ∃ g cap, e = .returned (.slice (some ⟨g, 0, none⟩) (n + 1) cap) ∧ w'.ownsRow w.heap.size 5 1 (.slice (some ⟨g, 0, none⟩) (n + 1) cap) (n + 1) (xs ++ [.int .u8 k]) ∧ Below w.heap.size w w' := by
  have hnc' : (n : Int) ≤ (c : Int) := by have := hr.le; omega
  have hk' : sizeOfN k = 1 := by simp [sizeOfN, hk]
  have HK := Lib.hid hk'
  have hx := row_new w #[.int .u8 k] 5 1 1 1 rfl (by omega) (by simp [Value.oneCell'])
  have HX := Lib.hid hx
  have HR := Lib.hid hr
  clear hk' hx hr
  go_enter Tryd.func129, Tryd.ntmps129
  go_wp2_with (first | (go_at_call 149; refine (size_any _ _).mono ?_; rintro e w' ⟨rfl, rfl⟩; rw [HK.out]) | (at_builtin; refine wpList_appF eltU8 _ rfl _ _ rfl ao n n xs rfl (HR.out.full.alloc _) _ 1 1 _ rfl HX.out (by omega) (by omega) ?_; intro g cap w1 hown hgrow hg hlt))
  go_ret
  exact ⟨g, cap, rfl, ownsRow_base hown (by simp), below_grown (below_alloc _ _) hgrow (fun _ h => by cases h)⟩

/-- the relation of Put's loop -/
def PutRel (w : World) (n : Nat) (xs : List Value) (fb k : Int) (m : Nat) (b i : Value) (wr : World) : Prop :=
  ∃ j g cap : Nat, j ≤ m ∧ i = .int .i64 j ∧ b = .slice (some ⟨g, 0, none⟩) (n + 1 + j) cap ∧ wr.ownsRow w.heap.size 5 1 (.slice (some ⟨g, 0, none⟩) (n + 1 + j) cap) (n + 1 + j) (xs ++ [.int .u8 fb] ++ leB k j) ∧ Below w.heap.size w wr

theorem leB_succ (k : Int) (j : Nat) : leB k (j + 1) = leB k j ++ [.int .u8 (k / 2 ^ (8 * j) % 256)] := by
  simp [leB, List.range_succ]

set_option maxHeartbeats 400000 in
theorem put_3 (ao : Option Addr) (n c : Nat) (xs : List Value) (k : Int) (w : World) (hm : n ≤ 140737488351232)
    (hk : sizeOfN k = 3) (_hk0 : 0 ≤ k) (_hk1 : k < 18446744073709551616) (hr : Row w ao n c 1 xs) :
    Calls Tryd.prog 129 #[.slice ao n c, .int .u64 k] w fun e w' => ∃ g cap, e = .returned (.slice (some ⟨g, 0, none⟩) (n + 1 + 2) cap) ∧ w'.ownsRow w.heap.size 5 1 (.slice (some ⟨g, 0, none⟩) (n + 1 + 2) cap) (n + 1 + 2) (xs ++ [.int .u8 253] ++ leB k 2) ∧ Below w.heap.size w w' := by
  have hnc' : (n : Int) ≤ (c : Int) := by have := hr.le; omega
  have HK := Lib.hid hk
  have hx := row_new w #[.int .u8 253] 5 1 1 1 rfl (by omega) (by simp [Value.oneCell'])
  have HX := Lib.hid hx
  have HR := Lib.hid hr
  clear hk hx hr
  go_enter Tryd.func129, Tryd.ntmps129
  go_wp2_with (first | (go_at_call 149; refine (size_any _ _).mono ?_; rintro e w' ⟨rfl, rfl⟩; rw [HK.out]) | (at_builtin; refine wpList_appF eltU8 _ rfl _ _ rfl ao n n xs rfl (HR.out.full.alloc _) _ 1 1 _ rfl HX.out (by omega) (by omega) ?_; intro g cap w1 hown hgrow hg hlt))
  have hown' := Lib.hid (ownsRow_base (B' := w.heap.size) hown (by simp))
  have hbel := below_grown (below_alloc w _) hgrow (fun _ h => by cases h)
  clear hown hgrow hg hlt HX
  go_loopw [0, 40] (fun b i wr => PutRel w n xs 253 k 2 b i wr) (fun _ i _ => 2 - (intOf i).toNat)
  case atStart => exact ⟨0, g, cap, by omega, rfl, rfl, by simpa [leB] using hown'.out, hbel⟩
  case round =>
    obtain ⟨j, g', cap', hj, rfl, rfl, hown, hbel'⟩ := hrel
    clear hbel hown'
    by_cases hlt : j < 2
    · have hj8 : (8 : Int) * (j : Int) < 64 := by omega
      have HX := Lib.hid (row_new wr #[.int .u8 (k / 2 ^ (8 * j) % 256)] 5 1 1 1 rfl (by omega) (by simp [Value.oneCell']))
      have HO := Lib.hid (hown.alloc (.cells #[.int .u8 (k / 2 ^ (8 * j) % 256)] 5))
      have hbg := (hown.lt g' rfl).1
      have hsz := hbel'.size
      clear hown
      go_wp2_with (at_builtin; refine wpList_appO eltU8 _ rfl _ _ rfl w.heap.size g' (n + 1 + j) cap' _ rfl HO.out _ 1 1 _ rfl HX.out (by omega) (by simp; omega) ?_; intro g2 cap2 w2 hown2 hgrow2 _ _ _)
      have HO2 := Lib.hid hown2
      have hb2 := below_grown (hbel'.trans ((Below.refl _ _).alloc hsz _)) hgrow2 (fun k hk => by cases hk; exact hbg)
      clear hown2 hgrow2
      go_roundw
      case rel => exact ⟨j + 1, g2, cap2, by omega, by go_num, rfl, by rw [leB_succ, ← List.append_assoc]; exact HO2.out, hb2⟩
      case measure => simp [intOf]; omega
    · have : j = 2 := by omega
      subst this
      have HO := Lib.hid hown
      clear hown
      go_wp2
      go_ret
      exact ⟨g', cap', rfl, HO.out, hbel'⟩

set_option maxHeartbeats 400000 in
theorem put_5 (ao : Option Addr) (n c : Nat) (xs : List Value) (k : Int) (w : World) (hm : n ≤ 140737488351232)
    (hk : sizeOfN k = 5) (_hk0 : 0 ≤ k) (_hk1 : k < 18446744073709551616) (hr : Row w ao n c 1 xs) :
    Calls Tryd.prog 129 #[.slice ao n c, .int .u64 k] w fun e w' => ∃ g cap, e = .returned (.slice (some ⟨g, 0, none⟩) (n + 1 + 4) cap) ∧ w'.ownsRow w.heap.size 5 1 (.slice (some ⟨g, 0, none⟩) (n + 1 + 4) cap) (n + 1 + 4) (xs ++ [.int .u8 254] ++ leB k 4) ∧ Below w.heap.size w w' := by
  have hnc' : (n : Int) ≤ (c : Int) := by have := hr.le; omega
  have HK := Lib.hid hk
  have hx := row_new w #[.int .u8 254] 5 1 1 1 rfl (by omega) (by simp [Value.oneCell'])
  have HX := Lib.hid hx
  have HR := Lib.hid hr
  clear hk hx hr
  go_enter Tryd.func129, Tryd.ntmps129
  go_wp2_with (first | (go_at_call 149; refine (size_any _ _).mono ?_; rintro e w' ⟨rfl, rfl⟩; rw [HK.out]) | (at_builtin; refine wpList_appF eltU8 _ rfl _ _ rfl ao n n xs rfl (HR.out.full.alloc _) _ 1 1 _ rfl HX.out (by omega) (by omega) ?_; intro g cap w1 hown hgrow hg hlt))
  have hown' := Lib.hid (ownsRow_base (B' := w.heap.size) hown (by simp))
  have hbel := below_grown (below_alloc w _) hgrow (fun _ h => by cases h)
  clear hown hgrow hg hlt HX
  go_loopw [0, 40] (fun b i wr => PutRel w n xs 254 k 4 b i wr) (fun _ i _ => 4 - (intOf i).toNat)
  case atStart => exact ⟨0, g, cap, by omega, rfl, rfl, by simpa [leB] using hown'.out, hbel⟩
  case round =>
    obtain ⟨j, g', cap', hj, rfl, rfl, hown, hbel'⟩ := hrel
    clear hbel hown'
    by_cases hlt : j < 4
    · have hj8 : (8 : Int) * (j : Int) < 64 := by omega
      have HX := Lib.hid (row_new wr #[.int .u8 (k / 2 ^ (8 * j) % 256)] 5 1 1 1 rfl (by omega) (by simp [Value.oneCell']))
      have HO := Lib.hid (hown.alloc (.cells #[.int .u8 (k / 2 ^ (8 * j) % 256)] 5))
      have hbg := (hown.lt g' rfl).1
      have hsz := hbel'.size
      clear hown
      go_wp2_with (at_builtin; refine wpList_appO eltU8 _ rfl _ _ rfl w.heap.size g' (n + 1 + j) cap' _ rfl HO.out _ 1 1 _ rfl HX.out (by omega) (by simp; omega) ?_; intro g2 cap2 w2 hown2 hgrow2 _ _ _)
      have HO2 := Lib.hid hown2
      have hb2 := below_grown (hbel'.trans ((Below.refl _ _).alloc hsz _)) hgrow2 (fun k hk => by cases hk; exact hbg)
      clear hown2 hgrow2
      go_roundw
      case rel => exact ⟨j + 1, g2, cap2, by omega, by go_num, rfl, by rw [leB_succ, ← List.append_assoc]; exact HO2.out, hb2⟩
      case measure => simp [intOf]; omega
    · have : j = 4 := by omega
      subst this
      have HO := Lib.hid hown
      clear hown
      go_wp2
      go_ret
      exact ⟨g', cap', rfl, HO.out, hbel'⟩

set_option maxHeartbeats 400000 in
theorem put_9 (ao : Option Addr) (n c : Nat) (xs : List Value) (k : Int) (w : World) (hm : n ≤ 140737488351232)
    (hk : sizeOfN k = 9) (_hk0 : 0 ≤ k) (_hk1 : k < 18446744073709551616) (hr : Row w ao n c 1 xs) :
    Calls Tryd.prog 129 #[.slice ao n c, .int .u64 k] w fun e w' => ∃ g cap, e = .returned (.slice (some ⟨g, 0, none⟩) (n + 1 + 8) cap) ∧ w'.ownsRow w.heap.size 5 1 (.slice (some ⟨g, 0, none⟩) (n + 1 + 8) cap) (n + 1 + 8) (xs ++ [.int .u8 255] ++ leB k 8) ∧ Below w.heap.size w w' := by
  have hnc' : (n : Int) ≤ (c : Int) := by have := hr.le; omega
  have HK := Lib.hid hk
  have hx := row_new w #[.int .u8 255] 5 1 1 1 rfl (by omega) (by simp [Value.oneCell'])
  have HX := Lib.hid hx
  have HR := Lib.hid hr
  clear hk hx hr
  go_enter Tryd.func129, Tryd.ntmps129
  go_wp2_with (first | (go_at_call 149; refine (size_any _ _).mono ?_; rintro e w' ⟨rfl, rfl⟩; rw [HK.out]) | (at_builtin; refine wpList_appF eltU8 _ rfl _ _ rfl ao n n xs rfl (HR.out.full.alloc _) _ 1 1 _ rfl HX.out (by omega) (by omega) ?_; intro g cap w1 hown hgrow hg hlt))
  have hown' := Lib.hid (ownsRow_base (B' := w.heap.size) hown (by simp))
  have hbel := below_grown (below_alloc w _) hgrow (fun _ h => by cases h)
  clear hown hgrow hg hlt HX
  go_loopw [0, 40] (fun b i wr => PutRel w n xs 255 k 8 b i wr) (fun _ i _ => 8 - (intOf i).toNat)
  case atStart => exact ⟨0, g, cap, by omega, rfl, rfl, by simpa [leB] using hown'.out, hbel⟩
  case round =>
    obtain ⟨j, g', cap', hj, rfl, rfl, hown, hbel'⟩ := hrel
    clear hbel hown'
    by_cases hlt : j < 8
    · have hj8 : (8 : Int) * (j : Int) < 64 := by omega
      have HX := Lib.hid (row_new wr #[.int .u8 (k / 2 ^ (8 * j) % 256)] 5 1 1 1 rfl (by omega) (by simp [Value.oneCell']))
      have HO := Lib.hid (hown.alloc (.cells #[.int .u8 (k / 2 ^ (8 * j) % 256)] 5))
      have hbg := (hown.lt g' rfl).1
      have hsz := hbel'.size
      clear hown
      go_wp2_with (at_builtin; refine wpList_appO eltU8 _ rfl _ _ rfl w.heap.size g' (n + 1 + j) cap' _ rfl HO.out _ 1 1 _ rfl HX.out (by omega) (by simp; omega) ?_; intro g2 cap2 w2 hown2 hgrow2 _ _ _)
      have HO2 := Lib.hid hown2
      have hb2 := below_grown (hbel'.trans ((Below.refl _ _).alloc hsz _)) hgrow2 (fun k hk => by cases hk; exact hbg)
      clear hown2 hgrow2
      go_roundw
      case rel => exact ⟨j + 1, g2, cap2, by omega, by go_num, rfl, by rw [leB_succ, ← List.append_assoc]; exact HO2.out, hb2⟩
      case measure => simp [intOf]; omega
    · have : j = 8 := by omega
      subst this
      have HO := Lib.hid hown
      clear hown
      go_wp2
      go_ret
      exact ⟨g', cap', rfl, HO.out, hbel'⟩

end Go.Proofs.YtpdgeiflmnhkfaaDoor

/- Package compact: contracts of Get and Put at any slice, of Bounded and of Bytes. -/
namespace Go.Proofs.YtpdgeiflmnhkfaaDoor
set_option linter.unusedVariables false
set_option linter.unusedSimpArgs false
open Go.RowKit

theorem sizeBehind_cases (n : Int) : (sizeBehindN n = 1 ∧ n ≠ 253 ∧ n ≠ 254 ∧ n ≠ 255) ∨ (sizeBehindN n = 3 ∧ n = 253) ∨ (sizeBehindN n = 5 ∧ n = 254) ∨ (sizeBehindN n = 9 ∧ n = 255) := by
  unfold sizeBehindN
  by_cases h1 : n = 255
  · simp [h1]
  by_cases h2 : n = 254
  · simp [h2]
  by_cases h3 : n = 253
  · simp [h3]
  · simp [h1, h2, h3]

theorem get_any (ao : Option Addr) (n c : Nat) (f : Nat → Int) (w : World) (hm : n ≤ 140737488351232) (hr : Row w ao n c 1 (bcells f n)) (hb : ∀ i, 0 ≤ f i ∧ f i < 256) :
    Calls Tryd.prog 151 #[.slice ao n c] w fun e w' => e = .returned (.tuple #[.int .u64 (getF f n).1, .int .i64 (getF f n).2.1, .int .i64 (getF f n).2.2]) ∧ w = w' := by
  by_cases h0 : n = 0
  · subst h0
    have : getF f 0 = (0, 0, 1) := by simp [getF]
    rw [this]
    exact get_empty ao c w
  obtain ⟨b, off, rfl⟩ := row_addr hr (bcells_ne f n (by omega))
  have hc := fun i hi => row_cell hr i hi
  rcases sizeBehind_cases (f 0) with ⟨hk, _⟩ | ⟨hk, _⟩ | ⟨hk, _⟩ | ⟨hk, _⟩
  · have : getF f n = (f 0, 1, 0) := by simp [getF, h0, hk]
    rw [this]
    exact get_one b off n c f w hm (by omega) hk hc hb
  · by_cases hs : n < 3
    · have : getF f n = (0, 0, 1) := by unfold getF; rw [hk, if_neg h0, if_neg (by decide), if_pos (by omega)]
      rw [this]
      exact get_short b off n c f 3 w hm (by omega) hk (by omega) (by omega) hs hc
    · exact get_long b off n c f 3 w hm (by omega) hk (by omega) (by omega) (by omega) hc hb
  · by_cases hs : n < 5
    · have : getF f n = (0, 0, 1) := by unfold getF; rw [hk, if_neg h0, if_neg (by decide), if_pos (by omega)]
      rw [this]
      exact get_short b off n c f 5 w hm (by omega) hk (by omega) (by omega) hs hc
    · exact get_long b off n c f 5 w hm (by omega) hk (by omega) (by omega) (by omega) hc hb
  · by_cases hs : n < 9
    · have : getF f n = (0, 0, 1) := by unfold getF; rw [hk, if_neg h0, if_neg (by decide), if_pos (by omega)]
      rw [this]
      exact get_short b off n c f 9 w hm (by omega) hk (by omega) (by omega) hs hc
    · exact get_long b off n c f 9 w hm (by omega) hk (by omega) (by omega) (by omega) hc hb

theorem sizeOf_cases (n : Int) : (sizeOfN n = 1 ∧ n < 253) ∨ (sizeOfN n = 3 ∧ 253 ≤ n ∧ n < 65536) ∨ (sizeOfN n = 5 ∧ 65536 ≤ n ∧ n < 4294967296) ∨ (sizeOfN n = 9 ∧ 4294967296 ≤ n) := by
  unfold sizeOfN
  by_cases h1 : n < 253
  · simp [h1]
  by_cases h2 : n < 65536
  · simp [h1, h2]; omega
  by_cases h3 : n < 4294967296
  · simp [h1, h2, h3]; omega
  · simp [h1, h2, h3]; omega

theorem putL_len (k : Int) : (putL k).length = (sizeOfN k).toNat := by
  unfold putL sizeOfN
  by_cases h1 : k < 253
  · simp [h1]
  by_cases h2 : k < 65536
  · simp [h1, h2, leB_len]
  by_cases h3 : k < 4294967296
  · simp [h1, h2, h3, leB_len]
  · simp [h1, h2, h3, leB_len]

theorem put_any (ao : Option Addr) (n c : Nat) (xs : List Value) (k : Int) (w : World) (hm : n ≤ 140737488351232) (hk0 : 0 ≤ k) (hk1 : k < 18446744073709551616) (hr : Row w ao n c 1 xs) :
    Calls Tryd.prog 129 #[.slice ao n c, .int .u64 k] w fun e w' => ∃ g cap, e = .returned (.slice (some ⟨g, 0, none⟩) (n + (putL k).length) cap) ∧ w'.ownsRow w.heap.size 5 1 (.slice (some ⟨g, 0, none⟩) (n + (putL k).length) cap) (n + (putL k).length) (xs ++ putL k) ∧ Below w.heap.size w w' := by
  rcases sizeOf_cases k with ⟨hk, h1⟩ | ⟨hk, h1, h2⟩ | ⟨hk, h1, h2⟩ | ⟨hk, h1⟩
  · have : putL k = [.int .u8 k] := by simp [putL, h1]
    rw [this]
    exact put_one ao n c xs k w hm h1 hk0 hr
  · have : putL k = [.int .u8 253] ++ leB k 2 := by simp [putL, h2, show ¬ k < 253 by omega]
    rw [this]
    simp only [List.length_append, List.length_singleton, leB_len, ← Nat.add_assoc, ← List.append_assoc]
    exact put_3 ao n c xs k w hm hk hk0 hk1 hr
  · have : putL k = [.int .u8 254] ++ leB k 4 := by simp [putL, h2, show ¬ k < 253 by omega, show ¬ k < 65536 by omega]
    rw [this]
    simp only [List.length_append, List.length_singleton, leB_len, ← Nat.add_assoc, ← List.append_assoc]
    exact put_5 ao n c xs k w hm hk hk0 hk1 hr
  · have : putL k = [.int .u8 255] ++ leB k 8 := by simp [putL, show ¬ k < 253 by omega, show ¬ k < 65536 by omega, show ¬ k < 4294967296 by omega]
    rw [this]
    simp only [List.length_append, List.length_singleton, leB_len, ← Nat.add_assoc, ← List.append_assoc]
    exact put_9 ao n c xs k w hm hk hk0 hk1 hr

def f3 (i : Nat) : Int := if i = 0 then 253 else if i = 1 then 253 else 0
theorem f3_bd (i : Nat) : 0 ≤ f3 i ∧ f3 i < 256 := by unfold f3; split <;> (try split) <;> decide
theorem getF_f3 : getF f3 3 = (253, 3, 0) := by decide

end Go.Proofs.YtpdgeiflmnhkfaaDoor
