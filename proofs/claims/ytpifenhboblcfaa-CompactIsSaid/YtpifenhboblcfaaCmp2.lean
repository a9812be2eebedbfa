/- Package compact: contract of Get. -/
import Derived.Test.YtpifenhboblcfaaCmp1
namespace Go.Proofs.Ytpifenhboblcfaa
set_option linter.unusedVariables false
set_option linter.unusedSimpArgs false
open Go.RowKit

/-- the number that m bytes from place a on tell, the lowest first -/
def leF (f : Nat → Int) : Nat → Nat → Int
  | _, 0 => 0
  | a, m + 1 => f a + 256 * leF f (a + 1) m

theorem leF_nn (f : Nat → Int) (hb : ∀ i, 0 ≤ f i ∧ f i < 256) : ∀ m a, 0 ≤ leF f a m := by
  intro m
  induction m with
  | zero => intro a; simp [leF]
  | succ m ih =>
    intro a
    have h1 := hb a
    have h2 := ih (a + 1)
    simp only [leF]
    omega

theorem leF_lt7 (f : Nat → Int) (hb : ∀ i, 0 ≤ f i ∧ f i < 256) (m : Nat) (hm : m ≤ 7) (a : Nat) : leF f a m < 72057594037927936 := by
  have hc : m = 0 ∨ m = 1 ∨ m = 2 ∨ m = 3 ∨ m = 4 ∨ m = 5 ∨ m = 6 ∨ m = 7 := by omega
  have h0 := hb a
  have h1 := hb (a + 1)
  have h2 := hb (a + 1 + 1)
  have h3 := hb (a + 1 + 1 + 1)
  have h4 := hb (a + 1 + 1 + 1 + 1)
  have h5 := hb (a + 1 + 1 + 1 + 1 + 1)
  have h6 := hb (a + 1 + 1 + 1 + 1 + 1 + 1)
  rcases hc with rfl | rfl | rfl | rfl | rfl | rfl | rfl | rfl <;> simp only [leF] <;> omega

def getF (f : Nat → Int) (n : Nat) : Int × Int × Int :=
  if n = 0 then (0, 0, 1) else
  if sizeBehindN (f 0) = 1 then (f 0, 1, 0) else
  if (n : Int) < sizeBehindN (f 0) then (0, 0, 1) else
  if sizeOfN (leF f 1 ((sizeBehindN (f 0)).toNat - 1)) = sizeBehindN (f 0) then (leF f 1 ((sizeBehindN (f 0)).toNat - 1), sizeBehindN (f 0), 0) else (0, 0, 2)

theorem shl8_or (n x : Nat) (hx : x < 256) : (n * 256) ||| x = n * 256 + x := by
  have h := Nat.two_pow_add_eq_or_of_lt (i := 8) (b := x) (by omega) n
  have e : 2 ^ 8 * n = n * 256 := by omega
  rw [e] at h
  exact h.symm

theorem or_shl8 (m x : Int) (hm : 0 ≤ m) (hm' : m < 72057594037927936) (hx : 0 ≤ x ∧ x < 256) : bits .or .u64 (m * 256) x = m * 256 + x := by
  obtain ⟨a, rfl⟩ := Int.eq_ofNat_of_zero_le hm
  obtain ⟨b, rfl⟩ := Int.eq_ofNat_of_zero_le hx.1
  have h := u64_or_nat (a * 256) b (by omega) (by omega)
  rw [shl8_or a b (by omega), Int.natCast_add, Int.natCast_mul] at h
  exact h

set_option maxHeartbeats 400000 in
theorem get_empty (a : Option Addr) (c : Nat) (w : World) :
    Calls Try.prog 9 #[.slice a 0 c] w fun e w' => e = .returned (.tuple #[.int .u64 0, .int .i64 0, .int .i64 1]) ∧ w = w' := by
  go_enter Try.func9, Try.ntmps9
  go_wp2
  go_ret3
  exact ⟨rfl, rfl⟩

set_option maxHeartbeats 400000 in
theorem get_one (b off n c : Nat) (f : Nat → Int) (w : World) (hm : n ≤ 140737488351232) (h0 : 0 < n)
    (hk : sizeBehindN (f 0) = 1)
    (hc : ∀ i, i < n → w.cell? ⟨b, off + i, none⟩ = some (.int .u8 (f i))) (hb : ∀ i, 0 ≤ f i ∧ f i < 256) :
    Calls Try.prog 9 #[.slice (some ⟨b, off, none⟩) n c] w fun e w' => e = .returned (.tuple #[.int .u64 (f 0), .int .i64 1, .int .i64 0]) ∧ w = w' := by
  have hc0 : w.cell? ⟨b, off, none⟩ = some (.int .u8 (f 0)) := hc 0 h0
  have hn0 : (0 : Int) < (n : Int) := by omega
  have hb0 := hb 0
  have HK := Lib.hid hk
  clear hk hc hb
  go_enter Try.func9, Try.ntmps9
  go_wp2_with (go_at_call 19; refine (sizeBehind_any _ _).mono ?_; rintro e w' ⟨rfl, rfl⟩; rw [HK.out])
  go_ret3
  exact ⟨rfl, rfl⟩

set_option maxHeartbeats 400000 in
theorem get_short (b off n c : Nat) (f : Nat → Int) (k : Nat) (w : World) (hm : n ≤ 140737488351232) (h0 : 0 < n)
    (hk : sizeBehindN (f 0) = k) (hk3 : 3 ≤ k) (hk9 : k ≤ 9) (hkn : n < k)
    (hc : ∀ i, i < n → w.cell? ⟨b, off + i, none⟩ = some (.int .u8 (f i))) :
    Calls Try.prog 9 #[.slice (some ⟨b, off, none⟩) n c] w fun e w' => e = .returned (.tuple #[.int .u64 0, .int .i64 0, .int .i64 1]) ∧ w = w' := by
  have hc0 : w.cell? ⟨b, off, none⟩ = some (.int .u8 (f 0)) := hc 0 h0
  have hn0 : (0 : Int) < (n : Int) := by omega
  have hk1 : ((k : Int) == 1) = false := by rw [beq_eq_false_iff_ne]; omega
  have hlt : ((n : Int) < (k : Int)) := by omega
  have HK := Lib.hid hk
  clear hk hc
  go_enter Try.func9, Try.ntmps9
  go_wp2_with (go_at_call 19; refine (sizeBehind_any _ _).mono ?_; rintro e w' ⟨rfl, rfl⟩; rw [HK.out])
  go_ret3
  exact ⟨rfl, rfl⟩

set_option maxHeartbeats 400000 in
theorem get_long (b off n c : Nat) (f : Nat → Int) (k : Nat) (w : World) (hm : n ≤ 140737488351232) (h0 : 0 < n)
    (hk : sizeBehindN (f 0) = k) (hk3 : 3 ≤ k) (hk9 : k ≤ 9) (hkn : k ≤ n)
    (hc : ∀ i, i < n → w.cell? ⟨b, off + i, none⟩ = some (.int .u8 (f i))) (hb : ∀ i, 0 ≤ f i ∧ f i < 256) :
    Calls Try.prog 9 #[.slice (some ⟨b, off, none⟩) n c] w fun e w' => e = .returned (.tuple #[.int .u64 (getF f n).1, .int .i64 (getF f n).2.1, .int .i64 (getF f n).2.2]) ∧ w = w' := by
  have hc0 : w.cell? ⟨b, off, none⟩ = some (.int .u8 (f 0)) := hc 0 h0
  have hn0 : (0 : Int) < (n : Int) := by omega
  have hk1 : ((k : Int) == 1) = false := by rw [beq_eq_false_iff_ne]; omega
  have hlt : ¬ ((n : Int) < (k : Int)) := by omega
  have HK := Lib.hid hk
  have HC := Lib.hid hc
  have HB := Lib.hid hb
  clear hk hc hb
  go_enter Try.func9, Try.ntmps9
  go_wp2_with (go_at_call 19; refine (sizeBehind_any _ _).mono ?_; rintro e w' ⟨rfl, rfl⟩; rw [HK.out])
  go_loop [6, 7] (fun t i => ∃ j : Nat, j < k ∧ i = .int .i64 j ∧ t = .int .u64 (leF f (j + 1) (k - 1 - j))) (fun _ i => (intOf i).toNat)
  case atStart => exact ⟨k - 1, by omega, by go_num, by rw [Nat.sub_self]; rfl⟩
  case round =>
    obtain ⟨j, hj, rfl, rfl⟩ := hrel
    by_cases hj0 : 0 < j
    · have hcj : w.cell? ⟨b, off + j, none⟩ = some (.int .u8 (f j)) := HC.out j (by omega)
      have hj0' : (0 : Int) < (j : Int) := by omega
      have hjn : (j : Int) < (n : Int) := by omega
      obtain ⟨m, hm'⟩ : ∃ m, leF f (j + 1) (k - 1 - j) = m := ⟨_, rfl⟩
      have hmb := leF_nn f HB.out (k - 1 - j) (j + 1)
      rw [hm'] at hmb
      have hmb1 : 0 ≤ m := hmb
      have hmb2 : m < 72057594037927936 := by
        have h7 := leF_lt7 f HB.out (k - 1 - j) (by omega) (j + 1)
        rw [hm'] at h7
        exact h7
      have HM := Lib.hid hm'
      rw [hm']
      clear hm' hmb
      have hbj := HB.out j
      go_wp2
      go_round
      case rel => exact ⟨j - 1, by omega, by go_num, by rw [or_shl8 m (f j) hmb1 hmb2 hbj, show j - 1 + 1 = j from by omega, show k - 1 - (j - 1) = (k - 1 - j) + 1 from by omega]; simp only [leF]; rw [HM.out, Int.mul_comm, Int.add_comm]⟩
      case measure => simp [intOf]; omega
    · have : j = 0 := by omega
      subst this
      have HG : Hid (getF f n = if sizeOfN (leF f 1 (k - 1)) = k then (leF f 1 (k - 1), (k : Int), 0) else (0, 0, 2)) := by
        show getF f n = _
        unfold getF
        rw [HK.out, if_neg (by omega), if_neg (by omega), if_neg (by omega), Int.toNat_natCast]
      go_wp2_with (go_at_call 17; refine (size_any _ _).mono ?_; rintro e w' ⟨rfl, rfl⟩)
      · have hne : sizeOfN (leF f 1 (k - 1)) ≠ k := by simpa using ‹(sizeOfN (leF f 1 (k - 1)) != (k : Int)) = true›
        go_ret3
        rw [HG.out, if_neg hne]
        exact ⟨rfl, rfl⟩
      · have hne : sizeOfN (leF f 1 (k - 1)) = k := by simpa using ‹(sizeOfN (leF f 1 (k - 1)) != (k : Int)) = false›
        go_ret3
        rw [HG.out, if_pos hne]
        exact ⟨rfl, rfl⟩
end Go.Proofs.Ytpifenhboblcfaa
