/- ClockMay: the walk. -/
import Derived.Test.YtppbnanhippdaaaCk4
namespace Go.Proofs.Ytppbnanhippdaaa
set_option linter.unusedVariables false
set_option linter.unusedSimpArgs false
open Go.RowKit

theorem and_i64 (x : Int) (M : Nat) (hM : M < 9223372036854775808) : 0 ≤ bits .and .i64 x (M : Int) ∧ bits .and .i64 x (M : Int) ≤ (M : Int) := by
  have h2 : (BitVec.ofInt 64 (M : Int)).toNat = M := by
    rw [BitVec.ofInt_natCast, BitVec.toNat_ofNat]; exact Nat.mod_eq_of_lt (by omega)
  have e : bits .and .i64 x (M : Int) = IntKind.i64.wrap ((BitVec.ofInt 64 x &&& BitVec.ofInt 64 (M : Int)).toNat : Int) := rfl
  rw [e, BitVec.toNat_and, h2]
  have h3 : (BitVec.ofInt 64 x).toNat &&& M ≤ M := Nat.and_le_right
  generalize (BitVec.ofInt 64 x).toNat &&& M = y at h3
  rw [IntKind.wrap_i64]
  omega

set_option maxHeartbeats 1000000 in
theorem may_walk (t : Int) (ao : Option Addr) (n c : Nat) (l : List Int) (now future more : Int) (w : World) (hr : Row w ao n c 1 (c32 l)) (hm : n ≤ maxLen) (ht : 0 ≤ t ∧ t < 4294967296) :
    Calls Try.prog 6 #[.int .u32 t, .slice ao n c, .int .i64 now, .int .i64 future, .int .i64 more] w fun e w' => e = .returned (.bool true) ∧ Below w.heap.size w w' := by
  unfold maxLen at hm
  have hnc := hr.le
  have hl := hr.len32
  have HR := Lib.hid hr
  clear hr
  by_cases h200 : 200 < n
  · have : (200 : Int) < (n : Int) := by omega
    clear hl
    go_enter Try.func6, Try.ntmps6
    go_wp2_with (go_at_call 8; refine (awake_any _).mono ?_; rintro e w1 ⟨rfl, hb1⟩)
    go_ret
    exact ⟨by first | rfl | (simp; omega), hb1⟩
  have h200' : ¬ ((200 : Int) < (n : Int)) := by omega
  have HC := Lib.hid (fun w' (t now future : Int) (ht : 0 ≤ t ∧ t < 4294967296) (h : Below w.heap.size w w') => check_any t ao n c l now future w' (HR.out.later h) (by omega) ht)
  have HM := Lib.hid (fun w' (h : Below w.heap.size w w') => median_any ao n c l w' (HR.out.later h) (by omega))
  obtain ⟨N, hN, hN0, hN1⟩ : ∃ N, bits .and .i64 now 4294967295 = N ∧ 0 ≤ N ∧ N ≤ 4294967295 := ⟨_, rfl, (and_i64 now 4294967295 (by decide)).1, (and_i64 now 4294967295 (by decide)).2⟩
  obtain ⟨F, hF, hF0, hF1⟩ : ∃ N, bits .and .i64 future 16777215 = N ∧ 0 ≤ N ∧ N ≤ 16777215 := ⟨_, rfl, (and_i64 future 16777215 (by decide)).1, (and_i64 future 16777215 (by decide)).2⟩
  obtain ⟨M, hM, hM0, hM1⟩ : ∃ N, bits .and .i64 more 16777215 = N ∧ 0 ≤ N ∧ N ≤ 16777215 := ⟨_, rfl, (and_i64 more 16777215 (by decide)).1, (and_i64 more 16777215 (by decide)).2⟩
  have hbn : bndN N = N := by unfold bndN; omega
  have hbf : bndN F = F := by unfold bndN; omega
  have hbm : bndN (N + M) = N + M := by unfold bndN; omega
  obtain ⟨m, hmm⟩ : ∃ m, med l = m := ⟨_, rfl⟩
  rw [hmm] at HM
  by_cases h0 : n = 0
  · subst h0
    by_cases h2 : t ≤ N + F
    · have HC1 := Lib.hid (fun w' (h : Below w.heap.size w w') => by have := HC.out w' t N F ht h; rwa [show checkN t l N F = 0 by unfold checkN; rw [hbn, hbf, hmm]; exact if_neg (by omega)] at this)
      have HC2 := Lib.hid (fun w' (h : Below w.heap.size w w') => by have := HC.out w' t (N + M) F ht h; rwa [show checkN t l (N + M) F = 0 by unfold checkN; rw [hbm, hbf, hmm]; exact if_neg (by omega)] at this)
      clear hl hbn hbf hbm hmm
      go_enter Try.func6, Try.ntmps6
      go_wp2_with (first | (go_at_call 8; refine (awake_any _).mono ?_; rintro e w1 ⟨rfl, hb1⟩) | (go_at_call 12; (with_reducible refine (HM.out _ hb1).mono ?_); rintro e w2 ⟨rfl, hb⟩; replace hb1 := bl_then hb1 hb; clear hb) | (go_at_call 14; (first | (with_reducible refine (HC1.out _ hb1).mono ?_) | (with_reducible refine (HC2.out _ hb1).mono ?_)); rintro e w2 ⟨rfl, hb⟩; replace hb1 := bl_then hb1 hb; clear hb))
      go_ret
      exact ⟨by first | rfl | (simp; omega), hb1⟩
    · have h2g : N + F < t := by omega
      have HC1 := Lib.hid (fun w' (h : Below w.heap.size w w') => by have := HC.out w' t N F ht h; rwa [show checkN t l N F = 8 by unfold checkN; rw [hbn, hbf, hmm]; exact if_pos (by omega)] at this)
      obtain ⟨r2, hr2⟩ : ∃ r2, checkN t l (N + M) F = r2 := ⟨_, rfl⟩
      have HC2 := Lib.hid (fun w' (h : Below w.heap.size w w') => by have := HC.out w' t (N + M) F ht h; rwa [hr2] at this)
      clear hr2
      clear hl hbn hbf hbm hmm
      go_enter Try.func6, Try.ntmps6
      go_wp2_with (first | (go_at_call 8; refine (awake_any _).mono ?_; rintro e w1 ⟨rfl, hb1⟩) | (go_at_call 12; (with_reducible refine (HM.out _ hb1).mono ?_); rintro e w2 ⟨rfl, hb⟩; replace hb1 := bl_then hb1 hb; clear hb) | (go_at_call 14; (first | (with_reducible refine (HC1.out _ hb1).mono ?_) | (with_reducible refine (HC2.out _ hb1).mono ?_)); rintro e w2 ⟨rfl, hb⟩; replace hb1 := bl_then hb1 hb; clear hb))
      go_ret
      exact ⟨by first | rfl | (simp; omega), hb1⟩
  have h0g : (0 : Int) < (n : Int) := by omega
  by_cases h1 : t ≤ m
  · have HC1 := Lib.hid (fun w' (h : Below w.heap.size w w') => by have := HC.out w' t N F ht h; rwa [show checkN t l N F = 8 by unfold checkN; rw [hbn, hbf, hmm]; exact if_pos (by omega)] at this)
    obtain ⟨r2, hr2⟩ : ∃ r2, checkN t l (N + M) F = r2 := ⟨_, rfl⟩
    have HC2 := Lib.hid (fun w' (h : Below w.heap.size w w') => by have := HC.out w' t (N + M) F ht h; rwa [hr2] at this)
    clear hr2
    clear hl hbn hbf hbm hmm
    go_enter Try.func6, Try.ntmps6
    go_wp2_with (first | (go_at_call 8; refine (awake_any _).mono ?_; rintro e w1 ⟨rfl, hb1⟩) | (go_at_call 12; (with_reducible refine (HM.out _ hb1).mono ?_); rintro e w2 ⟨rfl, hb⟩; replace hb1 := bl_then hb1 hb; clear hb) | (go_at_call 14; (first | (with_reducible refine (HC1.out _ hb1).mono ?_) | (with_reducible refine (HC2.out _ hb1).mono ?_)); rintro e w2 ⟨rfl, hb⟩; replace hb1 := bl_then hb1 hb; clear hb))
    go_ret
    exact ⟨by first | rfl | (simp; omega), hb1⟩
  by_cases h2 : t ≤ N + F
  · have h1g : m < t := by omega
    have HC1 := Lib.hid (fun w' (h : Below w.heap.size w w') => by have := HC.out w' t N F ht h; rwa [show checkN t l N F = 0 by unfold checkN; rw [hbn, hbf, hmm]; exact if_neg (by omega)] at this)
    have HC2 := Lib.hid (fun w' (h : Below w.heap.size w w') => by have := HC.out w' t (N + M) F ht h; rwa [show checkN t l (N + M) F = 0 by unfold checkN; rw [hbm, hbf, hmm]; exact if_neg (by omega)] at this)
    clear hl hbn hbf hbm hmm
    go_enter Try.func6, Try.ntmps6
    go_wp2_with (first | (go_at_call 8; refine (awake_any _).mono ?_; rintro e w1 ⟨rfl, hb1⟩) | (go_at_call 12; (with_reducible refine (HM.out _ hb1).mono ?_); rintro e w2 ⟨rfl, hb⟩; replace hb1 := bl_then hb1 hb; clear hb) | (go_at_call 14; (first | (with_reducible refine (HC1.out _ hb1).mono ?_) | (with_reducible refine (HC2.out _ hb1).mono ?_)); rintro e w2 ⟨rfl, hb⟩; replace hb1 := bl_then hb1 hb; clear hb))
    go_ret
    exact ⟨by first | rfl | (simp; omega), hb1⟩
  · have h1g : m < t := by omega
    have h2g : N + F < t := by omega
    have HC1 := Lib.hid (fun w' (h : Below w.heap.size w w') => by have := HC.out w' t N F ht h; rwa [show checkN t l N F = 8 by unfold checkN; rw [hbn, hbf, hmm]; exact if_pos (by omega)] at this)
    obtain ⟨r2, hr2⟩ : ∃ r2, checkN t l (N + M) F = r2 := ⟨_, rfl⟩
    have HC2 := Lib.hid (fun w' (h : Below w.heap.size w w') => by have := HC.out w' t (N + M) F ht h; rwa [hr2] at this)
    clear hr2
    clear hl hbn hbf hbm hmm
    go_enter Try.func6, Try.ntmps6
    go_wp2_with (first | (go_at_call 8; refine (awake_any _).mono ?_; rintro e w1 ⟨rfl, hb1⟩) | (go_at_call 12; (with_reducible refine (HM.out _ hb1).mono ?_); rintro e w2 ⟨rfl, hb⟩; replace hb1 := bl_then hb1 hb; clear hb) | (go_at_call 14; (first | (with_reducible refine (HC1.out _ hb1).mono ?_) | (with_reducible refine (HC2.out _ hb1).mono ?_)); rintro e w2 ⟨rfl, hb⟩; replace hb1 := bl_then hb1 hb; clear hb))
    go_ret
    exact ⟨by first | rfl | (simp; omega), hb1⟩
end Go.Proofs.Ytppbnanhippdaaa
