/- Package compact: plain facts: what was put is got again. -/
import Derived.Test.YtpifenhboblcfaaCmpM
namespace Go.Proofs.Ytpifenhboblcfaa
set_option linter.unusedVariables false
set_option linter.unusedSimpArgs false
open Go.RowKit

theorem emod_mul256 (y M : Int) (_hy : 0 ≤ y) (hM : 0 < M) : y % (256 * M) = y % 256 + 256 * (y / 256 % M) := by
  have h1 := Int.emod_add_mul_ediv y 256
  have h2 := Int.emod_add_mul_ediv (y / 256) M
  have h3 := Int.emod_nonneg (y / 256) (show M ≠ 0 by omega)
  have h4 := Int.emod_lt_of_pos (y / 256) hM
  have h5 : 0 ≤ y % 256 ∧ y % 256 < 256 := by omega
  have e : y = (y % 256 + 256 * (y / 256 % M)) + 256 * M * (y / 256 / M) := by
    rw [Int.mul_assoc, Int.add_assoc, ← Int.mul_add, h2]; exact h1.symm
  have hlt : y % 256 + 256 * (y / 256 % M) < 256 * M := by omega
  have : y % (256 * M) = ((y % 256 + 256 * (y / 256 % M)) + 256 * M * (y / 256 / M)) % (256 * M) := by rw [← e]
  rw [this, Int.add_mul_emod_self_left, Int.emod_eq_of_lt (by omega) hlt]

theorem leF_of (x : Int) (hx : 0 ≤ x) (f : Nat → Int) : ∀ (j a : Nat) (y : Int), 0 ≤ y → (∀ i, i < j → f (a + i) = y / 2 ^ (8 * i) % 256) → leF f a j = y % 2 ^ (8 * j) := by
  intro j
  induction j with
  | zero => intro a y _ _; simp [leF, Int.emod_one]
  | succ j ih =>
    intro a y hy h
    have h0 := h 0 (by omega)
    simp only [Nat.add_zero, Nat.mul_zero, Int.pow_zero, Int.ediv_one] at h0
    have ih' := ih (a + 1) (y / 256) (by omega) (fun i hi => by
      have := h (i + 1) (by omega)
      rw [show a + 1 + i = a + (i + 1) by omega, this]
      have e : (2 : Int) ^ (8 * (i + 1)) = 256 * 2 ^ (8 * i) := by
        rw [Nat.mul_succ, Int.pow_add, Int.mul_comm]; rfl
      rw [e, ← Int.ediv_ediv_of_nonneg (by omega)])
    simp only [leF]
    rw [ih', h0]
    have e : (2 : Int) ^ (8 * (j + 1)) = 256 * 2 ^ (8 * j) := by
      rw [Nat.mul_succ, Int.pow_add, Int.mul_comm]; rfl
    rw [e, emod_mul256 y (2 ^ (8 * j)) hy (Int.pow_pos (by omega))]

theorem putL_shape (x : Int) (f : Nat → Int) (m : Nat) (fb : Int) (h : bcells f (m + 1) = .int .u8 fb :: leB x m) : f 0 = fb ∧ ∀ i, i < m → f (1 + i) = x / 2 ^ (8 * i) % 256 := by
  rw [bcells_succ] at h
  simp only [List.cons.injEq, Value.int.injEq, true_and] at h
  refine ⟨h.1, fun i hi => ?_⟩
  have h2 := congrArg (fun l => l[i]?) h.2
  simp [leB, hi] at h2
  exact h2

/-- what is put is got again, whatever stands behind it; each beginning of it is short -/
theorem getF_put (x : Int) (h0 : 0 ≤ x) (h1 : x < 18446744073709551616) (f : Nat → Int) (h : bcells f (putL x).length = putL x) (n : Nat) :
    getF f n = if n < (putL x).length then (0, 0, 1) else (x, ((putL x).length : Int), 0) := by
  rcases sizeOf_cases x with ⟨hk, hx⟩ | ⟨hk, hx, hx2⟩ | ⟨hk, hx, hx2⟩ | ⟨hk, hx⟩
  · have hp : putL x = [.int .u8 x] := by simp [putL, hx]
    rw [hp] at h ⊢
    have hf : f 0 = x := by simpa [bcells] using h
    have hs : sizeBehindN (f 0) = 1 := by unfold sizeBehindN; rw [if_neg (by omega), if_neg (by omega), if_neg (by omega)]
    unfold getF
    rw [hs, hf]
    by_cases hn : n = 0
    · simp [hn]
    · rw [if_neg hn, if_pos rfl, if_neg (by simp; omega)]; rfl
  all_goals
    have hp : ∃ fb m, putL x = .int .u8 fb :: leB x m ∧ sizeBehindN fb = ((m + 1 : Nat) : Int) ∧ 2 ≤ m ∧ x < 2 ^ (8 * m) ∧ sizeOfN x = ((m + 1 : Nat) : Int) := by
      first
        | exact ⟨253, 2, by simp [putL, hx2, show ¬ x < 253 by omega], rfl, by omega, hx2, hk⟩
        | exact ⟨254, 4, by simp [putL, hx2, show ¬ x < 253 by omega, show ¬ x < 65536 by omega], rfl, by omega, hx2, hk⟩
        | exact ⟨255, 8, by simp [putL, show ¬ x < 253 by omega, show ¬ x < 65536 by omega, show ¬ x < 4294967296 by omega], rfl, by omega, h1, hk⟩
    obtain ⟨fb, m, hp, hs, hm, hxm, hsz⟩ := hp
    rw [hp] at h ⊢
    have hl : (Value.int .u8 fb :: leB x m).length = m + 1 := by simp [leB_len]
    rw [hl] at h ⊢
    obtain ⟨hf, hd⟩ := putL_shape x f m fb h
    have hle := leF_of x h0 f m 1 x h0 hd
    rw [Int.emod_eq_of_lt h0 hxm] at hle
    unfold getF
    rw [hf, hs]
    by_cases hn0 : n = 0
    · rw [if_pos hn0, if_pos (by omega)]
    · rw [if_neg hn0, if_neg (by omega)]
      by_cases hn : n < m + 1
      · rw [if_pos hn, if_pos (by omega)]
      · rw [if_neg hn, if_neg (by omega), Int.toNat_natCast, Nat.add_sub_cancel, hle, if_pos hsz]
end Go.Proofs.Ytpifenhboblcfaa
