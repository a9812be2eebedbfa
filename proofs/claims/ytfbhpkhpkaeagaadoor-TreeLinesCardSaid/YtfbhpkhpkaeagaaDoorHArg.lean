/- A hash as an argument; a hash out of its number. (hM) -/
import Derived.Test.YtfbhpkhpkaeagaaDoorBy6
import Derived.Test.YtfbhpkhpkaeagaaDoorOpen
namespace Go.Proofs.YtfbhpkhpkaeagaaDoor
set_option linter.unusedVariables false
set_option linter.unusedSimpArgs false
open Go.RowKit

theorem Rd.hash {w : World} {v : Value} (h : Rd Tryd.prog w 24 v) : ∃ f : Nat → Int, v = arr32 f ∧ ∀ i, 0 ≤ f i ∧ f i < 256 := by
  obtain ⟨zs, rfl, hl, hw⟩ := h.arrInts (n := 32) (k := .u8) Tryd.underlying24 Tryd.underlying5 (by kernel_rfl) (by kernel_rfl)
  have hz : zs.map (Value.int .u8) = b8l (fun i => zs.getD i 0) 32 := by
    apply List.ext_getElem
    · simp [b8l, hl]
    · intro i h1 h2
      have h3 : i < zs.length := by simpa using h1
      simp [b8l, List.getD, List.getElem?_eq_getElem h3]
  refine ⟨fun i => zs.getD i 0, by rw [hz], fun i => ?_⟩
  show 0 ≤ zs.getD i 0 ∧ zs.getD i 0 < 256
  by_cases h : i < zs.length
  · exact u8_of_wf (hw (zs.getD i 0) (by simp [List.getD, List.getElem?_eq_getElem h]))
  · rw [show zs.getD i 0 = 0 by simp [List.getD, List.getElem?_eq_none (Nat.le_of_not_lt h)]]
    omega
theorem byte_acc (f : Nat → Int) (hf : ∀ i, 0 ≤ f i ∧ f i < 256) : ∀ j, j ≤ 32 → ∀ i, i < j → accV (fun k => f (31 - k)) 32 j / 256 ^ i % 256 = f i := by
  intro j
  induction j with
  | zero => intro _ i hi; omega
  | succ j ih =>
    intro hj i hi
    have hb := accV_b (fun k => f (31 - k)) 32 (fun i => hf (31 - i)) j
    have hfj := hf j
    have e : accV (fun k => f (31 - k)) 32 (j + 1) = accV (fun k => f (31 - k)) 32 j + f j * 256 ^ j := by
      show _ + f (31 - (32 - 1 - j)) * 256 ^ j = _
      rw [show 31 - (32 - 1 - j) = j by omega]
    rw [e]
    obtain ⟨A, hA⟩ : ∃ A, accV (fun k => f (31 - k)) 32 j = A := ⟨_, rfl⟩
    have ih' := ih (by omega)
    rw [hA] at hb ih' ⊢
    have hp : (0 : Int) < 256 ^ j := Int.pow_pos (by decide)
    rcases Nat.lt_or_ge i j with h | h
    · have hq : (0 : Int) < 256 ^ i := Int.pow_pos (by decide)
      have e2 : (256 : Int) ^ j = 256 ^ i * 256 * 256 ^ (j - i - 1) := by rw [← Int.pow_succ, ← Int.pow_add]; congr 1; omega
      rw [← ih' i h, e2, show f j * (256 ^ i * 256 * 256 ^ (j - i - 1)) = 256 ^ i * (256 * (f j * 256 ^ (j - i - 1))) by
        simp only [Int.mul_assoc, Int.mul_comm, Int.mul_left_comm], Int.add_mul_ediv_left _ _ (Int.ne_of_gt hq), Int.add_mul_emod_self_left]
    · have hij : i = j := by omega
      rw [hij, Int.add_mul_ediv_right _ _ (Int.ne_of_gt hp), Int.ediv_eq_zero_of_lt hb.1 hb.2]
      omega
theorem hash_back (f : Nat → Int) (hf : ∀ i, 0 ≤ f i ∧ f i < 256) : arr32 (byteN (hashN f)) = arr32 f := by
  unfold arr32
  rw [b8l_congr (f := byteN (hashN f)) (g := f) fun i hi => byte_acc f hf 32 (Nat.le_refl _) i hi]
end Go.Proofs.YtfbhpkhpkaeagaaDoor
