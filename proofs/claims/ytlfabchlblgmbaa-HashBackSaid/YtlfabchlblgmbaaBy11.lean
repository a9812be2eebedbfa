/- A number's text: its digits, told again. (hM) -/
import Derived.Test.YtlfabchlblgmbaaBy10
namespace Go.Proofs.Ytlfabchlblgmbaa
set_option linter.unusedVariables false
set_option linter.unusedSimpArgs false
open Go.RowKit

theorem nib_of {a0 a1 a2 a3 : Int} (ha : B4 a0 a1 a2 a3) (j : Nat) (hj : j < 64) : nibN a0 a1 a2 a3 j = N4 a0 a1 a2 a3 / 16 ^ j % 16 := by
  obtain ⟨rest, hrest, he⟩ := limb_split ha (j / 16) (by omega)
  unfold nibN
  obtain ⟨q, hq⟩ : ∃ q, j / 16 = q := ⟨_, rfl⟩
  obtain ⟨r, hr⟩ : ∃ r, j % 16 = r := ⟨_, rfl⟩
  have hr8 : r < 16 := by omega
  have hjr : j = 16 * q + r := by omega
  rw [hq, hr]
  rw [hq] at he
  have e1 : (16 : Int) ^ j = 2 ^ (64 * q) * 2 ^ (r * 4) := by
    rw [show (16 : Int) = 2 ^ 4 by decide, ← Int.pow_mul, ← Int.pow_add]
    congr 1
    omega
  have hp := two_pow_pos (r * 4)
  rw [e1, ← Int.ediv_ediv_of_nonneg (Int.le_of_lt (two_pow_pos _)), he]
  obtain ⟨m, hm⟩ : ∃ m, 16 = r + 1 + m := ⟨15 - r, by omega⟩
  have e2 : WI * rest = 2 ^ (r * 4) * (16 * (2 ^ (m * 4) * rest)) := by
    rw [WI_eq, show (18446744073709551616 : Int) = 2 ^ (r * 4) * (16 * 2 ^ (m * 4)) by
      rw [show (16 : Int) = 2 ^ 4 by decide, ← Int.pow_add, ← Int.pow_add]
      rw [show r * 4 + (4 + m * 4) = 64 by omega]
      decide]
    simp only [Int.mul_assoc]
  rw [e2, Int.add_mul_ediv_left _ _ (Int.ne_of_gt hp)]
  omega
/-- the digits of a number of m digits -/
def nibs (N : Int) (m : Nat) (j : Nat) : Int := N / 16 ^ (m - 1 - j) % 16
theorem nibs_b (N : Int) (m j : Nat) : 0 ≤ nibs N m j ∧ nibs N m j < 16 := ⟨Int.emod_nonneg _ (by decide), Int.emod_lt_of_pos _ (by decide)⟩
theorem hexV_nibs (N : Int) (m : Nat) (h : 0 ≤ N ∧ N < 16 ^ m) : ∀ j, j ≤ m → hexV (nibs N m) j = N / 16 ^ (m - j)
  | 0, _ => by rw [Nat.sub_zero, Int.ediv_eq_zero_of_lt h.1 h.2]; rfl
  | j + 1, hj => by
    have ih := hexV_nibs N m h j (by omega)
    show hexV (nibs N m) j * 16 + nibs N m j = _
    rw [ih]
    unfold nibs
    rw [show m - 1 - j = m - (j + 1) by omega]
    obtain ⟨k, hk⟩ : ∃ k, m - (j + 1) = k := ⟨_, rfl⟩
    rw [hk, show m - j = k + 1 by omega, Int.pow_succ, ← Int.ediv_ediv_of_nonneg (Int.le_of_lt (Int.pow_pos (by decide)))]
    omega
theorem hexV_zero (dg : Nat → Int) (h : ∀ j, j < 2 → dg j = 0) : ∀ n, hexV dg (n + 2) = hexV (fun j => dg (j + 2)) n
  | 0 => by
    show (0 * 16 + dg 0) * 16 + dg 1 = 0
    rw [h 0 (by omega), h 1 (by omega)]
    rfl
  | n + 1 => by
    show hexV dg (n + 2) * 16 + dg (n + 2) = hexV (fun j => dg (j + 2)) n * 16 + dg (n + 2)
    rw [hexV_zero dg h n]
theorem hexV_congr {f g : Nat → Int} : ∀ n, (∀ j, j < n → f j = g j) → hexV f n = hexV g n
  | 0, _ => rfl
  | n + 1, h => by
    show hexV f n * 16 + f n = hexV g n * 16 + g n
    rw [hexV_congr n fun j hj => h j (by omega), h n (by omega)]

/-- the text -/
def hexT (N : Int) (m : Nat) : ByteArray := strOfNums (bnums (fun j => hexd (nibs N m j)) m)
theorem hexT_size (N : Int) (m : Nat) : (hexT N m).size = m := by
  show (List.map _ _).toArray.size = m
  simp [bnums]
theorem hexT_at (N : Int) (m j : Nat) (h : j < (hexT N m).size) : (((hexT N m)[j]'h).toNat : Int) = hexd (nibs N m j) := by
  have hb := hexd_b (nibs_b N m j)
  have e : (hexT N m)[j]'h = UInt8.ofNat (hexd (nibs N m j)).toNat := by
    show ((List.map (fun n : Int => UInt8.ofNat n.toNat) (bnums (fun j => hexd (nibs N m j)) m)).toArray)[j]'_ = _
    simp [bnums]
  rw [e, UInt8.toNat_ofNat']
  omega
theorem zz_size (s : ByteArray) : (({ data := #[48, 48] } : ByteArray) ++ s).size = s.size + 2 := by
  rw [ByteArray.size_append]
  show 2 + s.size = _
  omega
/-- with two zeros ahead -/
def zz (N : Int) (m j : Nat) : Int := if j < 2 then 0 else nibs N m (j - 2)
theorem zz_at (N : Int) (m j : Nat) (h : j < (({ data := #[48, 48] } : ByteArray) ++ hexT N m).size) : (((({ data := #[48, 48] } : ByteArray) ++ hexT N m)[j]'h).toNat : Int) = hexd (zz N m j) := by
  unfold zz
  by_cases hj : j < 2
  · rw [if_pos hj, ByteArray.getElem_append_left (by show j < 2; exact hj)]
    have : j = 0 ∨ j = 1 := by omega
    rcases this with rfl | rfl <;> rfl
  · have hs := h
    rw [zz_size] at hs
    rw [if_neg hj, ByteArray.getElem_append_right (by show 2 ≤ j; omega)]
    exact hexT_at N m (j - 2) (by omega)
theorem hex_is {a0 a1 a2 a3 : Int} (ha : B4 a0 a1 a2 a3) : ∃ m : Nat, 1 ≤ m ∧ m ≤ 64 ∧ N4 a0 a1 a2 a3 < 16 ^ m ∧ (1 < m → 16 ^ (m - 1) ≤ N4 a0 a1 a2 a3) ∧
    ∀ w : World, Calls Try.prog 36 #[U4 a0 a1 a2 a3] w fun e w' => e = .returned (.string (hexT (N4 a0 a1 a2 a3) m)) ∧ Below w.heap.size w w' := by
  obtain ⟨L, hL, hL1, hL2, hL3⟩ := len_holds ha
  obtain ⟨m, hm⟩ : ∃ m : Nat, hexLenN (lenN a0 a1 a2 a3) = (m : Int) := ⟨(hexLenN (lenN a0 a1 a2 a3)).toNat, by rw [hL]; unfold hexLenN; omega⟩
  have hmL : max (((L : Int) + 3) / 4) 1 = (m : Int) := by rw [← hm, hL]; rfl
  have e16 : ∀ k : Nat, (16 : Int) ^ k = 2 ^ (4 * k) := fun k => by rw [show (16 : Int) = 2 ^ 4 by decide, ← Int.pow_mul]
  refine ⟨m, by omega, by omega, ?_, fun h => ?_, fun w => ?_⟩
  · rw [e16]
    exact Int.lt_of_lt_of_le hL2 (pow2_le (by omega))
  · rw [e16]
    exact Int.le_trans (pow2_le (by omega)) (hL3 (by omega))
  · have h := hex_parts a0 a1 a2 a3 w ha.h0 ha.h1 ha.h2 ha.h3 m hm L hL ⟨by omega, by omega⟩
    rw [show bnums (fun j => hexd (nibN a0 a1 a2 a3 (m - 1 - j))) m = bnums (fun j => hexd (nibs (N4 a0 a1 a2 a3) m j)) m by
      unfold bnums
      refine List.map_congr_left fun j hj => ?_
      rw [List.mem_range] at hj
      rw [nib_of ha _ (by omega)]
      rfl] at h
    exact h
end Go.Proofs.Ytlfabchlblgmbaa
