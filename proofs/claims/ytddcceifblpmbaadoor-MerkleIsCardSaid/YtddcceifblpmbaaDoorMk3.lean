/- merkle.Width, merkle.Height. (hM) -/
import Derived.Test.YtddcceifblpmbaaDoorMk2
namespace Go.Proofs.YtddcceifblpmbaaDoor
set_option linter.unusedVariables false
set_option linter.unusedSimpArgs false
open Go.RowKit

theorem wid_eq (n : Nat) : ∀ h, wid n h = (n + 2 ^ h - 1) / 2 ^ h
  | 0 => by simp [wid]
  | h + 1 => by
    have hp : 1 ≤ 2 ^ h := Nat.one_le_two_pow
    rw [wid, wid_eq n h, Nat.pow_succ, ← Nat.div_div_eq_div_mul]
    congr 1
    rw [show n + 2 ^ h * 2 - 1 = (n + 2 ^ h - 1) + 2 ^ h by omega, Nat.add_div_right _ hp]
/-- how wide a level is, of whatever numbers -/
def widN (n h : Int) : Nat := if h < 0 then 0 else wid (min n.toNat 4096) (min h.toNat 12)

set_option maxRecDepth 100000 in
theorem width_any (n h : Int) (w : World) : Calls Tryd.prog 54 #[.int .i64 n, .int .i64 h] w fun e w' => e = .returned (.int .i64 ((widN n h : Nat) : Int)) ∧ w = w' := by
  by_cases h0 : h < 0
  · unfold widN
    rw [if_pos h0]
    go_enter Tryd.func54, Tryd.ntmps54
    go_wp2
    go_ret
    exact ⟨rfl, rfl⟩
  unfold widN
  rw [if_neg h0]
  obtain ⟨x, hx⟩ : ∃ x : Nat, min n.toNat 4096 = x := ⟨_, rfl⟩
  obtain ⟨H, hH⟩ : ∃ H : Nat, min h.toNat 12 = H := ⟨_, rfl⟩
  rw [hx, hH, wid_eq]
  have hx1 : x ≤ 4096 := by omega
  have hH1 : H ≤ 12 := by omega
  obtain ⟨p, hp⟩ : ∃ p : Nat, 2 ^ H = p := ⟨_, rfl⟩
  have hp1 : 1 ≤ p := by rw [← hp]; exact Nat.one_le_two_pow
  have hp2 : p ≤ 4096 := by rw [← hp]; exact Nat.pow_le_pow_right (by omega) hH1
  have ex : min (max n 0) 4096 = (x : Int) := by omega
  have eh : min h 12 = (H : Int) := by omega
  have ep : ((2 : Int) ^ H) = (p : Int) := by rw [← hp]; push_cast; rfl
  have ew : ∀ z : Int, 0 ≤ z → z < 100000 → wrap64 z = z := fun z h1 h2 => by unfold wrap64; omega
  have HX := Lib.hid (And.intro ex (And.intro eh (And.intro ep ew)))
  have HP := Lib.hid (And.intro hp (And.intro hp1 (And.intro hp2 hx1)))
  clear ex eh ep ew hp hp1 hp2 hx1 hH1 hx hH
  go_enter Tryd.func54, Tryd.ntmps54
  go_wp2
  refine bodyPost_ret (results_tmp rfl _ _ _) rfl ⟨?_, rfl⟩
  obtain ⟨ex, eh, ep, ew⟩ := HX.out
  obtain ⟨hp, hp1, hp2, hx1⟩ := HP.out
  show Ending.returned (.int .i64 _) = _
  have exp : (x : Int) + (p : Int) = ((x + p : Nat) : Int) := by omega
  rw [ex, eh, Int.toNat_natCast, ep, hp, ew p (by omega) (by omega), exp, ew ((x + p : Nat) : Int) (by omega) (by omega), show ((x + p : Nat) : Int) - 1 = ((x + p - 1 : Nat) : Int) by omega, ew ((x + p - 1 : Nat) : Int) (by omega) (by omega)]
/-- how high a tree is, of whatever number -/
def hgtN (n : Int) : Nat := hgt (min n.toNat 4096)
theorem widN_nat (n : Int) (k : Nat) (hk : k ≤ 12) : widN n (k : Int) = wid (min n.toNat 4096) k := by
  unfold widN
  rw [if_neg (by omega), Int.toNat_natCast, Nat.min_eq_left hk]
theorem wid_zero : ∀ k, wid 0 k = 0
  | 0 => rfl
  | k + 1 => by rw [wid, wid_zero k]
theorem hgtN_le (n : Int) : hgtN n ≤ 12 := hgt_small 12 _ (by simp; omega)

set_option maxRecDepth 100000 in
theorem height_any (n : Int) (w : World) : Calls Tryd.prog 56 #[.int .i64 n] w fun e w' => e = .returned (.int .i64 ((hgtN n : Nat) : Int)) ∧ w = w' := by
  have HH := Lib.hid (hgtN_le n)
  go_enter Tryd.func56, Tryd.ntmps56
  go_wp2
  go_loopw [3] (fun i wr => w = wr ∧ ∃ k : Nat, i = .int .i64 (k : Int) ∧ k ≤ hgtN n) (fun i _ => 20 - (intOf i).toNat)
  case atStart => exact ⟨rfl, 0, rfl, Nat.zero_le _⟩
  case round =>
    obtain ⟨rfl, k, rfl, hk⟩ := hrel
    have HW := Lib.hid (width_any n (k : Int) w)
    have hw := widN_nat n k (by have := HH.out; omega)
    have HK := Lib.hid hk
    have hkw : IntKind.i64.wrap ((k : Int) + 1) = ((k + 1 : Nat) : Int) := by rw [IntKind.wrap_i64]; have := HH.out; omega
    by_cases h1 : 1 < widN n (k : Int)
    · have hx : k < hgtN n := by
        rcases Nat.lt_or_ge k (hgtN n) with h | h
        · exact h
        · rw [hw, show k = hgt (min n.toNat 4096) from by have : hgtN n = hgt (min n.toNat 4096) := rfl; omega] at h1
          by_cases h0 : min n.toNat 4096 = 0
          · rw [h0, wid_zero] at h1; omega
          · rw [wid_top (by omega)] at h1; omega
      have HX := Lib.hid hx
      obtain ⟨q, hq⟩ : ∃ q, widN n (k : Int) = q := ⟨_, rfl⟩
      rw [hq] at HW h1
      have h1i : (1 : Int) < (q : Int) := by omega
      clear hw hk hx hq
      go_wp2_with (go_at_call 54; (with_reducible refine (HW.out).mono ?_); rintro e w1 ⟨rfl, rfl⟩)
      refine ⟨⟨trivial, k + 1, by first | rfl | go_num | (congr 1), HX.out⟩, by have := HH.out; have := HX.out; simp only [intOf]; omega⟩
    · have hx : k = hgtN n := by
        rcases Nat.lt_or_ge k (hgtN n) with h | h
        · rw [hw] at h1; exact absurd (wid_low h) h1
        · omega
      have HX := Lib.hid hx
      obtain ⟨q, hq⟩ : ∃ q, widN n (k : Int) = q := ⟨_, rfl⟩
      rw [hq] at HW h1
      have h1i : ¬ (1 : Int) < (q : Int) := by omega
      clear hw hk hx hq
      go_wp2_with (go_at_call 54; (with_reducible refine (HW.out).mono ?_); rintro e w1 ⟨rfl, rfl⟩)
      go_ret
      exact ⟨by rw [← HX.out]; rfl, rfl⟩
end Go.Proofs.YtddcceifblpmbaaDoor
