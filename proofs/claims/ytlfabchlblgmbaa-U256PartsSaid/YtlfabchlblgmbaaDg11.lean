/- florinref01: Shl. (hM) Merged: Dg10, Dg11. -/
import Derived.Test.YtlfabchlblgmbaaDg9
/- florinref01: Shl. (hM) -/
namespace Go.Proofs.Ytlfabchlblgmbaa
set_option linter.unusedVariables false
set_option linter.unusedSimpArgs false
open Go.RowKit

theorem dig_shl (A : Int) (m k : Nat) : digN (A * 2 ^ m) k = if m ≤ k then digN A (k - m) else 0 := by
  unfold digN
  by_cases h : m ≤ k
  · rw [if_pos h]
    obtain ⟨q, rfl⟩ : ∃ q, k = m + q := ⟨k - m, by omega⟩
    rw [Nat.add_sub_cancel_left, Int.pow_add, ← Int.ediv_ediv_of_nonneg (Int.le_of_lt (two_pow_pos m)), Int.mul_ediv_cancel _ (Int.ne_of_gt (two_pow_pos m))]
  · rw [if_neg h]
    obtain ⟨q, rfl⟩ : ∃ q, m = k + 1 + q := ⟨m - k - 1, by omega⟩
    have e : A * 2 ^ (k + 1 + q) = A * 2 ^ q * 2 * 2 ^ k := by
      rw [Int.pow_add, Int.pow_succ]
      ac_rfl
    rw [e, Int.mul_ediv_cancel _ (Int.ne_of_gt (two_pow_pos k))]
    omega
/-- the first j digits moved up -/
def upF (A : Int) (m j k : Nat) : Int := if m ≤ k ∧ k - m < j then digN A (k - m) else 0
theorem upF_b (A : Int) (m j k : Nat) : 0 ≤ upF A m j k ∧ upF A m j k < 2 := by
  unfold upF
  split
  · exact digN_b _ _
  · omega
theorem upF_set (A : Int) (m j : Nat) : setF (upF A m j) (j + m) (digN A j) = upF A m (j + 1) := by
  funext k
  unfold setF upF
  by_cases hk : k = j + m
  · subst hk
    rw [if_pos rfl, if_pos ⟨by omega, by omega⟩, Nat.add_sub_cancel]
  · rw [if_neg hk]
    by_cases h2 : m ≤ k ∧ k - m < j
    · rw [if_pos h2, if_pos ⟨h2.1, by omega⟩]
    · rw [if_neg h2, if_neg (by omega)]
theorem upF_skip (A : Int) (m j : Nat) (h : ¬ j + m < 256) : il (upF A m j) 256 = il (upF A m (j + 1)) 256 := il_congr fun k hk => by
  unfold upF
  by_cases h2 : m ≤ k ∧ k - m < j
  · rw [if_pos h2, if_pos ⟨h2.1, by omega⟩]
  · rw [if_neg h2, if_neg (by omega)]
theorem sum_up {A : Int} (h : 0 ≤ A) (m : Nat) : sumD (upF A m 256) 256 = A * 2 ^ m % WW := by
  rw [sumD_congr 256 (g := digN (A * 2 ^ m)) (fun k hk => by
    rw [dig_shl]
    unfold upF
    by_cases h2 : m ≤ k
    · rw [if_pos h2, if_pos ⟨h2, by omega⟩]
    · rw [if_neg h2, if_neg (by omega)]), sum_dig _ (Int.mul_nonneg h (Int.le_of_lt (two_pow_pos m))), show (2 : Int) ^ 256 = WW by decide]
/-- is a digit lost, of the first j -/
def lostN (A : Int) (m : Nat) : Nat → Bool
  | 0 => false
  | j + 1 => lostN A m j || (decide (¬ j + m < 256) && (digN A j == 1))
theorem lost_sum (A : Int) (m t : Nat) (ht : ∀ j : Nat, j + m < 256 ↔ j < t) : ∀ j, (j ≤ t → lostN A m j = false) ∧ (t ≤ j → sumD (digN A) t ≤ sumD (digN A) j ∧ (lostN A m j = true ↔ sumD (digN A) t < sumD (digN A) j))
  | 0 => ⟨fun _ => rfl, fun h => by
    have : t = 0 := by omega
    subst this
    exact ⟨Int.le_refl _, by simp [lostN]⟩⟩
  | j + 1 => by
    obtain ⟨i1, i2⟩ := lost_sum A m t ht j
    have hd := digN_b A j
    have hp := two_pow_pos j
    have hs : sumD (digN A) (j + 1) = sumD (digN A) j + digN A j * 2 ^ j := rfl
    have hl : lostN A m (j + 1) = (lostN A m j || (decide (¬ j + m < 256) && (digN A j == 1))) := rfl
    have hj := ht j
    by_cases hjt : j < t
    · have h1 : lostN A m (j + 1) = false := by
        rw [hl, i1 (by omega), decide_eq_false (by omega)]
        rfl
      refine ⟨fun _ => h1, fun h => ?_⟩
      have : t = j + 1 := by omega
      subst this
      exact ⟨Int.le_refl _, by rw [h1]; simp⟩
    · obtain ⟨k1, k2⟩ := i2 (by omega)
      refine ⟨fun h => by omega, fun _ => ?_⟩
      have hdc : decide (¬ j + m < 256) = true := decide_eq_true (by omega)
      rw [hl, hdc, hs]
      have h01 : digN A j = 0 ∨ digN A j = 1 := by omega
      rcases h01 with h | h <;> rw [h]
      · simp only [Int.zero_mul, Int.add_zero]
        exact ⟨k1, by simpa using k2⟩
      · simp only [Int.one_mul]
        exact ⟨by omega, by simp; omega⟩
theorem lost_is {A : Int} (h : 0 ≤ A ∧ A < WW) (m : Nat) : lostN A m 256 = decide (WW ≤ A * 2 ^ m) := by
  have hp := two_pow_pos m
  obtain ⟨t, ht0⟩ : ∃ t, 256 - m = t := ⟨_, rfl⟩
  have hl := (lost_sum A m t (fun j => by omega) 256).2 (by omega)
  rw [sum_dig A h.1 256, sum_dig A h.1 t, show (2 : Int) ^ 256 = WW by decide, Int.emod_eq_of_lt h.1 h.2] at hl
  have hpt := two_pow_pos t
  have e1 : A % 2 ^ t < A ↔ 2 ^ t ≤ A := by
    have h1 := Int.emod_lt_of_pos A hpt
    refine ⟨fun h2 => ?_, fun h2 => by omega⟩
    rcases Int.lt_or_le A (2 ^ t) with h3 | h3
    · rw [Int.emod_eq_of_lt h.1 h3] at h2
      omega
    · exact h3
  have e2 : 2 ^ t ≤ A ↔ WW ≤ A * 2 ^ m := by
    rcases Nat.lt_or_ge 256 m with hm | hm
    · have : t = 0 := by omega
      subst this
      have hw : WW ≤ 2 ^ m := by rw [show WW = (2 : Int) ^ 256 by decide]; exact pow2_le (by omega)
      refine ⟨fun h2 => ?_, fun h2 => ?_⟩
      · have := Int.mul_le_mul_of_nonneg_right (show (1 : Int) ≤ A by simpa using h2) (Int.le_of_lt hp)
        omega
      · rcases Int.lt_or_le A 1 with h3 | h3
        · have : A = 0 := by omega
          rw [this, Int.zero_mul] at h2
          exact absurd h2 (by decide)
        · simpa using h3
    · have hw : WW = 2 ^ t * 2 ^ m := by
        rw [← Int.pow_add, show t + m = 256 by omega]
        decide
      rw [hw]
      exact ⟨fun h2 => Int.mul_le_mul_of_nonneg_right h2 (Int.le_of_lt hp), fun h2 => Int.le_of_mul_le_mul_right h2 hp⟩
  have e3 := hl.2.trans (e1.trans e2)
  by_cases hd : WW ≤ A * 2 ^ m
  · rw [decide_eq_true hd]; exact e3.2 hd
  · rw [decide_eq_false hd]
    cases hc : lostN A m 256 with
    | false => rfl
    | true => exact absurd (e3.1 hc) hd
end Go.Proofs.Ytlfabchlblgmbaa

/- florinref01: Shl, the walk. (hM) -/
namespace Go.Proofs.Ytlfabchlblgmbaa
open Go.RowKit

def ShlRel (w : World) (gx gy : Nat) (A : Int) (m : Nat) (b i : Value) (wr : World) : Prop :=
  ∃ j : Nat, j ≤ 256 ∧ b = .bool (lostN A m j) ∧ i = .int .i64 j ∧ Below w.heap.size w wr ∧
    Mem wr [(gy, il (upF A m j) 256), (gx, il (digN A) 256), (w.heap.size + 1, [.int .u64 0, .int .u64 0, .int .u64 0, .int .u64 0])]

set_option maxRecDepth 100000 in
set_option maxHeartbeats 4000000 in
theorem shlD_m {a0 a1 a2 a3 s0 s1 s2 s3 : Int} (ha : B4 a0 a1 a2 a3) (hs : B4 s0 s1 s2 s3) (n : Int) (m : Nat) (hm1 : (if 0 < n then n else 0) = (m : Int)) (hm2 : max n 0 = (m : Int)) (h : N4 s0 s1 s2 s3 = N4 a0 a1 a2 a3 * 2 ^ m % WW) (c : Bool) (hc : decide (WW ≤ N4 a0 a1 a2 a3 * 2 ^ m) = c) (w : World) :
    Calls Try.prog 27 #[U4 a0 a1 a2 a3, .int .i64 n] w fun e w' => e = .returned (.tuple #[U4 s0 s1 s2 s3, .bool c]) ∧ Below w.heap.size w w' := by
  have han := ha.nn
  have hD1 := fun w => digits_any ha w
  obtain ⟨A, hA⟩ : ∃ A, N4 a0 a1 a2 a3 = A := ⟨_, rfl⟩
  rw [hA] at han hD1 h hc
  have HD1 := Lib.hid hD1
  have HNum := Lib.hid (fun w => numD_any (upF A m 256) (upF_b A m 256) hs (by rw [sum_up han.1]; exact h) w)
  have HLost := Lib.hid ((lost_is han m).trans hc)
  clear hD1 han hA h hs ha hc
  have hB := Below.refl w.heap.size w
  have hM := Lib.hid (mem_nil w)
  have hF : True := trivial
  have hZD := zeroD
  go_enter Try.func27, Try.ntmps27
  go_wp2_with (first | (go_at_call 45; ((with_reducible refine (HD1.out _).mono ?_); rintro e w1 ⟨rfl, hb⟩; have hB : Below w.heap.size w w1 := (by refine bl_then ?_ hb; (repeat (first | exact hB | refine bl_al ?_ _ | refine Below.setCell ?_ (by first | exact hgs | exact Nat.le_succ_of_le hgs | exact hgs2 | exact hgs3) _ | refine Below.drew ?_ | refine bl_drewN ?_ _))); (first | with_reducible have hM2 := Mem.later hb (hM.out) | with_reducible have hM2 := Mem.later hb (Mem.al (hM.out) _ _) | with_reducible have hM2 := Mem.later hb (Mem.al (Mem.al (hM.out) _ _) _ _) | with_reducible have hM2 := Mem.later hb (Mem.al (Mem.al (Mem.al (hM.out) _ _) _ _) _ _) | with_reducible have hM2 := Mem.later hb (Mem.al (Mem.al (Mem.al (Mem.al (hM.out) _ _) _ _) _ _) _ _) | with_reducible have hM2 := Mem.later hb (Mem.drew (hM.out)) | with_reducible have hM2 := Mem.later hb (Mem.drew (Mem.al (hM.out) _ _)) | with_reducible have hM2 := Mem.later hb (Mem.al (Mem.drew (hM.out)) _ _) | with_reducible have hM2 := Mem.later hb (Mem.al (Mem.drew (Mem.al (hM.out) _ _)) _ _) | with_reducible have hM2 := Mem.later hb (Mem.drew (Mem.al (Mem.al (hM.out) _ _) _ _)) | with_reducible have hM2 := Mem.later hb (Mem.al (Mem.al (Mem.drew (hM.out)) _ _) _ _) | with_reducible have hM2 := Mem.later hb (Mem.drew (Mem.drew (hM.out))) | with_reducible have hM2 := Mem.later hb (Mem.drew (Mem.al (Mem.drew (hM.out)) _ _)) | with_reducible have hM2 := Mem.later hb (Mem.drew (Mem.al (Mem.al (Mem.al (hM.out) _ _) _ _) _ _)) | with_reducible have hM2 := Mem.later hb (Mem.al (Mem.al (Mem.drew (Mem.al (hM.out) _ _)) _ _) _ _) | with_reducible have hM2 := Mem.later hb (Mem.drew (Mem.al (Mem.drew (Mem.al (hM.out) _ _)) _ _)) | with_reducible have hM2 := Mem.later hb (Mem.al (Mem.al (Mem.al (Mem.al (Mem.al (hM.out) _ _) _ _) _ _) _ _) _ _) | with_reducible have hM2 := Mem.later hb (Mem.al (Mem.al (Mem.al (Mem.al (Mem.al (Mem.al (hM.out) _ _) _ _) _ _) _ _) _ _) _ _) | with_reducible have hM2 := Mem.later hb (Mem.al (Mem.al (Mem.al (Mem.al (Mem.al (Mem.al (Mem.al (hM.out) _ _) _ _) _ _) _ _) _ _) _ _) _ _) | with_reducible have hM2 := Mem.later hb (Mem.al (Mem.al (Mem.al (Mem.al (Mem.al (Mem.al (Mem.al (Mem.al (hM.out) _ _) _ _) _ _) _ _) _ _) _ _) _ _) _ _)); (try simp only [World.size_alloc, size_drew] at hM2); clear hM; have hM := Lib.hid hM2; clear hF; have hF := hM2; (try simp only [Mem, cellsAt, World.size_alloc, Nat.zero_add, Nat.reduceAdd, and_true] at hF); clear hM2; clear hb; have hlt1 := Lib.hid hF.1.1)) | (refine wpList_store_newD rfl (.tmp 6) (.tmp 13) _ rfl rfl (digN A) rfl rfl hM.out ?_; intro W hMW hbW; have hBW := bl_then hB hbW; clear hM hF hB; have hM := Lib.hid hMW; have hF := hMW; (simp only [Mem, cellsAt, Nat.zero_add, Nat.reduceAdd, and_true] at hF); have hB := hBW; clear hMW hbW hBW))
  obtain ⟨gx, hgx⟩ : ∃ g, w1.heap.size = g := ⟨_, rfl⟩
  obtain ⟨gy, hgy⟩ : ∃ g, W.heap.size = g := ⟨_, rfl⟩
  have hlt2 := hF.1.1
  rw [hgx] at hlt1 hM hlt2
  rw [hgy] at hlt2
  simp only [hgx, hgy]
  have HM0 := hM
  have HL2 := Lib.hid hlt2
  have HY := Lib.hid hgy
  clear hM hF hgx hgy hlt2
  go_loopw [8, 9] (fun b i wr => ShlRel w gx gy A m b i wr) (fun _ i _ => 256 - (intOf i).toNat)
  case atStart =>
    have h1 := Mem.al HM0.out (il (fun _ => 0) 256) 77
    rw [HY.out] at h1
    refine ⟨0, Nat.zero_le _, rfl, rfl, bl_al hB _, ?_, h1.2.1, h1.2.2.1, trivial⟩
    rw [il_congr (g := fun _ => 0) (fun k _ => by unfold upF; rw [if_neg (by omega)])]
    exact h1.1
  case round =>
    obtain ⟨j, hj, rfl, rfl, hB, hm⟩ := hrel
    have hgs : w.heap.size ≤ gy := by have := hlt1.out; have := HL2.out; omega
    have D : Hid (∀ p ∈ [(gx, il (digN A) 256), (w.heap.size + 1, [Value.int .u64 0, .int .u64 0, .int .u64 0, .int .u64 0])], p.1 ≠ gy) := by
      have := hlt1.out
      have := HL2.out
      intro p hp
      simp at hp
      rcases hp with rfl | rfl <;> (dsimp only; omega)
    by_cases hlt : j < 256
    · have hj0 : (j : Int) < 256 := by omega
      have hlo : lostN A m (j + 1) = (lostN A m j || (decide (¬ j + m < 256) && (digN A j == 1))) := rfl
      have hd := digN_b A j
      obtain ⟨x, hx⟩ : ∃ x, digN A j = x := ⟨_, rfl⟩
      have hcx : wr.cell? ⟨gx, j, none⟩ = some (.int .i64 x) := by
        rw [← hx]
        exact cellsAt_get hm.2.1.2.2 (il_get (digN A) 256 j hlt)
      rw [hx] at hd hlo
      by_cases hjm : j + m < 256
      · obtain ⟨t, ht⟩ : ∃ t, j + m = t := ⟨_, rfl⟩
        have hm3 : (m : Int) < 256 := by omega
        have ht2 : (t : Int) < 256 := by omega
        have ht3 : t < 256 := by omega
        have hjt : (j : Int) + (m : Int) = (t : Int) := by omega
        have hwt : IntKind.i64.wrap (t : Int) = (t : Int) := by rw [IntKind.wrap_i64]; omega
        have hcy : wr.cell? ⟨gy, t, none⟩ = some (.int .i64 (upF A m j t)) := cellsAt_get hm.1.2.2 (il_get (upF A m j) 256 t ht3)
        have hfz := hm.1.2.1 t
        have hlo2 : lostN A m j = lostN A m (j + 1) := by rw [hlo, decide_eq_false (by omega)]; simp
        have HX := Lib.hid (And.intro hm (And.intro (show setF (upF A m j) t x = upF A m (j + 1) by rw [← hx, ← ht]; exact upF_set A m j) hlo2))
        clear hm hx ht hjm hlo hlo2 hd
        go_wp2
        refine ⟨⟨j + 1, by omega, by rw [HX.out.2.2], by go_num, hB.setCell (by show w.heap.size ≤ gy; exact hgs) _, ?_⟩, by simp [intOf]; omega⟩
        have h1 := Mem.setN (k := t) (v := .int .i64 x) (b := gy) D.out HX.out.1
        rw [il_set, HX.out.2.1] at h1
        exact h1
      · have hnew : il (upF A m j) 256 = il (upF A m (j + 1)) 256 := upF_skip A m j hjm
        rw [decide_eq_true hjm, Bool.true_and] at hlo
        have HX := Lib.hid (And.intro hm (And.intro hnew hlo))
        have hmm : (¬ (m : Int) < 256) ∨ ((m : Int) < 256 ∧ ¬ (j : Int) + (m : Int) < 256 ∧ IntKind.i64.wrap ((j : Int) + (m : Int)) = (j : Int) + (m : Int)) := by
          by_cases h : (m : Int) < 256
          · exact .inr ⟨h, by omega, by rw [IntKind.wrap_i64]; omega⟩
          · exact .inl h
        obtain ⟨l, hl⟩ : ∃ l, lostN A m j = l := ⟨_, rfl⟩
        rw [hl] at HX
        simp only [hl]
        have h01 : x = 0 ∨ x = 1 := by omega
        clear hm hx hjm hlo hd hnew hl
        rcases hmm with hm3 | ⟨hm3, hjt, hwt⟩
        all_goals
          cases l
          all_goals
            rcases h01 with rfl | rfl
            all_goals
              go_wp2
              refine ⟨⟨j + 1, by omega, by rw [HX.out.2.2]; rfl, by go_num, by (repeat (first | exact hB | refine bl_al ?_ _ | refine Below.setCell ?_ (by first | exact hgs | exact Nat.le_succ_of_le hgs | exact hgs2 | exact hgs3) _ | refine Below.drew ?_ | refine bl_drewN ?_ _)), ?_⟩, by simp [intOf]; omega⟩
              rw [← HX.out.2.1]
              exact HX.out.1
    · have hjn : j = 256 := by omega
      subst hjn
      have hM := Lib.hid hm
      have hF := hm
      simp only [Mem, cellsAt, Nat.zero_add, Nat.reduceAdd, and_true] at hF
      rw [HLost.out]
      clear hm hgs D
      have hgs2 : w.heap.size ≤ w.heap.size + 1 := by omega
      go_wp2_with (first | (refine Go.wpList_load_mid rfl 77 (.tmp 7) rfl gy 0 rfl (il (upF A m 256) 256) _ (rangeAt_of hM.out.1.2.2) Try.underlying77 rfl (by rw [il_len]; kernel_rfl) ?_) | (go_at_call 46; (with_reducible refine (HNum.out _).mono ?_); rintro e w1 ⟨rfl, hb⟩; have hB : Below w.heap.size w w1 := (by refine bl_then ?_ hb; (repeat (first | exact hB | refine bl_al ?_ _ | refine Below.setCell ?_ (by first | exact hgs | exact Nat.le_succ_of_le hgs | exact hgs2 | exact hgs3) _ | refine Below.drew ?_ | refine bl_drewN ?_ _))); (first | with_reducible have hM2 := Mem.later hb (hM.out) | with_reducible have hM2 := Mem.later hb (Mem.al (hM.out) _ _) | with_reducible have hM2 := Mem.later hb (Mem.al (Mem.al (hM.out) _ _) _ _) | with_reducible have hM2 := Mem.later hb (Mem.al (Mem.al (Mem.al (hM.out) _ _) _ _) _ _) | with_reducible have hM2 := Mem.later hb (Mem.al (Mem.al (Mem.al (Mem.al (hM.out) _ _) _ _) _ _) _ _) | with_reducible have hM2 := Mem.later hb (Mem.drew (hM.out)) | with_reducible have hM2 := Mem.later hb (Mem.drew (Mem.al (hM.out) _ _)) | with_reducible have hM2 := Mem.later hb (Mem.al (Mem.drew (hM.out)) _ _) | with_reducible have hM2 := Mem.later hb (Mem.al (Mem.drew (Mem.al (hM.out) _ _)) _ _) | with_reducible have hM2 := Mem.later hb (Mem.drew (Mem.al (Mem.al (hM.out) _ _) _ _)) | with_reducible have hM2 := Mem.later hb (Mem.al (Mem.al (Mem.drew (hM.out)) _ _) _ _) | with_reducible have hM2 := Mem.later hb (Mem.drew (Mem.drew (hM.out))) | with_reducible have hM2 := Mem.later hb (Mem.drew (Mem.al (Mem.drew (hM.out)) _ _)) | with_reducible have hM2 := Mem.later hb (Mem.drew (Mem.al (Mem.al (Mem.al (hM.out) _ _) _ _) _ _)) | with_reducible have hM2 := Mem.later hb (Mem.al (Mem.al (Mem.drew (Mem.al (hM.out) _ _)) _ _) _ _) | with_reducible have hM2 := Mem.later hb (Mem.drew (Mem.al (Mem.drew (Mem.al (hM.out) _ _)) _ _)) | with_reducible have hM2 := Mem.later hb (Mem.al (Mem.al (Mem.al (Mem.al (Mem.al (hM.out) _ _) _ _) _ _) _ _) _ _) | with_reducible have hM2 := Mem.later hb (Mem.al (Mem.al (Mem.al (Mem.al (Mem.al (Mem.al (hM.out) _ _) _ _) _ _) _ _) _ _) _ _) | with_reducible have hM2 := Mem.later hb (Mem.al (Mem.al (Mem.al (Mem.al (Mem.al (Mem.al (Mem.al (hM.out) _ _) _ _) _ _) _ _) _ _) _ _) _ _) | with_reducible have hM2 := Mem.later hb (Mem.al (Mem.al (Mem.al (Mem.al (Mem.al (Mem.al (Mem.al (Mem.al (hM.out) _ _) _ _) _ _) _ _) _ _) _ _) _ _) _ _)); (try simp only [World.size_alloc, size_drew] at hM2); clear hM; have hM := Lib.hid hM2; clear hF; have hF := hM2; (try simp only [Mem, cellsAt, World.size_alloc, Nat.zero_add, Nat.reduceAdd, and_true] at hF); clear hM2; clear hb))
      refine bodyPost_ret (v := .tuple #[U4 s0 s1 s2 s3, .bool c]) (by simp [results, Try.results27, go_sem, hF]) rfl ?_
      exact ⟨rfl, by (repeat (first | exact hB | refine bl_al ?_ _ | refine Below.setCell ?_ (by first | exact hgs | exact Nat.le_succ_of_le hgs | exact hgs2 | exact hgs3) _ | refine Below.drew ?_ | refine bl_drewN ?_ _))⟩
theorem shlD_any {a0 a1 a2 a3 s0 s1 s2 s3 : Int} (ha : B4 a0 a1 a2 a3) (hs : B4 s0 s1 s2 s3) (n : Int) (h : N4 s0 s1 s2 s3 = N4 a0 a1 a2 a3 * 2 ^ n.toNat % WW) (c : Bool) (hc : decide (WW ≤ N4 a0 a1 a2 a3 * 2 ^ n.toNat) = c) (w : World) :
    Calls Try.prog 27 #[U4 a0 a1 a2 a3, .int .i64 n] w fun e w' => e = .returned (.tuple #[U4 s0 s1 s2 s3, .bool c]) ∧ Below w.heap.size w w' :=
  shlD_m ha hs n n.toNat (by split <;> omega) (by omega) h c hc w
end Go.Proofs.Ytlfabchlblgmbaa
