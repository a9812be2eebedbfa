/- Package u256: Shl and Shr, as numbers. (Boxes as Mem: hM.) -/
import Derived.Test.YtlfabchlblgmbaaDoorUSh
import Derived.Test.YtlfabchlblgmbaaDoorUSr
namespace Go.Proofs.YtlfabchlblgmbaaDoor
set_option linter.unusedVariables false
set_option linter.unusedSimpArgs false
open Go.RowKit

theorem pow2_le {a b : Nat} (h : a ≤ b) : (2 : Int) ^ a ≤ 2 ^ b := by
  obtain ⟨c, rfl⟩ := Nat.exists_eq_add_of_le h
  rw [Int.pow_add]
  have := Int.mul_le_mul_of_nonneg_left (show (1 : Int) ≤ 2 ^ c from two_pow_pos c) (Int.le_of_lt (two_pow_pos a))
  rw [Int.mul_one] at this
  exact this
theorem ww_pow : WW = 2 ^ 256 := by decide
/-- what is lost, from the length -/
theorem lost_iff {a0 a1 a2 a3 : Int} (ha : B4 a0 a1 a2 a3) (k : Nat) (hk : k < 256) : decide (256 < lenN a0 a1 a2 a3 + (k : Int)) = decide (WW ≤ N4 a0 a1 a2 a3 * 2 ^ k) := by
  obtain ⟨L, hL, hL1, hL2, hL3⟩ := len_holds ha
  apply decide_eq_decide.2
  rw [hL, ww_pow]
  have hp := two_pow_pos k
  constructor
  · intro h
    have h1 := Int.mul_le_mul_of_nonneg_right (hL3 (by omega)) (Int.le_of_lt hp)
    rw [← Int.pow_add] at h1
    refine Int.le_trans ?_ h1
    exact pow2_le (by omega)
  · intro h
    rcases Nat.lt_or_ge 256 (L + k) with h1 | h1
    · omega
    · exfalso
      have h2 := Int.mul_lt_mul_of_pos_right hL2 hp
      rw [← Int.pow_add] at h2
      have h3 : (2 : Int) ^ (L + k) ≤ 2 ^ 256 := pow2_le h1
      omega

set_option maxRecDepth 100000 in
set_option maxHeartbeats 1000000 in
theorem shl_big {a0 a1 a2 a3 : Int} (ha : B4 a0 a1 a2 a3) (n : Int) (hn : 256 ≤ n) (w : World) :
    Calls Tryd.prog 38 #[U4 a0 a1 a2 a3, .int .i64 n] w fun e w' => e = .returned (.tuple #[U4 0 0 0 0, .bool (!decide (N4 a0 a1 a2 a3 = 0))]) ∧ Below w.heap.size w w' := by
  have hE := neq_n ha b4_zero
  rw [n4_zero] at hE
  have hm : max n 0 = n := by omega
  clear ha
  obtain ⟨z, hz⟩ : ∃ z, decide (N4 a0 a1 a2 a3 = 0) = z := ⟨_, rfl⟩
  rw [hz] at hE ⊢
  clear hz
  go_enter Tryd.func38, Tryd.ntmps38
  go_wp2
  refine wp_plan (fun x => Mem x [(w.heap.size, [.int .u64 a0, .int .u64 a1, .int .u64 a2, .int .u64 a3])]) [4] [0, 1, 2, 3, 4, 5] (by kernel_rfl) (by kernel_rfl) (Mem.drew (Mem.skip (Mem.al (mem_nil w) _ _) _)) (fun hHeld => ?_)
  iterate 4 (refine wpT_take rfl (by rfl) (by rfl) (by intro w' hSw; (try dsimp only [Mem, cellsAt] at hSw); go_simp; (try with_reducible rfl)) (by assumption) ?_; (try simp only [Act.put, List.setIfInBounds_toArray, List.set_cons_zero, List.set_cons_succ]))
  (refine wpT_step rfl (by rfl) (fun K hK => ?_); go_simp)
  (refine hK.out _ _ _ (fun _ h => h) (Mem.drew (Mem.skip (Mem.al (mem_nil w) _ _) _)) (fun hHeld => ?_); clear hK; clear K; (try simp only [Act.put, List.setIfInBounds_toArray, List.set_cons_zero, List.set_cons_succ]))
  iterate 1 (refine wpT_take rfl (by rfl) (by rfl) (by intro w' hSw; (try dsimp only [Mem, cellsAt] at hSw); go_simp; (try with_reducible rfl)) (by assumption) ?_; (try simp only [Act.put, List.setIfInBounds_toArray, List.set_cons_zero, List.set_cons_succ]))
  (refine wpT_nil ?_)
  go_wp2
  refine bodyPost_ret (v := .tuple #[U4 0 0 0 0, .bool (!z)]) (by simp [results, Tryd.results38, go_sem]) rfl ?_
  exact ⟨rfl, by (repeat (first | exact Below.refl _ _ | refine Below.drew ?_ | refine bl_drewN ?_ _ | (refine Below.alloc ?_ (by first | exact Nat.le_refl _ | (simp; done) | (simp; omega)) _)))⟩
/-- moved up, by any number -/
theorem shl_n {a0 a1 a2 a3 s0 s1 s2 s3 : Int} (ha : B4 a0 a1 a2 a3) (hs : B4 s0 s1 s2 s3) (n : Int) (h : N4 s0 s1 s2 s3 = N4 a0 a1 a2 a3 * 2 ^ n.toNat % WW) (c : Bool) (hc : decide (WW ≤ N4 a0 a1 a2 a3 * 2 ^ n.toNat) = c) (w : World) :
    Calls Tryd.prog 38 #[U4 a0 a1 a2 a3, .int .i64 n] w fun e w' => e = .returned (.tuple #[U4 s0 s1 s2 s3, .bool c]) ∧ Below w.heap.size w w' := by
  subst hc
  have key : ∀ t0 t1 t2 t3 c : Int, B4 t0 t1 t2 t3 → N4 a0 a1 a2 a3 * 2 ^ n.toNat = N4 t0 t1 t2 t3 + WW * c → t0 = s0 ∧ t1 = s1 ∧ t2 = s2 ∧ t3 = s3 := by
    intro t0 t1 t2 t3 c ht hc
    refine ht.inj hs ?_
    rw [h, hc, Int.add_mul_emod_self_left]
    have := ht.nn
    exact (Int.emod_eq_of_lt this.1 this.2).symm
  rcases Int.lt_or_le n 256 with hn | hn
  · have hk : n.toNat < 256 := by omega
    have hn2 : n = (n.toNat : Int) ∨ (n ≤ 0 ∧ n.toNat = 0) := by omega
    have fin : ∀ e w', (∃ t0 t1 t2 t3 c : Int, e = Ending.returned (.tuple #[U4 t0 t1 t2 t3, .bool (decide (256 < lenN a0 a1 a2 a3 + (n.toNat : Int)))]) ∧ B4 t0 t1 t2 t3 ∧ N4 a0 a1 a2 a3 * 2 ^ n.toNat = N4 t0 t1 t2 t3 + WW * c ∧ Below w.heap.size w w') →
        e = .returned (.tuple #[U4 s0 s1 s2 s3, .bool (decide (WW ≤ N4 a0 a1 a2 a3 * 2 ^ n.toNat))]) ∧ Below w.heap.size w w' := by
      rintro e w' ⟨t0, t1, t2, t3, c, rfl, ht, hc, hb⟩
      obtain ⟨rfl, rfl, rfl, rfl⟩ := key _ _ _ _ _ ht hc
      exact ⟨by rw [lost_iff ha _ hk], hb⟩
    have hc : n.toNat / 64 = 0 ∨ n.toNat / 64 = 1 ∨ n.toNat / 64 = 2 ∨ n.toNat / 64 = 3 := by omega
    rcases hc with hc | hc | hc | hc
    · exact (shl_0 ha n n.toNat (n.toNat % 64) (by omega) (by omega) hn2 w).mono fin
    · exact (shl_1 ha n n.toNat (n.toNat % 64) (by omega) (by omega) hn2 w).mono fin
    · exact (shl_2 ha n n.toNat (n.toNat % 64) (by omega) (by omega) hn2 w).mono fin
    · exact (shl_3 ha n n.toNat (n.toNat % 64) (by omega) (by omega) hn2 w).mono fin
  · obtain ⟨m, hm⟩ : ∃ m, n.toNat = 256 + m := ⟨n.toNat - 256, by omega⟩
    have hp := two_pow_pos m
    have e1 : N4 a0 a1 a2 a3 * 2 ^ n.toNat = N4 0 0 0 0 + WW * (N4 a0 a1 a2 a3 * 2 ^ m) := by
      rw [hm, Int.pow_add, ← ww_pow, n4_zero]
      have : N4 a0 a1 a2 a3 * (WW * 2 ^ m) = WW * (N4 a0 a1 a2 a3 * 2 ^ m) := by ac_rfl
      omega
    obtain ⟨rfl, rfl, rfl, rfl⟩ := key _ _ _ _ _ b4_zero e1
    refine (shl_big ha n hn w).mono ?_
    rintro e w' ⟨rfl, hb⟩
    refine ⟨?_, hb⟩
    congr 6
    have hna := ha.nn
    rw [e1, n4_zero, Int.zero_add]
    by_cases hz : N4 a0 a1 a2 a3 = 0
    · rw [hz, Int.zero_mul, Int.mul_zero]
      decide
    · have h1 : 1 ≤ N4 a0 a1 a2 a3 * 2 ^ m := by
        have := Int.mul_le_mul (show 1 ≤ N4 a0 a1 a2 a3 by omega) (show (1 : Int) ≤ 2 ^ m from hp) (by decide) hna.1
        rw [Int.one_mul] at this
        exact this
      have h2 := Int.mul_le_mul_of_nonneg_left h1 (show 0 ≤ WW by decide)
      rw [Int.mul_one] at h2
      rw [decide_eq_false hz, decide_eq_true h2]
      rfl
theorem shl_ex {a0 a1 a2 a3 : Int} (ha : B4 a0 a1 a2 a3) (k : Nat) : ∃ s0 s1 s2 s3 : Int, B4 s0 s1 s2 s3 ∧ N4 s0 s1 s2 s3 = N4 a0 a1 a2 a3 * 2 ^ k % WW :=
  b4_of _ ⟨Int.emod_nonneg _ (by decide), Int.emod_lt_of_pos _ (by decide)⟩
theorem shr_ex {a0 a1 a2 a3 : Int} (ha : B4 a0 a1 a2 a3) (k : Nat) : ∃ s0 s1 s2 s3 : Int, B4 s0 s1 s2 s3 ∧ N4 s0 s1 s2 s3 = N4 a0 a1 a2 a3 / 2 ^ k :=
  b4_of _ ⟨Int.ediv_nonneg ha.nn.1 (Int.le_of_lt (two_pow_pos k)), Int.lt_of_le_of_lt (Int.ediv_le_self _ ha.nn.1) ha.nn.2⟩
/-- quotient and rest, as parts -/
theorem div_ex {a0 a1 a2 a3 b0 b1 b2 b3 : Int} (ha : B4 a0 a1 a2 a3) (hb : B4 b0 b1 b2 b3) : ∃ (q0 q1 q2 q3 r0 r1 r2 r3 : Int) (ok : Bool), B4 q0 q1 q2 q3 ∧ B4 r0 r1 r2 r3 ∧
    ((ok = true ∧ N4 b0 b1 b2 b3 ≠ 0 ∧ N4 q0 q1 q2 q3 = N4 a0 a1 a2 a3 / N4 b0 b1 b2 b3 ∧ N4 r0 r1 r2 r3 = N4 a0 a1 a2 a3 % N4 b0 b1 b2 b3) ∨ (ok = false ∧ N4 b0 b1 b2 b3 = 0 ∧ N4 q0 q1 q2 q3 = 0 ∧ N4 r0 r1 r2 r3 = 0)) := by
  by_cases h : N4 b0 b1 b2 b3 = 0
  · exact ⟨0, 0, 0, 0, 0, 0, 0, 0, false, b4_zero, b4_zero, .inr ⟨rfl, h, n4_zero, n4_zero⟩⟩
  · have hbn := hb.nn
    have han := ha.nn
    have h1 := Int.ediv_nonneg han.1 hbn.1
    have h2 := Int.ediv_le_self (N4 b0 b1 b2 b3) han.1
    have h3 := Int.emod_nonneg (N4 a0 a1 a2 a3) h
    have h4 := Int.emod_lt_of_pos (N4 a0 a1 a2 a3) (show 0 < N4 b0 b1 b2 b3 by omega)
    obtain ⟨q0, q1, q2, q3, hq, hqn⟩ := b4_of _ ⟨h1, Int.lt_of_le_of_lt h2 han.2⟩
    obtain ⟨r0, r1, r2, r3, hr, hrn⟩ := b4_of _ ⟨h3, Int.lt_trans h4 hbn.2⟩
    exact ⟨q0, q1, q2, q3, r0, r1, r2, r3, true, hq, hr, .inl ⟨rfl, h, hqn, hrn⟩⟩
end Go.Proofs.YtlfabchlblgmbaaDoor
