/- Package u256: Shr, the walks (made by gen_sh.py). -/
import Derived.Test.YtlfabchlblgmbaaUSh1
namespace Go.Proofs.Ytlfabchlblgmbaa
set_option linter.unusedVariables false
set_option linter.unusedSimpArgs false
open Go.RowKit

set_option maxRecDepth 100000 in
set_option maxHeartbeats 2000000 in
theorem shr_0 {a0 a1 a2 a3 : Int} (ha : B4 a0 a1 a2 a3) (n : Int) (k r : Nat) (hr : r < 64) (hkr : k = 64 * 0 + r) (hn : n = k ∨ (n ≤ 0 ∧ k = 0)) (w : World) :
    Calls Try.prog 28 #[U4 a0 a1 a2 a3, .int .i64 n] w fun e w' => ∃ s0 s1 s2 s3 : Int, e = .returned (U4 s0 s1 s2 s3) ∧ B4 s0 s1 s2 s3 ∧ N4 s0 s1 s2 s3 = N4 a0 a1 a2 a3 / 2 ^ k ∧ Below w.heap.size w w' := by
  obtain ⟨ep, he⟩ : ∃ ep, r + ep = 64 := ⟨64 - r, by omega⟩
  obtain ⟨l0, g0, L0, G0, e0, bl0, bg0, o0⟩ := sh_up a0 ep r ha.h0 (by omega)
  obtain ⟨l1, g1, L1, G1, e1, bl1, bg1, o1⟩ := sh_up a1 ep r ha.h1 (by omega)
  obtain ⟨l2, g2, L2, G2, e2, bl2, bg2, o2⟩ := sh_up a2 ep r ha.h2 (by omega)
  obtain ⟨l3, g3, L3, G3, e3, bl3, bg3, o3⟩ := sh_up a3 ep r ha.h3 (by omega)
  have O1 := (o1 g0 bg0).2
  have O2 := (o2 g1 bg1).2
  have O3 := (o3 g2 bg2).2
  have hpe : (2 : Int) ^ ep ≤ WI := by
    rw [WI_eq, show (18446744073709551616 : Int) = 2 ^ 64 by decide, ← he, Int.pow_add]
    have := Int.mul_le_mul_of_nonneg_right (show 1 ≤ (2 : Int) ^ r from two_pow_pos r) (Int.le_of_lt (two_pow_pos ep))
    rw [Int.one_mul] at this
    exact this
  have Z0 := or_zero g0 ⟨bg0.1, by omega⟩
  have Z1 := or_zero g1 ⟨bg1.1, by omega⟩
  have Z2 := or_zero g2 ⟨bg2.1, by omega⟩
  have Z3 := or_zero g3 ⟨bg3.1, by omega⟩
  have hm : max n 0 = (k : Int) := by omega
  have hx : (64 : Int) - (r : Int) = (ep : Int) := by omega
  have hk256 : (k : Int) < 256 := by omega
  have hq : (k : Int).tdiv 64 = 0 := by rw [Int.tdiv_eq_ediv_of_nonneg (by omega)]; omega
  have htm : (k : Int).tmod 64 = (r : Int) := by rw [Int.tmod_eq_emod_of_nonneg (by omega)]; omega
  have hw0 : IntKind.i64.wrap 0 = 0 := by decide
  have hw1 : IntKind.i64.wrap 1 = 1 := by decide
  have hw2 : IntKind.i64.wrap 2 = 2 := by decide
  have hw3 : IntKind.i64.wrap 3 = 3 := by decide
  have hwr : IntKind.i64.wrap (r : Int) = (r : Int) := wrap_small _ (by omega) (by omega)
  have hwe : IntKind.i64.wrap (ep : Int) = (ep : Int) := wrap_small _ (by omega) (by omega)
  have HX : Hid (B4 (l1 + g0) (l2 + g1) (l3 + g2) (g3) ∧ N4 (l1 + g0) (l2 + g1) (l3 + g2) (g3) = N4 a0 a1 a2 a3 / 2 ^ k) := by
    have hp := two_pow_pos ep
    refine ⟨⟨?_, ?_, ?_, ?_⟩, ?_⟩
    · unfold WI at *; omega
    · unfold WI at *; omega
    · unfold WI at *; omega
    · unfold WI at *; omega
    · have z : (0 : Int) * 2 ^ ep = 0 + WI * 0 := by simp
      have h := down1 a0 a1 a2 a3 r ep he l0 l1 l2 l3 g0 g1 g2 g3 (by omega) (by have := bl0.2; omega) e0 e1 e2 e3
      rw [pow_split k 0 r hkr, show (2 : Int) ^ (64 * 0) = 1 by decide, Int.one_mul, h]
  clear o0 o1 o2 o3 ha e0 e1 e2 e3 bl0 bl1 bl2 bl3 bg0 bg1 bg2 bg3 hkr hpe
  go_enter Try.func28, Try.ntmps28
  go_wp2
  refine wp_loop_rounds 5 ?_
  rw [rounds_succ]
  go_wp2
  refine wp_plan (fun x => x.cell? ⟨w.heap.size, 0, none⟩ = some (.int .u64 a0)) [4, 12] [0, 1, 2, 3, 5, 6, 7, 8, 9, 4, 10, 11, 12] (by kernel_rfl) (by kernel_rfl) (by go_simp) (fun hHeld => ?_)
  iterate 9 (refine wpT_take rfl (by rfl) (by rfl) (by intro w' hSw; (try dsimp only at hSw); go_simp; (try with_reducible rfl)) (by assumption) ?_; (try simp only [Act.put, List.setIfInBounds_toArray, List.set_cons_zero, List.set_cons_succ]))
  (refine wpT_step rfl (by rfl) (fun K hK => ?_); go_simp)
  (refine hK.out _ _ _ (fun _ h => h) (hHeld) (fun hHeld => ?_); clear hK; clear K; (try simp only [Act.put, List.setIfInBounds_toArray, List.set_cons_zero, List.set_cons_succ]))
  iterate 2 (refine wpT_take rfl (by rfl) (by rfl) (by intro w' hSw; (try dsimp only at hSw); go_simp; (try with_reducible rfl)) (by assumption) ?_; (try simp only [Act.put, List.setIfInBounds_toArray, List.set_cons_zero, List.set_cons_succ]))
  (refine wpT_step rfl (by rfl) (fun K hK => ?_); go_simp)
  (refine hK.out _ _ _ (fun _ h => h) (by go_simp) (fun hHeld => ?_); clear hK; clear K; (try simp only [Act.put, List.setIfInBounds_toArray, List.set_cons_zero, List.set_cons_succ]))
  (refine wpT_nil ?_)
  clear hHeld
  go_wp2
  rw [rounds_succ]
  go_wp2
  refine wp_plan (fun x => x.cell? ⟨w.heap.size, 1, none⟩ = some (.int .u64 a1)) [4, 12] [0, 1, 2, 3, 5, 6, 7, 8, 9, 4, 10, 11, 12] (by kernel_rfl) (by kernel_rfl) (by go_simp) (fun hHeld => ?_)
  iterate 9 (refine wpT_take rfl (by rfl) (by rfl) (by intro w' hSw; (try dsimp only at hSw); go_simp; (try with_reducible rfl)) (by assumption) ?_; (try simp only [Act.put, List.setIfInBounds_toArray, List.set_cons_zero, List.set_cons_succ]))
  (refine wpT_step rfl (by rfl) (fun K hK => ?_); go_simp)
  (refine hK.out _ _ _ (fun _ h => h) (hHeld) (fun hHeld => ?_); clear hK; clear K; (try simp only [Act.put, List.setIfInBounds_toArray, List.set_cons_zero, List.set_cons_succ]))
  iterate 2 (refine wpT_take rfl (by rfl) (by rfl) (by intro w' hSw; (try dsimp only at hSw); go_simp; (try with_reducible rfl)) (by assumption) ?_; (try simp only [Act.put, List.setIfInBounds_toArray, List.set_cons_zero, List.set_cons_succ]))
  (refine wpT_step rfl (by rfl) (fun K hK => ?_); go_simp)
  (refine hK.out _ _ _ (fun _ h => h) (by go_simp) (fun hHeld => ?_); clear hK; clear K; (try simp only [Act.put, List.setIfInBounds_toArray, List.set_cons_zero, List.set_cons_succ]))
  (refine wpT_nil ?_)
  clear hHeld
  go_wp2
  refine wp_plan (fun x => x.cell? ⟨w.heap.size, 1, none⟩ = some (.int .u64 a1)) [5, 14] [0, 1, 2, 3, 4, 6, 7, 8, 9, 10, 11, 5, 12, 13, 14] (by kernel_rfl) (by kernel_rfl) (by go_simp) (fun hHeld => ?_)
  iterate 11 (refine wpT_take rfl (by rfl) (by rfl) (by intro w' hSw; (try dsimp only at hSw); go_simp; (try with_reducible rfl)) (by assumption) ?_; (try simp only [Act.put, List.setIfInBounds_toArray, List.set_cons_zero, List.set_cons_succ]))
  (refine wpT_step rfl (by rfl) (fun K hK => ?_); go_simp)
  (refine hK.out _ _ _ (fun _ h => h) (hHeld) (fun hHeld => ?_); clear hK; clear K; (try simp only [Act.put, List.setIfInBounds_toArray, List.set_cons_zero, List.set_cons_succ]))
  iterate 2 (refine wpT_take rfl (by rfl) (by rfl) (by intro w' hSw; (try dsimp only at hSw); go_simp; (try with_reducible rfl)) (by assumption) ?_; (try simp only [Act.put, List.setIfInBounds_toArray, List.set_cons_zero, List.set_cons_succ]))
  (refine wpT_step rfl (by rfl) (fun K hK => ?_); go_simp)
  (refine hK.out _ _ _ (fun _ h => h) (by go_simp) (fun hHeld => ?_); clear hK; clear K; (try simp only [Act.put, List.setIfInBounds_toArray, List.set_cons_zero, List.set_cons_succ]))
  (refine wpT_nil ?_)
  clear hHeld
  go_wp2
  rw [rounds_succ]
  go_wp2
  refine wp_plan (fun x => x.cell? ⟨w.heap.size, 2, none⟩ = some (.int .u64 a2)) [4, 12] [0, 1, 2, 3, 5, 6, 7, 8, 9, 4, 10, 11, 12] (by kernel_rfl) (by kernel_rfl) (by go_simp) (fun hHeld => ?_)
  iterate 9 (refine wpT_take rfl (by rfl) (by rfl) (by intro w' hSw; (try dsimp only at hSw); go_simp; (try with_reducible rfl)) (by assumption) ?_; (try simp only [Act.put, List.setIfInBounds_toArray, List.set_cons_zero, List.set_cons_succ]))
  (refine wpT_step rfl (by rfl) (fun K hK => ?_); go_simp)
  (refine hK.out _ _ _ (fun _ h => h) (hHeld) (fun hHeld => ?_); clear hK; clear K; (try simp only [Act.put, List.setIfInBounds_toArray, List.set_cons_zero, List.set_cons_succ]))
  iterate 2 (refine wpT_take rfl (by rfl) (by rfl) (by intro w' hSw; (try dsimp only at hSw); go_simp; (try with_reducible rfl)) (by assumption) ?_; (try simp only [Act.put, List.setIfInBounds_toArray, List.set_cons_zero, List.set_cons_succ]))
  (refine wpT_step rfl (by rfl) (fun K hK => ?_); go_simp)
  (refine hK.out _ _ _ (fun _ h => h) (by go_simp) (fun hHeld => ?_); clear hK; clear K; (try simp only [Act.put, List.setIfInBounds_toArray, List.set_cons_zero, List.set_cons_succ]))
  (refine wpT_nil ?_)
  clear hHeld
  go_wp2
  refine wp_plan (fun x => x.cell? ⟨w.heap.size, 2, none⟩ = some (.int .u64 a2)) [5, 14] [0, 1, 2, 3, 4, 6, 7, 8, 9, 10, 11, 5, 12, 13, 14] (by kernel_rfl) (by kernel_rfl) (by go_simp) (fun hHeld => ?_)
  iterate 11 (refine wpT_take rfl (by rfl) (by rfl) (by intro w' hSw; (try dsimp only at hSw); go_simp; (try with_reducible rfl)) (by assumption) ?_; (try simp only [Act.put, List.setIfInBounds_toArray, List.set_cons_zero, List.set_cons_succ]))
  (refine wpT_step rfl (by rfl) (fun K hK => ?_); go_simp)
  (refine hK.out _ _ _ (fun _ h => h) (hHeld) (fun hHeld => ?_); clear hK; clear K; (try simp only [Act.put, List.setIfInBounds_toArray, List.set_cons_zero, List.set_cons_succ]))
  iterate 2 (refine wpT_take rfl (by rfl) (by rfl) (by intro w' hSw; (try dsimp only at hSw); go_simp; (try with_reducible rfl)) (by assumption) ?_; (try simp only [Act.put, List.setIfInBounds_toArray, List.set_cons_zero, List.set_cons_succ]))
  (refine wpT_step rfl (by rfl) (fun K hK => ?_); go_simp)
  (refine hK.out _ _ _ (fun _ h => h) (by go_simp) (fun hHeld => ?_); clear hK; clear K; (try simp only [Act.put, List.setIfInBounds_toArray, List.set_cons_zero, List.set_cons_succ]))
  (refine wpT_nil ?_)
  clear hHeld
  go_wp2
  rw [rounds_succ]
  go_wp2
  refine wp_plan (fun x => x.cell? ⟨w.heap.size, 3, none⟩ = some (.int .u64 a3)) [4, 12] [0, 1, 2, 3, 5, 6, 7, 8, 9, 4, 10, 11, 12] (by kernel_rfl) (by kernel_rfl) (by go_simp) (fun hHeld => ?_)
  iterate 9 (refine wpT_take rfl (by rfl) (by rfl) (by intro w' hSw; (try dsimp only at hSw); go_simp; (try with_reducible rfl)) (by assumption) ?_; (try simp only [Act.put, List.setIfInBounds_toArray, List.set_cons_zero, List.set_cons_succ]))
  (refine wpT_step rfl (by rfl) (fun K hK => ?_); go_simp)
  (refine hK.out _ _ _ (fun _ h => h) (hHeld) (fun hHeld => ?_); clear hK; clear K; (try simp only [Act.put, List.setIfInBounds_toArray, List.set_cons_zero, List.set_cons_succ]))
  iterate 2 (refine wpT_take rfl (by rfl) (by rfl) (by intro w' hSw; (try dsimp only at hSw); go_simp; (try with_reducible rfl)) (by assumption) ?_; (try simp only [Act.put, List.setIfInBounds_toArray, List.set_cons_zero, List.set_cons_succ]))
  (refine wpT_step rfl (by rfl) (fun K hK => ?_); go_simp)
  (refine hK.out _ _ _ (fun _ h => h) (by go_simp) (fun hHeld => ?_); clear hK; clear K; (try simp only [Act.put, List.setIfInBounds_toArray, List.set_cons_zero, List.set_cons_succ]))
  (refine wpT_nil ?_)
  clear hHeld
  go_wp2
  refine wp_plan (fun x => x.cell? ⟨w.heap.size, 3, none⟩ = some (.int .u64 a3)) [5, 14] [0, 1, 2, 3, 4, 6, 7, 8, 9, 10, 11, 5, 12, 13, 14] (by kernel_rfl) (by kernel_rfl) (by go_simp) (fun hHeld => ?_)
  iterate 11 (refine wpT_take rfl (by rfl) (by rfl) (by intro w' hSw; (try dsimp only at hSw); go_simp; (try with_reducible rfl)) (by assumption) ?_; (try simp only [Act.put, List.setIfInBounds_toArray, List.set_cons_zero, List.set_cons_succ]))
  (refine wpT_step rfl (by rfl) (fun K hK => ?_); go_simp)
  (refine hK.out _ _ _ (fun _ h => h) (hHeld) (fun hHeld => ?_); clear hK; clear K; (try simp only [Act.put, List.setIfInBounds_toArray, List.set_cons_zero, List.set_cons_succ]))
  iterate 2 (refine wpT_take rfl (by rfl) (by rfl) (by intro w' hSw; (try dsimp only at hSw); go_simp; (try with_reducible rfl)) (by assumption) ?_; (try simp only [Act.put, List.setIfInBounds_toArray, List.set_cons_zero, List.set_cons_succ]))
  (refine wpT_step rfl (by rfl) (fun K hK => ?_); go_simp)
  (refine hK.out _ _ _ (fun _ h => h) (by go_simp) (fun hHeld => ?_); clear hK; clear K; (try simp only [Act.put, List.setIfInBounds_toArray, List.set_cons_zero, List.set_cons_succ]))
  (refine wpT_nil ?_)
  clear hHeld
  go_wp2
  rw [rounds_succ]
  go_wp2
  refine bodyPost_ret (v := U4 (l1 + g0) (l2 + g1) (l3 + g2) (g3)) (by simp [results, Try.results28, go_sem]) rfl ?_
  exact ⟨_, _, _, _, rfl, HX.out.1, HX.out.2, by (repeat (first | exact Below.refl _ _ | refine Below.drew ?_ | refine bl_drewN ?_ _ | (refine Below.alloc ?_ (by first | exact Nat.le_refl _ | (simp; done) | (simp; omega)) _)))⟩

set_option maxRecDepth 100000 in
set_option maxHeartbeats 2000000 in
theorem shr_1 {a0 a1 a2 a3 : Int} (ha : B4 a0 a1 a2 a3) (n : Int) (k r : Nat) (hr : r < 64) (hkr : k = 64 * 1 + r) (hn : n = k ∨ (n ≤ 0 ∧ k = 0)) (w : World) :
    Calls Try.prog 28 #[U4 a0 a1 a2 a3, .int .i64 n] w fun e w' => ∃ s0 s1 s2 s3 : Int, e = .returned (U4 s0 s1 s2 s3) ∧ B4 s0 s1 s2 s3 ∧ N4 s0 s1 s2 s3 = N4 a0 a1 a2 a3 / 2 ^ k ∧ Below w.heap.size w w' := by
  obtain ⟨ep, he⟩ : ∃ ep, r + ep = 64 := ⟨64 - r, by omega⟩
  obtain ⟨l0, g0, L0, G0, e0, bl0, bg0, o0⟩ := sh_up a0 ep r ha.h0 (by omega)
  obtain ⟨l1, g1, L1, G1, e1, bl1, bg1, o1⟩ := sh_up a1 ep r ha.h1 (by omega)
  obtain ⟨l2, g2, L2, G2, e2, bl2, bg2, o2⟩ := sh_up a2 ep r ha.h2 (by omega)
  obtain ⟨l3, g3, L3, G3, e3, bl3, bg3, o3⟩ := sh_up a3 ep r ha.h3 (by omega)
  have O1 := (o1 g0 bg0).2
  have O2 := (o2 g1 bg1).2
  have O3 := (o3 g2 bg2).2
  have hpe : (2 : Int) ^ ep ≤ WI := by
    rw [WI_eq, show (18446744073709551616 : Int) = 2 ^ 64 by decide, ← he, Int.pow_add]
    have := Int.mul_le_mul_of_nonneg_right (show 1 ≤ (2 : Int) ^ r from two_pow_pos r) (Int.le_of_lt (two_pow_pos ep))
    rw [Int.one_mul] at this
    exact this
  have Z0 := or_zero g0 ⟨bg0.1, by omega⟩
  have Z1 := or_zero g1 ⟨bg1.1, by omega⟩
  have Z2 := or_zero g2 ⟨bg2.1, by omega⟩
  have Z3 := or_zero g3 ⟨bg3.1, by omega⟩
  have hm : max n 0 = (k : Int) := by omega
  have hx : (64 : Int) - (r : Int) = (ep : Int) := by omega
  have hk256 : (k : Int) < 256 := by omega
  have hq : (k : Int).tdiv 64 = 1 := by rw [Int.tdiv_eq_ediv_of_nonneg (by omega)]; omega
  have htm : (k : Int).tmod 64 = (r : Int) := by rw [Int.tmod_eq_emod_of_nonneg (by omega)]; omega
  have hw0 : IntKind.i64.wrap 0 = 0 := by decide
  have hw1 : IntKind.i64.wrap 1 = 1 := by decide
  have hw2 : IntKind.i64.wrap 2 = 2 := by decide
  have hw3 : IntKind.i64.wrap 3 = 3 := by decide
  have hwr : IntKind.i64.wrap (r : Int) = (r : Int) := wrap_small _ (by omega) (by omega)
  have hwe : IntKind.i64.wrap (ep : Int) = (ep : Int) := wrap_small _ (by omega) (by omega)
  have HX : Hid (B4 (l2 + g1) (l3 + g2) (g3) (0) ∧ N4 (l2 + g1) (l3 + g2) (g3) (0) = N4 a0 a1 a2 a3 / 2 ^ k) := by
    have hp := two_pow_pos ep
    refine ⟨⟨?_, ?_, ?_, ?_⟩, ?_⟩
    · unfold WI at *; omega
    · unfold WI at *; omega
    · unfold WI at *; omega
    · unfold WI at *; omega
    · have z : (0 : Int) * 2 ^ ep = 0 + WI * 0 := by simp
      have h := down1 a1 a2 a3 0 r ep he l1 l2 l3 0 g1 g2 g3 0 (by omega) (by have := bl1.2; omega) e1 e2 e3 z
      have d1 : N4 a0 a1 a2 a3 / (2 : Int) ^ (64 * 1) = N4 a1 a2 a3 0 := by
        rw [show (2 : Int) ^ (64 * 1) = WI by decide]
        obtain ⟨h0, h1, h2, h3⟩ := ha
        unfold N4 WI at *
        omega
      rw [pow_split k 1 r hkr, ← Int.ediv_ediv_of_nonneg (Int.le_of_lt (two_pow_pos _)), d1, h]
      simp
  clear o0 o1 o2 o3 ha e0 e1 e2 e3 bl0 bl1 bl2 bl3 bg0 bg1 bg2 bg3 hkr hpe
  go_enter Try.func28, Try.ntmps28
  go_wp2
  refine wp_loop_rounds 5 ?_
  rw [rounds_succ]
  go_wp2
  refine wp_plan (fun x => x.cell? ⟨w.heap.size, 1, none⟩ = some (.int .u64 a1)) [4, 12] [0, 1, 2, 3, 5, 6, 7, 8, 9, 4, 10, 11, 12] (by kernel_rfl) (by kernel_rfl) (by go_simp) (fun hHeld => ?_)
  iterate 9 (refine wpT_take rfl (by rfl) (by rfl) (by intro w' hSw; (try dsimp only at hSw); go_simp; (try with_reducible rfl)) (by assumption) ?_; (try simp only [Act.put, List.setIfInBounds_toArray, List.set_cons_zero, List.set_cons_succ]))
  (refine wpT_step rfl (by rfl) (fun K hK => ?_); go_simp)
  (refine hK.out _ _ _ (fun _ h => h) (hHeld) (fun hHeld => ?_); clear hK; clear K; (try simp only [Act.put, List.setIfInBounds_toArray, List.set_cons_zero, List.set_cons_succ]))
  iterate 2 (refine wpT_take rfl (by rfl) (by rfl) (by intro w' hSw; (try dsimp only at hSw); go_simp; (try with_reducible rfl)) (by assumption) ?_; (try simp only [Act.put, List.setIfInBounds_toArray, List.set_cons_zero, List.set_cons_succ]))
  (refine wpT_step rfl (by rfl) (fun K hK => ?_); go_simp)
  (refine hK.out _ _ _ (fun _ h => h) (by go_simp) (fun hHeld => ?_); clear hK; clear K; (try simp only [Act.put, List.setIfInBounds_toArray, List.set_cons_zero, List.set_cons_succ]))
  (refine wpT_nil ?_)
  clear hHeld
  go_wp2
  rw [rounds_succ]
  go_wp2
  refine wp_plan (fun x => x.cell? ⟨w.heap.size, 2, none⟩ = some (.int .u64 a2)) [4, 12] [0, 1, 2, 3, 5, 6, 7, 8, 9, 4, 10, 11, 12] (by kernel_rfl) (by kernel_rfl) (by go_simp) (fun hHeld => ?_)
  iterate 9 (refine wpT_take rfl (by rfl) (by rfl) (by intro w' hSw; (try dsimp only at hSw); go_simp; (try with_reducible rfl)) (by assumption) ?_; (try simp only [Act.put, List.setIfInBounds_toArray, List.set_cons_zero, List.set_cons_succ]))
  (refine wpT_step rfl (by rfl) (fun K hK => ?_); go_simp)
  (refine hK.out _ _ _ (fun _ h => h) (hHeld) (fun hHeld => ?_); clear hK; clear K; (try simp only [Act.put, List.setIfInBounds_toArray, List.set_cons_zero, List.set_cons_succ]))
  iterate 2 (refine wpT_take rfl (by rfl) (by rfl) (by intro w' hSw; (try dsimp only at hSw); go_simp; (try with_reducible rfl)) (by assumption) ?_; (try simp only [Act.put, List.setIfInBounds_toArray, List.set_cons_zero, List.set_cons_succ]))
  (refine wpT_step rfl (by rfl) (fun K hK => ?_); go_simp)
  (refine hK.out _ _ _ (fun _ h => h) (by go_simp) (fun hHeld => ?_); clear hK; clear K; (try simp only [Act.put, List.setIfInBounds_toArray, List.set_cons_zero, List.set_cons_succ]))
  (refine wpT_nil ?_)
  clear hHeld
  go_wp2
  refine wp_plan (fun x => x.cell? ⟨w.heap.size, 2, none⟩ = some (.int .u64 a2)) [5, 14] [0, 1, 2, 3, 4, 6, 7, 8, 9, 10, 11, 5, 12, 13, 14] (by kernel_rfl) (by kernel_rfl) (by go_simp) (fun hHeld => ?_)
  iterate 11 (refine wpT_take rfl (by rfl) (by rfl) (by intro w' hSw; (try dsimp only at hSw); go_simp; (try with_reducible rfl)) (by assumption) ?_; (try simp only [Act.put, List.setIfInBounds_toArray, List.set_cons_zero, List.set_cons_succ]))
  (refine wpT_step rfl (by rfl) (fun K hK => ?_); go_simp)
  (refine hK.out _ _ _ (fun _ h => h) (hHeld) (fun hHeld => ?_); clear hK; clear K; (try simp only [Act.put, List.setIfInBounds_toArray, List.set_cons_zero, List.set_cons_succ]))
  iterate 2 (refine wpT_take rfl (by rfl) (by rfl) (by intro w' hSw; (try dsimp only at hSw); go_simp; (try with_reducible rfl)) (by assumption) ?_; (try simp only [Act.put, List.setIfInBounds_toArray, List.set_cons_zero, List.set_cons_succ]))
  (refine wpT_step rfl (by rfl) (fun K hK => ?_); go_simp)
  (refine hK.out _ _ _ (fun _ h => h) (by go_simp) (fun hHeld => ?_); clear hK; clear K; (try simp only [Act.put, List.setIfInBounds_toArray, List.set_cons_zero, List.set_cons_succ]))
  (refine wpT_nil ?_)
  clear hHeld
  go_wp2
  rw [rounds_succ]
  go_wp2
  refine wp_plan (fun x => x.cell? ⟨w.heap.size, 3, none⟩ = some (.int .u64 a3)) [4, 12] [0, 1, 2, 3, 5, 6, 7, 8, 9, 4, 10, 11, 12] (by kernel_rfl) (by kernel_rfl) (by go_simp) (fun hHeld => ?_)
  iterate 9 (refine wpT_take rfl (by rfl) (by rfl) (by intro w' hSw; (try dsimp only at hSw); go_simp; (try with_reducible rfl)) (by assumption) ?_; (try simp only [Act.put, List.setIfInBounds_toArray, List.set_cons_zero, List.set_cons_succ]))
  (refine wpT_step rfl (by rfl) (fun K hK => ?_); go_simp)
  (refine hK.out _ _ _ (fun _ h => h) (hHeld) (fun hHeld => ?_); clear hK; clear K; (try simp only [Act.put, List.setIfInBounds_toArray, List.set_cons_zero, List.set_cons_succ]))
  iterate 2 (refine wpT_take rfl (by rfl) (by rfl) (by intro w' hSw; (try dsimp only at hSw); go_simp; (try with_reducible rfl)) (by assumption) ?_; (try simp only [Act.put, List.setIfInBounds_toArray, List.set_cons_zero, List.set_cons_succ]))
  (refine wpT_step rfl (by rfl) (fun K hK => ?_); go_simp)
  (refine hK.out _ _ _ (fun _ h => h) (by go_simp) (fun hHeld => ?_); clear hK; clear K; (try simp only [Act.put, List.setIfInBounds_toArray, List.set_cons_zero, List.set_cons_succ]))
  (refine wpT_nil ?_)
  clear hHeld
  go_wp2
  refine wp_plan (fun x => x.cell? ⟨w.heap.size, 3, none⟩ = some (.int .u64 a3)) [5, 14] [0, 1, 2, 3, 4, 6, 7, 8, 9, 10, 11, 5, 12, 13, 14] (by kernel_rfl) (by kernel_rfl) (by go_simp) (fun hHeld => ?_)
  iterate 11 (refine wpT_take rfl (by rfl) (by rfl) (by intro w' hSw; (try dsimp only at hSw); go_simp; (try with_reducible rfl)) (by assumption) ?_; (try simp only [Act.put, List.setIfInBounds_toArray, List.set_cons_zero, List.set_cons_succ]))
  (refine wpT_step rfl (by rfl) (fun K hK => ?_); go_simp)
  (refine hK.out _ _ _ (fun _ h => h) (hHeld) (fun hHeld => ?_); clear hK; clear K; (try simp only [Act.put, List.setIfInBounds_toArray, List.set_cons_zero, List.set_cons_succ]))
  iterate 2 (refine wpT_take rfl (by rfl) (by rfl) (by intro w' hSw; (try dsimp only at hSw); go_simp; (try with_reducible rfl)) (by assumption) ?_; (try simp only [Act.put, List.setIfInBounds_toArray, List.set_cons_zero, List.set_cons_succ]))
  (refine wpT_step rfl (by rfl) (fun K hK => ?_); go_simp)
  (refine hK.out _ _ _ (fun _ h => h) (by go_simp) (fun hHeld => ?_); clear hK; clear K; (try simp only [Act.put, List.setIfInBounds_toArray, List.set_cons_zero, List.set_cons_succ]))
  (refine wpT_nil ?_)
  clear hHeld
  go_wp2
  rw [rounds_succ]
  go_wp2
  refine bodyPost_ret (v := U4 (l2 + g1) (l3 + g2) (g3) (0)) (by simp [results, Try.results28, go_sem]) rfl ?_
  exact ⟨_, _, _, _, rfl, HX.out.1, HX.out.2, by (repeat (first | exact Below.refl _ _ | refine Below.drew ?_ | refine bl_drewN ?_ _ | (refine Below.alloc ?_ (by first | exact Nat.le_refl _ | (simp; done) | (simp; omega)) _)))⟩

set_option maxRecDepth 100000 in
set_option maxHeartbeats 2000000 in
theorem shr_2 {a0 a1 a2 a3 : Int} (ha : B4 a0 a1 a2 a3) (n : Int) (k r : Nat) (hr : r < 64) (hkr : k = 64 * 2 + r) (hn : n = k ∨ (n ≤ 0 ∧ k = 0)) (w : World) :
    Calls Try.prog 28 #[U4 a0 a1 a2 a3, .int .i64 n] w fun e w' => ∃ s0 s1 s2 s3 : Int, e = .returned (U4 s0 s1 s2 s3) ∧ B4 s0 s1 s2 s3 ∧ N4 s0 s1 s2 s3 = N4 a0 a1 a2 a3 / 2 ^ k ∧ Below w.heap.size w w' := by
  obtain ⟨ep, he⟩ : ∃ ep, r + ep = 64 := ⟨64 - r, by omega⟩
  obtain ⟨l0, g0, L0, G0, e0, bl0, bg0, o0⟩ := sh_up a0 ep r ha.h0 (by omega)
  obtain ⟨l1, g1, L1, G1, e1, bl1, bg1, o1⟩ := sh_up a1 ep r ha.h1 (by omega)
  obtain ⟨l2, g2, L2, G2, e2, bl2, bg2, o2⟩ := sh_up a2 ep r ha.h2 (by omega)
  obtain ⟨l3, g3, L3, G3, e3, bl3, bg3, o3⟩ := sh_up a3 ep r ha.h3 (by omega)
  have O1 := (o1 g0 bg0).2
  have O2 := (o2 g1 bg1).2
  have O3 := (o3 g2 bg2).2
  have hpe : (2 : Int) ^ ep ≤ WI := by
    rw [WI_eq, show (18446744073709551616 : Int) = 2 ^ 64 by decide, ← he, Int.pow_add]
    have := Int.mul_le_mul_of_nonneg_right (show 1 ≤ (2 : Int) ^ r from two_pow_pos r) (Int.le_of_lt (two_pow_pos ep))
    rw [Int.one_mul] at this
    exact this
  have Z0 := or_zero g0 ⟨bg0.1, by omega⟩
  have Z1 := or_zero g1 ⟨bg1.1, by omega⟩
  have Z2 := or_zero g2 ⟨bg2.1, by omega⟩
  have Z3 := or_zero g3 ⟨bg3.1, by omega⟩
  have hm : max n 0 = (k : Int) := by omega
  have hx : (64 : Int) - (r : Int) = (ep : Int) := by omega
  have hk256 : (k : Int) < 256 := by omega
  have hq : (k : Int).tdiv 64 = 2 := by rw [Int.tdiv_eq_ediv_of_nonneg (by omega)]; omega
  have htm : (k : Int).tmod 64 = (r : Int) := by rw [Int.tmod_eq_emod_of_nonneg (by omega)]; omega
  have hw0 : IntKind.i64.wrap 0 = 0 := by decide
  have hw1 : IntKind.i64.wrap 1 = 1 := by decide
  have hw2 : IntKind.i64.wrap 2 = 2 := by decide
  have hw3 : IntKind.i64.wrap 3 = 3 := by decide
  have hwr : IntKind.i64.wrap (r : Int) = (r : Int) := wrap_small _ (by omega) (by omega)
  have hwe : IntKind.i64.wrap (ep : Int) = (ep : Int) := wrap_small _ (by omega) (by omega)
  have HX : Hid (B4 (l3 + g2) (g3) (0) (0) ∧ N4 (l3 + g2) (g3) (0) (0) = N4 a0 a1 a2 a3 / 2 ^ k) := by
    have hp := two_pow_pos ep
    refine ⟨⟨?_, ?_, ?_, ?_⟩, ?_⟩
    · unfold WI at *; omega
    · unfold WI at *; omega
    · unfold WI at *; omega
    · unfold WI at *; omega
    · have z : (0 : Int) * 2 ^ ep = 0 + WI * 0 := by simp
      have h := down1 a2 a3 0 0 r ep he l2 l3 0 0 g2 g3 0 0 (by omega) (by have := bl2.2; omega) e2 e3 z z
      have d1 : N4 a0 a1 a2 a3 / (2 : Int) ^ (64 * 2) = N4 a2 a3 0 0 := by
        rw [show (2 : Int) ^ (64 * 2) = WI * WI by decide]
        obtain ⟨h0, h1, h2, h3⟩ := ha
        unfold N4 WI at *
        omega
      rw [pow_split k 2 r hkr, ← Int.ediv_ediv_of_nonneg (Int.le_of_lt (two_pow_pos _)), d1, h]
      simp
  clear o0 o1 o2 o3 ha e0 e1 e2 e3 bl0 bl1 bl2 bl3 bg0 bg1 bg2 bg3 hkr hpe
  go_enter Try.func28, Try.ntmps28
  go_wp2
  refine wp_loop_rounds 5 ?_
  rw [rounds_succ]
  go_wp2
  refine wp_plan (fun x => x.cell? ⟨w.heap.size, 2, none⟩ = some (.int .u64 a2)) [4, 12] [0, 1, 2, 3, 5, 6, 7, 8, 9, 4, 10, 11, 12] (by kernel_rfl) (by kernel_rfl) (by go_simp) (fun hHeld => ?_)
  iterate 9 (refine wpT_take rfl (by rfl) (by rfl) (by intro w' hSw; (try dsimp only at hSw); go_simp; (try with_reducible rfl)) (by assumption) ?_; (try simp only [Act.put, List.setIfInBounds_toArray, List.set_cons_zero, List.set_cons_succ]))
  (refine wpT_step rfl (by rfl) (fun K hK => ?_); go_simp)
  (refine hK.out _ _ _ (fun _ h => h) (hHeld) (fun hHeld => ?_); clear hK; clear K; (try simp only [Act.put, List.setIfInBounds_toArray, List.set_cons_zero, List.set_cons_succ]))
  iterate 2 (refine wpT_take rfl (by rfl) (by rfl) (by intro w' hSw; (try dsimp only at hSw); go_simp; (try with_reducible rfl)) (by assumption) ?_; (try simp only [Act.put, List.setIfInBounds_toArray, List.set_cons_zero, List.set_cons_succ]))
  (refine wpT_step rfl (by rfl) (fun K hK => ?_); go_simp)
  (refine hK.out _ _ _ (fun _ h => h) (by go_simp) (fun hHeld => ?_); clear hK; clear K; (try simp only [Act.put, List.setIfInBounds_toArray, List.set_cons_zero, List.set_cons_succ]))
  (refine wpT_nil ?_)
  clear hHeld
  go_wp2
  rw [rounds_succ]
  go_wp2
  refine wp_plan (fun x => x.cell? ⟨w.heap.size, 3, none⟩ = some (.int .u64 a3)) [4, 12] [0, 1, 2, 3, 5, 6, 7, 8, 9, 4, 10, 11, 12] (by kernel_rfl) (by kernel_rfl) (by go_simp) (fun hHeld => ?_)
  iterate 9 (refine wpT_take rfl (by rfl) (by rfl) (by intro w' hSw; (try dsimp only at hSw); go_simp; (try with_reducible rfl)) (by assumption) ?_; (try simp only [Act.put, List.setIfInBounds_toArray, List.set_cons_zero, List.set_cons_succ]))
  (refine wpT_step rfl (by rfl) (fun K hK => ?_); go_simp)
  (refine hK.out _ _ _ (fun _ h => h) (hHeld) (fun hHeld => ?_); clear hK; clear K; (try simp only [Act.put, List.setIfInBounds_toArray, List.set_cons_zero, List.set_cons_succ]))
  iterate 2 (refine wpT_take rfl (by rfl) (by rfl) (by intro w' hSw; (try dsimp only at hSw); go_simp; (try with_reducible rfl)) (by assumption) ?_; (try simp only [Act.put, List.setIfInBounds_toArray, List.set_cons_zero, List.set_cons_succ]))
  (refine wpT_step rfl (by rfl) (fun K hK => ?_); go_simp)
  (refine hK.out _ _ _ (fun _ h => h) (by go_simp) (fun hHeld => ?_); clear hK; clear K; (try simp only [Act.put, List.setIfInBounds_toArray, List.set_cons_zero, List.set_cons_succ]))
  (refine wpT_nil ?_)
  clear hHeld
  go_wp2
  refine wp_plan (fun x => x.cell? ⟨w.heap.size, 3, none⟩ = some (.int .u64 a3)) [5, 14] [0, 1, 2, 3, 4, 6, 7, 8, 9, 10, 11, 5, 12, 13, 14] (by kernel_rfl) (by kernel_rfl) (by go_simp) (fun hHeld => ?_)
  iterate 11 (refine wpT_take rfl (by rfl) (by rfl) (by intro w' hSw; (try dsimp only at hSw); go_simp; (try with_reducible rfl)) (by assumption) ?_; (try simp only [Act.put, List.setIfInBounds_toArray, List.set_cons_zero, List.set_cons_succ]))
  (refine wpT_step rfl (by rfl) (fun K hK => ?_); go_simp)
  (refine hK.out _ _ _ (fun _ h => h) (hHeld) (fun hHeld => ?_); clear hK; clear K; (try simp only [Act.put, List.setIfInBounds_toArray, List.set_cons_zero, List.set_cons_succ]))
  iterate 2 (refine wpT_take rfl (by rfl) (by rfl) (by intro w' hSw; (try dsimp only at hSw); go_simp; (try with_reducible rfl)) (by assumption) ?_; (try simp only [Act.put, List.setIfInBounds_toArray, List.set_cons_zero, List.set_cons_succ]))
  (refine wpT_step rfl (by rfl) (fun K hK => ?_); go_simp)
  (refine hK.out _ _ _ (fun _ h => h) (by go_simp) (fun hHeld => ?_); clear hK; clear K; (try simp only [Act.put, List.setIfInBounds_toArray, List.set_cons_zero, List.set_cons_succ]))
  (refine wpT_nil ?_)
  clear hHeld
  go_wp2
  rw [rounds_succ]
  go_wp2
  refine bodyPost_ret (v := U4 (l3 + g2) (g3) (0) (0)) (by simp [results, Try.results28, go_sem]) rfl ?_
  exact ⟨_, _, _, _, rfl, HX.out.1, HX.out.2, by (repeat (first | exact Below.refl _ _ | refine Below.drew ?_ | refine bl_drewN ?_ _ | (refine Below.alloc ?_ (by first | exact Nat.le_refl _ | (simp; done) | (simp; omega)) _)))⟩

set_option maxRecDepth 100000 in
set_option maxHeartbeats 2000000 in
theorem shr_3 {a0 a1 a2 a3 : Int} (ha : B4 a0 a1 a2 a3) (n : Int) (k r : Nat) (hr : r < 64) (hkr : k = 64 * 3 + r) (hn : n = k ∨ (n ≤ 0 ∧ k = 0)) (w : World) :
    Calls Try.prog 28 #[U4 a0 a1 a2 a3, .int .i64 n] w fun e w' => ∃ s0 s1 s2 s3 : Int, e = .returned (U4 s0 s1 s2 s3) ∧ B4 s0 s1 s2 s3 ∧ N4 s0 s1 s2 s3 = N4 a0 a1 a2 a3 / 2 ^ k ∧ Below w.heap.size w w' := by
  obtain ⟨ep, he⟩ : ∃ ep, r + ep = 64 := ⟨64 - r, by omega⟩
  obtain ⟨l0, g0, L0, G0, e0, bl0, bg0, o0⟩ := sh_up a0 ep r ha.h0 (by omega)
  obtain ⟨l1, g1, L1, G1, e1, bl1, bg1, o1⟩ := sh_up a1 ep r ha.h1 (by omega)
  obtain ⟨l2, g2, L2, G2, e2, bl2, bg2, o2⟩ := sh_up a2 ep r ha.h2 (by omega)
  obtain ⟨l3, g3, L3, G3, e3, bl3, bg3, o3⟩ := sh_up a3 ep r ha.h3 (by omega)
  have O1 := (o1 g0 bg0).2
  have O2 := (o2 g1 bg1).2
  have O3 := (o3 g2 bg2).2
  have hpe : (2 : Int) ^ ep ≤ WI := by
    rw [WI_eq, show (18446744073709551616 : Int) = 2 ^ 64 by decide, ← he, Int.pow_add]
    have := Int.mul_le_mul_of_nonneg_right (show 1 ≤ (2 : Int) ^ r from two_pow_pos r) (Int.le_of_lt (two_pow_pos ep))
    rw [Int.one_mul] at this
    exact this
  have Z0 := or_zero g0 ⟨bg0.1, by omega⟩
  have Z1 := or_zero g1 ⟨bg1.1, by omega⟩
  have Z2 := or_zero g2 ⟨bg2.1, by omega⟩
  have Z3 := or_zero g3 ⟨bg3.1, by omega⟩
  have hm : max n 0 = (k : Int) := by omega
  have hx : (64 : Int) - (r : Int) = (ep : Int) := by omega
  have hk256 : (k : Int) < 256 := by omega
  have hq : (k : Int).tdiv 64 = 3 := by rw [Int.tdiv_eq_ediv_of_nonneg (by omega)]; omega
  have htm : (k : Int).tmod 64 = (r : Int) := by rw [Int.tmod_eq_emod_of_nonneg (by omega)]; omega
  have hw0 : IntKind.i64.wrap 0 = 0 := by decide
  have hw1 : IntKind.i64.wrap 1 = 1 := by decide
  have hw2 : IntKind.i64.wrap 2 = 2 := by decide
  have hw3 : IntKind.i64.wrap 3 = 3 := by decide
  have hwr : IntKind.i64.wrap (r : Int) = (r : Int) := wrap_small _ (by omega) (by omega)
  have hwe : IntKind.i64.wrap (ep : Int) = (ep : Int) := wrap_small _ (by omega) (by omega)
  have HX : Hid (B4 (g3) (0) (0) (0) ∧ N4 (g3) (0) (0) (0) = N4 a0 a1 a2 a3 / 2 ^ k) := by
    have hp := two_pow_pos ep
    refine ⟨⟨?_, ?_, ?_, ?_⟩, ?_⟩
    · unfold WI at *; omega
    · unfold WI at *; omega
    · unfold WI at *; omega
    · unfold WI at *; omega
    · have z : (0 : Int) * 2 ^ ep = 0 + WI * 0 := by simp
      have h := down1 a3 0 0 0 r ep he l3 0 0 0 g3 0 0 0 (by omega) (by have := bl3.2; omega) e3 z z z
      have d1 : N4 a0 a1 a2 a3 / (2 : Int) ^ (64 * 3) = N4 a3 0 0 0 := by
        rw [show (2 : Int) ^ (64 * 3) = WI * WI * WI by decide]
        obtain ⟨h0, h1, h2, h3⟩ := ha
        unfold N4 WI at *
        omega
      rw [pow_split k 3 r hkr, ← Int.ediv_ediv_of_nonneg (Int.le_of_lt (two_pow_pos _)), d1, h]
      simp
  clear o0 o1 o2 o3 ha e0 e1 e2 e3 bl0 bl1 bl2 bl3 bg0 bg1 bg2 bg3 hkr hpe
  go_enter Try.func28, Try.ntmps28
  go_wp2
  refine wp_loop_rounds 5 ?_
  rw [rounds_succ]
  go_wp2
  refine wp_plan (fun x => x.cell? ⟨w.heap.size, 3, none⟩ = some (.int .u64 a3)) [4, 12] [0, 1, 2, 3, 5, 6, 7, 8, 9, 4, 10, 11, 12] (by kernel_rfl) (by kernel_rfl) (by go_simp) (fun hHeld => ?_)
  iterate 9 (refine wpT_take rfl (by rfl) (by rfl) (by intro w' hSw; (try dsimp only at hSw); go_simp; (try with_reducible rfl)) (by assumption) ?_; (try simp only [Act.put, List.setIfInBounds_toArray, List.set_cons_zero, List.set_cons_succ]))
  (refine wpT_step rfl (by rfl) (fun K hK => ?_); go_simp)
  (refine hK.out _ _ _ (fun _ h => h) (hHeld) (fun hHeld => ?_); clear hK; clear K; (try simp only [Act.put, List.setIfInBounds_toArray, List.set_cons_zero, List.set_cons_succ]))
  iterate 2 (refine wpT_take rfl (by rfl) (by rfl) (by intro w' hSw; (try dsimp only at hSw); go_simp; (try with_reducible rfl)) (by assumption) ?_; (try simp only [Act.put, List.setIfInBounds_toArray, List.set_cons_zero, List.set_cons_succ]))
  (refine wpT_step rfl (by rfl) (fun K hK => ?_); go_simp)
  (refine hK.out _ _ _ (fun _ h => h) (by go_simp) (fun hHeld => ?_); clear hK; clear K; (try simp only [Act.put, List.setIfInBounds_toArray, List.set_cons_zero, List.set_cons_succ]))
  (refine wpT_nil ?_)
  clear hHeld
  go_wp2
  rw [rounds_succ]
  go_wp2
  refine bodyPost_ret (v := U4 (g3) (0) (0) (0)) (by simp [results, Try.results28, go_sem]) rfl ?_
  exact ⟨_, _, _, _, rfl, HX.out.1, HX.out.2, by (repeat (first | exact Below.refl _ _ | refine Below.drew ?_ | refine bl_drewN ?_ _ | (refine Below.alloc ?_ (by first | exact Nat.le_refl _ | (simp; done) | (simp; omega)) _)))⟩
end Go.Proofs.Ytlfabchlblgmbaa
