/- Package u256: numbers moved up and down. (hM) Merged: USh0, USh, USh1, USr, USh2, UShc. -/
import Derived.Test.YtfbhpkhpkaeagaaDoorUDiv0
/- Package u256: numbers moved up and down. -/
namespace Go.Proofs.YtfbhpkhpkaeagaaDoor
set_option linter.unusedVariables false
set_option linter.unusedSimpArgs false
open Go.RowKit

/-- a part moved up: what stays, a multiple of the power, and what goes on, below it -/
theorem part_up (x : Int) (r e : Nat) (hx : 0 ≤ x ∧ x < WI) (he : r + e = 64) :
    ∃ m : Int, x * 2 ^ r % WI = 2 ^ r * m ∧ 0 ≤ m ∧ 2 ^ r * m + 2 ^ r ≤ WI ∧ 0 ≤ x / 2 ^ e ∧ x / 2 ^ e < 2 ^ r ∧ x * 2 ^ r = 2 ^ r * m + WI * (x / 2 ^ e) := by
  have hp := two_pow_pos r
  have hs := two_pow_pos e
  have hW : WI = 2 ^ r * 2 ^ e := by rw [← Int.pow_add, he]; rfl
  have h1 := Int.mul_ediv_add_emod x (2 ^ e)
  have h2 := Int.emod_nonneg x (Int.ne_of_gt hs)
  have h3 := Int.emod_lt_of_pos x hs
  have h4 : x * 2 ^ r = 2 ^ r * (x % 2 ^ e) + WI * (x / 2 ^ e) := by
    rw [hW, show 2 ^ r * 2 ^ e * (x / 2 ^ e) = 2 ^ r * (2 ^ e * (x / 2 ^ e)) by ac_rfl, ← Int.mul_add, Int.mul_comm x]
    congr 1
    omega
  have h5 : 2 ^ r * (x % 2 ^ e) + 2 ^ r ≤ WI := by
    have := Int.mul_le_mul_of_nonneg_left (show x % 2 ^ e + 1 ≤ 2 ^ e by omega) (Int.le_of_lt hp)
    rw [Int.mul_add, Int.mul_one, ← hW] at this
    exact this
  have h6 : 0 ≤ 2 ^ r * (x % 2 ^ e) := Int.mul_nonneg (Int.le_of_lt hp) h2
  refine ⟨x % 2 ^ e, ?_, h2, h5, Int.ediv_nonneg hx.1 (Int.le_of_lt hs), ?_, h4⟩
  · rw [h4, Int.add_mul_emod_self_left]
    exact Int.emod_eq_of_lt h6 (by omega)
  · rw [Int.ediv_lt_iff_lt_mul hs, ← hW]
    exact hx.2

theorem up0 (a0 a1 a2 a3 p l0 l1 l2 l3 g0 g1 g2 g3 : Int) (e0 : a0 * p = l0 + WI * g0) (e1 : a1 * p = l1 + WI * g1) (e2 : a2 * p = l2 + WI * g2) (e3 : a3 * p = l3 + WI * g3) :
    N4 a0 a1 a2 a3 * p = N4 l0 (l1 + g0) (l2 + g1) (l3 + g2) + WW * g3 ∧ N4 a0 a1 a2 a3 * (WI * p) = N4 0 l0 (l1 + g0) (l2 + g1) + WW * (l3 + g2 + WI * g3) ∧
    N4 a0 a1 a2 a3 * (WI * WI * p) = N4 0 0 l0 (l1 + g0) + WW * (l2 + g1 + WI * (l3 + g2 + WI * g3)) ∧ N4 a0 a1 a2 a3 * (WI * WI * WI * p) = N4 0 0 0 l0 + WW * (l1 + g0 + WI * (l2 + g1 + WI * (l3 + g2 + WI * g3))) := by
  have x : N4 a0 a1 a2 a3 * p = a0 * p + WI * (a1 * p + WI * (a2 * p + WI * (a3 * p))) := by unfold N4; simp only [Int.add_mul, Int.mul_assoc]
  have x1 : ∀ Q : Int, N4 a0 a1 a2 a3 * (Q * p) = Q * (N4 a0 a1 a2 a3 * p) := fun Q => by ac_rfl
  have y : N4 a0 a1 a2 a3 * p = N4 l0 (l1 + g0) (l2 + g1) (l3 + g2) + WW * g3 := by
    rw [x, e0, e1, e2, e3]; unfold N4 WW WI; omega
  refine ⟨y, ?_, ?_, ?_⟩ <;> rw [x1, y] <;> unfold N4 WW WI <;> omega

/-- a part moved down -/
theorem part_down (x : Int) (r e : Nat) (hx : 0 ≤ x ∧ x < WI) (he : r + e = 64) :
    ∃ m : Int, x * 2 ^ e % WI = 2 ^ e * m ∧ 0 ≤ m ∧ 2 ^ e * m + 2 ^ e ≤ WI ∧ 0 ≤ x / 2 ^ r ∧ x / 2 ^ r < 2 ^ e ∧ x * 2 ^ e = 2 ^ e * m + WI * (x / 2 ^ r) := part_up x e r hx (by omega)

theorem down0 (a0 a1 a2 a3 : Int) (r e : Nat) (he : r + e = 64) (l0 l1 l2 l3 g0 g1 g2 g3 : Int) (b0 : 0 ≤ l0) (c0 : l0 < WI) (e0 : a0 * 2 ^ e = l0 + WI * g0) (e1 : a1 * 2 ^ e = l1 + WI * g1) (e2 : a2 * 2 ^ e = l2 + WI * g2) (e3 : a3 * 2 ^ e = l3 + WI * g3)
    : N4 a0 a1 a2 a3 / 2 ^ r = N4 (g0 + l1) (g1 + l2) (g2 + l3) g3 := by
  have hp := two_pow_pos r
  have hs := two_pow_pos e
  have hW : WI = 2 ^ r * 2 ^ e := by rw [← Int.pow_add, he]; rfl
  have x : N4 a0 a1 a2 a3 * 2 ^ e = a0 * 2 ^ e + WI * (a1 * 2 ^ e + WI * (a2 * 2 ^ e + WI * (a3 * 2 ^ e))) := by unfold N4; simp only [Int.add_mul, Int.mul_assoc]
  have y : N4 a0 a1 a2 a3 * 2 ^ e = l0 + WI * N4 (g0 + l1) (g1 + l2) (g2 + l3) g3 := by
    rw [x, e0, e1, e2, e3]; unfold N4 WI; omega
  have z : N4 a0 a1 a2 a3 * 2 ^ e / (2 ^ r * 2 ^ e) = N4 a0 a1 a2 a3 / 2 ^ r := Int.mul_ediv_mul_of_pos_left _ _ hs
  rw [← z, y, ← hW, Int.add_mul_ediv_left _ _ (by unfold WI; decide), Int.ediv_eq_zero_of_lt b0 c0]
  omega
theorem down_next (a0 a1 a2 a3 : Int) (h0 : 0 ≤ a0 ∧ a0 < WI) : N4 a0 a1 a2 a3 / WI = N4 a1 a2 a3 0 := by
  unfold N4 WI at *; omega

theorem or_swap (x y : Int) (hx : 0 ≤ x ∧ x < WI) (hy : 0 ≤ y ∧ y < WI) : bits .or .u64 x y = bits .or .u64 y x := by
  obtain ⟨X, rfl⟩ := Int.eq_ofNat_of_zero_le hx.1
  obtain ⟨Y, rfl⟩ := Int.eq_ofNat_of_zero_le hy.1
  rw [u64_or_nat X Y (by unfold WI at hx; omega) (by unfold WI at hy; omega), u64_or_nat Y X (by unfold WI at hy; omega) (by unfold WI at hx; omega), Nat.or_comm]

/-- what Shl makes of two parts -/
theorem sh_up (x : Int) (r e : Nat) (hx : 0 ≤ x ∧ x < WI) (he : r + e = 64) :
    ∃ lo hi : Int, IntKind.u64.wrap (x * 2 ^ r) = lo ∧ x / 2 ^ e = hi ∧ x * 2 ^ r = lo + WI * hi ∧ (0 ≤ lo ∧ lo + 2 ^ r ≤ WI) ∧ (0 ≤ hi ∧ hi < 2 ^ r) ∧ (∀ y, 0 ≤ y ∧ y < 2 ^ r → bits .or .u64 lo y = lo + y ∧ bits .or .u64 y lo = lo + y) := by
  obtain ⟨m, h1, h2, h3, h4, h5, h6⟩ := part_up x r e hx he
  have hp := two_pow_pos r
  have h0 : 0 ≤ 2 ^ r * m := Int.mul_nonneg (Int.le_of_lt hp) h2
  refine ⟨2 ^ r * m, x / 2 ^ e, ?_, rfl, h6, ⟨h0, h3⟩, ⟨h4, h5⟩, fun y hy => ?_⟩
  · rw [← h1]; rfl
  · have h := or_add m r y hy ⟨h0, by omega⟩ (by omega)
    exact ⟨h, by rw [or_swap y _ (by omega) (by omega)]; exact h⟩
end Go.Proofs.YtfbhpkhpkaeagaaDoor

/- Package u256: Shl, the walks (made by gen_sh.py). -/
namespace Go.Proofs.YtfbhpkhpkaeagaaDoor
set_option linter.unusedVariables false
set_option linter.unusedSimpArgs false
open Go.RowKit

set_option maxRecDepth 100000 in
set_option maxHeartbeats 2000000 in
theorem shl_0 {a0 a1 a2 a3 : Int} (ha : B4 a0 a1 a2 a3) (n : Int) (k r : Nat) (hr : r < 64) (hkr : k = 64 * 0 + r) (hn : n = k ∨ (n ≤ 0 ∧ k = 0)) (w : World) :
    Calls Tryd.prog 35 #[U4 a0 a1 a2 a3, .int .i64 n] w fun e w' => ∃ s0 s1 s2 s3 c : Int, e = .returned (.tuple #[U4 s0 s1 s2 s3, .bool (decide (256 < lenN a0 a1 a2 a3 + k))]) ∧ B4 s0 s1 s2 s3 ∧ N4 a0 a1 a2 a3 * 2 ^ k = N4 s0 s1 s2 s3 + WW * c ∧ Below w.heap.size w w' := by
  obtain ⟨ep, he⟩ : ∃ ep, r + ep = 64 := ⟨64 - r, by omega⟩
  obtain ⟨l0, g0, L0, G0, e0, bl0, bg0, o0⟩ := sh_up a0 r ep ha.h0 he
  obtain ⟨l1, g1, L1, G1, e1, bl1, bg1, o1⟩ := sh_up a1 r ep ha.h1 he
  obtain ⟨l2, g2, L2, G2, e2, bl2, bg2, o2⟩ := sh_up a2 r ep ha.h2 he
  obtain ⟨l3, g3, L3, G3, e3, bl3, bg3, o3⟩ := sh_up a3 r ep ha.h3 he
  have O1 := (o1 g0 bg0).1
  have O2 := (o2 g1 bg1).1
  have O3 := (o3 g2 bg2).1
  obtain ⟨L, hL, hL1, _, _⟩ := len_holds ha
  have HL := Lib.hid (fun w => hL ▸ len_n ha w)
  have hwL : IntKind.i64.wrap ((L : Int) + (k : Int)) = (L : Int) + (k : Int) := wrap_small _ (by omega) (by omega)
  have hm : max n 0 = (k : Int) := by omega
  have hx : (64 : Int) - (r : Int) = (ep : Int) := by omega
  have hk256 : (k : Int) < 256 := by omega
  have hq : (k : Int).tdiv 64 = 0 := by rw [Int.tdiv_eq_ediv_of_nonneg (by omega)]; omega
  have htm : (k : Int).tmod 64 = (r : Int) := by rw [Int.tmod_eq_emod_of_nonneg (by omega)]; omega
  have hw0 : IntKind.i64.wrap 0 = 0 := by decide
  have hw1 : IntKind.i64.wrap 1 = 1 := by decide
  have hw2 : IntKind.i64.wrap 2 = 2 := by decide
  have hw3 : IntKind.i64.wrap 3 = 3 := by decide
  have hwr : IntKind.i64.wrap (r : Int) = (r : Int) := wrap_small _ (by omega) (by omega)
  have hwe : IntKind.i64.wrap (ep : Int) = (ep : Int) := wrap_small _ (by omega) (by omega)
  have HX : Hid (B4 (l0) (l1 + g0) (l2 + g1) (l3 + g2) ∧ N4 a0 a1 a2 a3 * 2 ^ k = N4 (l0) (l1 + g0) (l2 + g1) (l3 + g2) + WW * (g3)) := by
    have hp := two_pow_pos r
    refine ⟨⟨?_, ?_, ?_, ?_⟩, ?_⟩
    · unfold WI at *; omega
    · unfold WI at *; omega
    · unfold WI at *; omega
    · unfold WI at *; omega
    · rw [pow_split k 0 r hkr, show (2 : Int) ^ (64 * 0) = 1 by decide]
      have h := (up0 a0 a1 a2 a3 (2 ^ r) l0 l1 l2 l3 g0 g1 g2 g3 e0 e1 e2 e3).1
      rw [Int.one_mul]; exact h
  clear o0 o1 o2 o3 ha e0 e1 e2 e3 bl0 bl1 bl2 bl3 bg0 bg1 bg2 bg3 hkr
  have HLk := Lib.hid hL
  clear hL
  go_enter Tryd.func35, Tryd.ntmps35
  go_wp2
  refine wp_loop_rounds 5 ?_
  rw [rounds_succ]
  go_wp2
  rw [rounds_succ]
  go_wp2
  refine wp_plan (fun x => x.cell? ⟨w.heap.size, 0, none⟩ = some (.int .u64 a0)) [2, 14] [0, 1, 3, 4, 5, 6, 7, 8, 9, 10, 11, 2, 12, 13, 14] (by kernel_rfl) (by kernel_rfl) (by go_simp) (fun hHeld => ?_)
  iterate 11 (refine wpT_take rfl (by rfl) (by rfl) (by intro w' hSw; (try dsimp only [Mem, cellsAt] at hSw); go_simp; (try with_reducible rfl)) (by assumption) ?_; (try simp only [Act.put, List.setIfInBounds_toArray, List.set_cons_zero, List.set_cons_succ]))
  (refine wpT_step rfl (by rfl) (fun K hK => ?_); go_simp)
  (refine hK.out _ _ _ (fun _ h => h) (hHeld) (fun hHeld => ?_); clear hK; clear K; (try simp only [Act.put, List.setIfInBounds_toArray, List.set_cons_zero, List.set_cons_succ]))
  iterate 2 (refine wpT_take rfl (by rfl) (by rfl) (by intro w' hSw; (try dsimp only [Mem, cellsAt] at hSw); go_simp; (try with_reducible rfl)) (by assumption) ?_; (try simp only [Act.put, List.setIfInBounds_toArray, List.set_cons_zero, List.set_cons_succ]))
  (refine wpT_step rfl (by rfl) (fun K hK => ?_); go_simp)
  (refine hK.out _ _ _ (fun _ h => h) (by go_simp) (fun hHeld => ?_); clear hK; clear K; (try simp only [Act.put, List.setIfInBounds_toArray, List.set_cons_zero, List.set_cons_succ]))
  (refine wpT_nil ?_)
  clear hHeld
  go_wp2
  rw [rounds_succ]
  go_wp2
  refine wp_plan (fun x => x.cell? ⟨w.heap.size, 1, none⟩ = some (.int .u64 a1)) [2, 14] [0, 1, 3, 4, 5, 6, 7, 8, 9, 10, 11, 2, 12, 13, 14] (by kernel_rfl) (by kernel_rfl) (by go_simp) (fun hHeld => ?_)
  iterate 11 (refine wpT_take rfl (by rfl) (by rfl) (by intro w' hSw; (try dsimp only [Mem, cellsAt] at hSw); go_simp; (try with_reducible rfl)) (by assumption) ?_; (try simp only [Act.put, List.setIfInBounds_toArray, List.set_cons_zero, List.set_cons_succ]))
  (refine wpT_step rfl (by rfl) (fun K hK => ?_); go_simp)
  (refine hK.out _ _ _ (fun _ h => h) (hHeld) (fun hHeld => ?_); clear hK; clear K; (try simp only [Act.put, List.setIfInBounds_toArray, List.set_cons_zero, List.set_cons_succ]))
  iterate 2 (refine wpT_take rfl (by rfl) (by rfl) (by intro w' hSw; (try dsimp only [Mem, cellsAt] at hSw); go_simp; (try with_reducible rfl)) (by assumption) ?_; (try simp only [Act.put, List.setIfInBounds_toArray, List.set_cons_zero, List.set_cons_succ]))
  (refine wpT_step rfl (by rfl) (fun K hK => ?_); go_simp)
  (refine hK.out _ _ _ (fun _ h => h) (by go_simp) (fun hHeld => ?_); clear hK; clear K; (try simp only [Act.put, List.setIfInBounds_toArray, List.set_cons_zero, List.set_cons_succ]))
  (refine wpT_nil ?_)
  clear hHeld
  go_wp2
  rw [rounds_succ]
  go_wp2
  refine wp_plan (fun x => x.cell? ⟨w.heap.size, 2, none⟩ = some (.int .u64 a2)) [2, 14] [0, 1, 3, 4, 5, 6, 7, 8, 9, 10, 11, 2, 12, 13, 14] (by kernel_rfl) (by kernel_rfl) (by go_simp) (fun hHeld => ?_)
  iterate 11 (refine wpT_take rfl (by rfl) (by rfl) (by intro w' hSw; (try dsimp only [Mem, cellsAt] at hSw); go_simp; (try with_reducible rfl)) (by assumption) ?_; (try simp only [Act.put, List.setIfInBounds_toArray, List.set_cons_zero, List.set_cons_succ]))
  (refine wpT_step rfl (by rfl) (fun K hK => ?_); go_simp)
  (refine hK.out _ _ _ (fun _ h => h) (hHeld) (fun hHeld => ?_); clear hK; clear K; (try simp only [Act.put, List.setIfInBounds_toArray, List.set_cons_zero, List.set_cons_succ]))
  iterate 2 (refine wpT_take rfl (by rfl) (by rfl) (by intro w' hSw; (try dsimp only [Mem, cellsAt] at hSw); go_simp; (try with_reducible rfl)) (by assumption) ?_; (try simp only [Act.put, List.setIfInBounds_toArray, List.set_cons_zero, List.set_cons_succ]))
  (refine wpT_step rfl (by rfl) (fun K hK => ?_); go_simp)
  (refine hK.out _ _ _ (fun _ h => h) (by go_simp) (fun hHeld => ?_); clear hK; clear K; (try simp only [Act.put, List.setIfInBounds_toArray, List.set_cons_zero, List.set_cons_succ]))
  (refine wpT_nil ?_)
  clear hHeld
  go_wp2
  rw [rounds_succ]
  go_wp2
  have hB : Below w.heap.size w (((w.alloc (.cells #[.int .u64 a0, .int .u64 a1, .int .u64 a2, .int .u64 a3] 42)).alloc (.cells #[.int .u64 0, .int .u64 0, .int .u64 0, .int .u64 0] 42)).alloc (.cells #[.int .u64 l0, .int .u64 (l1 + g0), .int .u64 (l2 + g1), .int .u64 (l3 + g2)] 42)).drew.drew.drew := by (repeat (first | exact Below.refl _ _ | refine Below.drew ?_ | refine bl_drewN ?_ _ | (refine Below.alloc ?_ (by first | exact Nat.le_refl _ | (simp; done) | (simp; omega)) _)))
  have hM3 : Mem (((w.alloc (.cells #[.int .u64 a0, .int .u64 a1, .int .u64 a2, .int .u64 a3] 42)).alloc (.cells #[.int .u64 0, .int .u64 0, .int .u64 0, .int .u64 0] 42)).alloc (.cells #[.int .u64 l0, .int .u64 (l1 + g0), .int .u64 (l2 + g1), .int .u64 (l3 + g2)] 42)) [(w.heap.size + 1 + 1, [.int .u64 l0, .int .u64 (l1 + g0), .int .u64 (l2 + g1), .int .u64 (l3 + g2)]), (w.heap.size + 1, [.int .u64 0, .int .u64 0, .int .u64 0, .int .u64 0]), (w.heap.size, [.int .u64 a0, .int .u64 a1, .int .u64 a2, .int .u64 a3])] := by
    have h := Mem.al (Mem.al (Mem.al (mem_nil w) [.int .u64 a0, .int .u64 a1, .int .u64 a2, .int .u64 a3] 42) [.int .u64 0, .int .u64 0, .int .u64 0, .int .u64 0] 42) [.int .u64 l0, .int .u64 (l1 + g0), .int .u64 (l2 + g1), .int .u64 (l3 + g2)] 42
    simp only [World.size_alloc] at h
    exact h
  have hM := Lib.hid (show Mem (((w.alloc (.cells #[.int .u64 a0, .int .u64 a1, .int .u64 a2, .int .u64 a3] 42)).alloc (.cells #[.int .u64 0, .int .u64 0, .int .u64 0, .int .u64 0] 42)).alloc (.cells #[.int .u64 l0, .int .u64 (l1 + g0), .int .u64 (l2 + g1), .int .u64 (l3 + g2)] 42)).drew.drew.drew [(w.heap.size + 1 + 1, [.int .u64 l0, .int .u64 (l1 + g0), .int .u64 (l2 + g1), .int .u64 (l3 + g2)]), (w.heap.size + 1, [.int .u64 0, .int .u64 0, .int .u64 0, .int .u64 0]), (w.heap.size, [.int .u64 a0, .int .u64 a1, .int .u64 a2, .int .u64 a3])] from Mem.drew (Mem.drew (Mem.drew (hM3))))
  clear hM3
  generalize (((w.alloc (.cells #[.int .u64 a0, .int .u64 a1, .int .u64 a2, .int .u64 a3] 42)).alloc (.cells #[.int .u64 0, .int .u64 0, .int .u64 0, .int .u64 0] 42)).alloc (.cells #[.int .u64 l0, .int .u64 (l1 + g0), .int .u64 (l2 + g1), .int .u64 (l3 + g2)] 42)).drew.drew.drew = wl at *
  have hF : True := trivial
  refine wp_plan (fun x => Mem x [(w.heap.size + 1 + 1, [.int .u64 l0, .int .u64 (l1 + g0), .int .u64 (l2 + g1), .int .u64 (l3 + g2)]), (w.heap.size, [.int .u64 a0, .int .u64 a1, .int .u64 a2, .int .u64 a3])]) [2, 6] [0, 1, 3, 2, 4, 5, 6, 7] (by kernel_rfl) (by kernel_rfl) (Mem.drew ⟨hM.out.1, hM.out.2.2.1, trivial⟩) (fun hHeld => ?_)
  iterate 3 (refine wpT_take rfl (by rfl) (by rfl) (by intro w' hSw; (try dsimp only [Mem, cellsAt] at hSw); go_simp; (try with_reducible rfl)) (by assumption) ?_; (try simp only [Act.put, List.setIfInBounds_toArray, List.set_cons_zero, List.set_cons_succ]))
  (refine wpT_step rfl (by rfl) (fun K hK => ?_); go_simp)
  (refine (HL.out _).mono ?_; rintro e w1 ⟨rfl, hb⟩; have hB : Below w.heap.size w w1 := (by refine bl_then ?_ hb; (repeat (first | exact hB | refine bl_al ?_ _ | refine Below.setCell ?_ (by first | exact hgs | exact Nat.le_succ_of_le hgs | exact hgs2 | exact hgs3) _ | refine Below.drew ?_ | refine bl_drewN ?_ _))); (first | with_reducible have hM2 := Mem.later hb (hM.out) | with_reducible have hM2 := Mem.later hb (Mem.al (hM.out) _ _) | with_reducible have hM2 := Mem.later hb (Mem.al (Mem.al (hM.out) _ _) _ _) | with_reducible have hM2 := Mem.later hb (Mem.al (Mem.al (Mem.al (hM.out) _ _) _ _) _ _) | with_reducible have hM2 := Mem.later hb (Mem.al (Mem.al (Mem.al (Mem.al (hM.out) _ _) _ _) _ _) _ _) | with_reducible have hM2 := Mem.later hb (Mem.drew (hM.out)) | with_reducible have hM2 := Mem.later hb (Mem.drew (Mem.al (hM.out) _ _)) | with_reducible have hM2 := Mem.later hb (Mem.al (Mem.drew (hM.out)) _ _) | with_reducible have hM2 := Mem.later hb (Mem.al (Mem.drew (Mem.al (hM.out) _ _)) _ _) | with_reducible have hM2 := Mem.later hb (Mem.drew (Mem.al (Mem.al (hM.out) _ _) _ _)) | with_reducible have hM2 := Mem.later hb (Mem.al (Mem.al (Mem.drew (hM.out)) _ _) _ _) | with_reducible have hM2 := Mem.later hb (Mem.drew (Mem.drew (hM.out))) | with_reducible have hM2 := Mem.later hb (Mem.drew (Mem.al (Mem.drew (hM.out)) _ _)) | with_reducible have hM2 := Mem.later hb (Mem.drew (Mem.al (Mem.al (Mem.al (hM.out) _ _) _ _) _ _)) | with_reducible have hM2 := Mem.later hb (Mem.al (Mem.al (Mem.drew (Mem.al (hM.out) _ _)) _ _) _ _) | with_reducible have hM2 := Mem.later hb (Mem.drew (Mem.al (Mem.drew (Mem.al (hM.out) _ _)) _ _)) | with_reducible have hM2 := Mem.later hb (Mem.al (Mem.al (Mem.al (Mem.al (Mem.al (hM.out) _ _) _ _) _ _) _ _) _ _) | with_reducible have hM2 := Mem.later hb (Mem.al (Mem.al (Mem.al (Mem.al (Mem.al (Mem.al (hM.out) _ _) _ _) _ _) _ _) _ _) _ _) | with_reducible have hM2 := Mem.later hb (Mem.al (Mem.al (Mem.al (Mem.al (Mem.al (Mem.al (Mem.al (hM.out) _ _) _ _) _ _) _ _) _ _) _ _) _ _) | with_reducible have hM2 := Mem.later hb (Mem.al (Mem.al (Mem.al (Mem.al (Mem.al (Mem.al (Mem.al (Mem.al (hM.out) _ _) _ _) _ _) _ _) _ _) _ _) _ _) _ _)); (try simp only [World.size_alloc, size_drew] at hM2); clear hM; have hM := Lib.hid hM2; clear hF; have hF := hM2; (try simp only [Mem, cellsAt, World.size_alloc, Nat.zero_add, Nat.reduceAdd, and_true] at hF); clear hM2; clear hb; (refine hK.out _ _ _ (fun _ h => h) (⟨hM.out.1, hM.out.2.2.1, trivial⟩) (fun hHeld => ?_); clear hK; clear K; (try simp only [Act.put, List.setIfInBounds_toArray, List.set_cons_zero, List.set_cons_succ])))
  iterate 2 (refine wpT_take rfl (by rfl) (by rfl) (by intro w' hSw; (try dsimp only [Mem, cellsAt] at hSw); go_simp; (try with_reducible rfl)) (by assumption) ?_; (try simp only [Act.put, List.setIfInBounds_toArray, List.set_cons_zero, List.set_cons_succ]))
  (refine wpT_step rfl (by rfl) (fun K hK => ?_); go_simp)
  have D : Hid (∀ p ∈ [(w.heap.size + 1 + 1, [Value.int .u64 l0, .int .u64 (l1 + g0), .int .u64 (l2 + g1), .int .u64 (l3 + g2)]), (w.heap.size, [.int .u64 a0, .int .u64 a1, .int .u64 a2, .int .u64 a3])], p.1 ≠ w.heap.size + 1) := by
    intro p hp; simp at hp; rcases hp with rfl | rfl <;> (simp)
  have HW1 := Lib.hid (Mem.far (k := 3) (v := .int .u64 (l3 + g2)) D.out (Mem.far (k := 2) (v := .int .u64 (l2 + g1)) D.out (Mem.far (k := 1) (v := .int .u64 (l1 + g0)) D.out (Mem.far (k := 0) (v := .int .u64 (l0)) D.out (show Mem w1 [(w.heap.size + 1 + 1, [.int .u64 l0, .int .u64 (l1 + g0), .int .u64 (l2 + g1), .int .u64 (l3 + g2)]), (w.heap.size, [.int .u64 a0, .int .u64 a1, .int .u64 a2, .int .u64 a3])] from ⟨hM.out.1, hM.out.2.2.1, trivial⟩)))))
  (refine hK.out _ _ _ (fun _ h => h) (HW1.out) (fun hHeld => ?_); clear hK; clear K; (try simp only [Act.put, List.setIfInBounds_toArray, List.set_cons_zero, List.set_cons_succ]))
  iterate 1 (refine wpT_take rfl (by rfl) (by rfl) (by intro w' hSw; (try dsimp only [Mem, cellsAt] at hSw); go_simp; (try with_reducible rfl)) (by assumption) ?_; (try simp only [Act.put, List.setIfInBounds_toArray, List.set_cons_zero, List.set_cons_succ]))
  (refine wpT_nil ?_)
  go_wp2
  have hR : Mem (wset4 w1 (w.heap.size + 1) (l0) (l1 + g0) (l2 + g1) (l3 + g2)) [(w.heap.size + 1, [.int .u64 l0, .int .u64 (l1 + g0), .int .u64 (l2 + g1), .int .u64 (l3 + g2)])] := Mem.set4 (l0) (l1 + g0) (l2 + g1) (l3 + g2) (by intro p hp; cases hp) ⟨hM.out.2.1, trivial⟩
  have hBl : Below w.heap.size w (wset4 w1 (w.heap.size + 1) (l0) (l1 + g0) (l2 + g1) (l3 + g2)) := bl_set4 _ _ _ _ (Nat.le_succ _) hB
  simp only [Mem, cellsAt, Nat.zero_add, Nat.reduceAdd, and_true] at hR
  change bodyPost _ _ _ _ _ (wset4 w1 (w.heap.size + 1) (l0) (l1 + g0) (l2 + g1) (l3 + g2))
  generalize wset4 w1 (w.heap.size + 1) (l0) (l1 + g0) (l2 + g1) (l3 + g2) = wf at *
  have HLo := HLk.out
  refine bodyPost_ret (v := .tuple #[U4 (l0) (l1 + g0) (l2 + g1) (l3 + g2), .bool (decide (256 < (L : Int) + (k : Int)))]) (by simp [results, Tryd.results35, go_sem, hR]) rfl ?_
  exact ⟨_, _, _, _, _, by rw [HLo], HX.out.1, HX.out.2, hBl⟩

set_option maxRecDepth 100000 in
set_option maxHeartbeats 2000000 in
theorem shl_1 {a0 a1 a2 a3 : Int} (ha : B4 a0 a1 a2 a3) (n : Int) (k r : Nat) (hr : r < 64) (hkr : k = 64 * 1 + r) (hn : n = k ∨ (n ≤ 0 ∧ k = 0)) (w : World) :
    Calls Tryd.prog 35 #[U4 a0 a1 a2 a3, .int .i64 n] w fun e w' => ∃ s0 s1 s2 s3 c : Int, e = .returned (.tuple #[U4 s0 s1 s2 s3, .bool (decide (256 < lenN a0 a1 a2 a3 + k))]) ∧ B4 s0 s1 s2 s3 ∧ N4 a0 a1 a2 a3 * 2 ^ k = N4 s0 s1 s2 s3 + WW * c ∧ Below w.heap.size w w' := by
  obtain ⟨ep, he⟩ : ∃ ep, r + ep = 64 := ⟨64 - r, by omega⟩
  obtain ⟨l0, g0, L0, G0, e0, bl0, bg0, o0⟩ := sh_up a0 r ep ha.h0 he
  obtain ⟨l1, g1, L1, G1, e1, bl1, bg1, o1⟩ := sh_up a1 r ep ha.h1 he
  obtain ⟨l2, g2, L2, G2, e2, bl2, bg2, o2⟩ := sh_up a2 r ep ha.h2 he
  obtain ⟨l3, g3, L3, G3, e3, bl3, bg3, o3⟩ := sh_up a3 r ep ha.h3 he
  have O1 := (o1 g0 bg0).1
  have O2 := (o2 g1 bg1).1
  have O3 := (o3 g2 bg2).1
  obtain ⟨L, hL, hL1, _, _⟩ := len_holds ha
  have HL := Lib.hid (fun w => hL ▸ len_n ha w)
  have hwL : IntKind.i64.wrap ((L : Int) + (k : Int)) = (L : Int) + (k : Int) := wrap_small _ (by omega) (by omega)
  have hm : max n 0 = (k : Int) := by omega
  have hx : (64 : Int) - (r : Int) = (ep : Int) := by omega
  have hk256 : (k : Int) < 256 := by omega
  have hq : (k : Int).tdiv 64 = 1 := by rw [Int.tdiv_eq_ediv_of_nonneg (by omega)]; omega
  have htm : (k : Int).tmod 64 = (r : Int) := by rw [Int.tmod_eq_emod_of_nonneg (by omega)]; omega
  have hw0 : IntKind.i64.wrap 0 = 0 := by decide
  have hw1 : IntKind.i64.wrap 1 = 1 := by decide
  have hw2 : IntKind.i64.wrap 2 = 2 := by decide
  have hw3 : IntKind.i64.wrap 3 = 3 := by decide
  have hwr : IntKind.i64.wrap (r : Int) = (r : Int) := wrap_small _ (by omega) (by omega)
  have hwe : IntKind.i64.wrap (ep : Int) = (ep : Int) := wrap_small _ (by omega) (by omega)
  have HX : Hid (B4 (0) (l0) (l1 + g0) (l2 + g1) ∧ N4 a0 a1 a2 a3 * 2 ^ k = N4 (0) (l0) (l1 + g0) (l2 + g1) + WW * (l3 + g2 + WI * g3)) := by
    have hp := two_pow_pos r
    refine ⟨⟨?_, ?_, ?_, ?_⟩, ?_⟩
    · unfold WI at *; omega
    · unfold WI at *; omega
    · unfold WI at *; omega
    · unfold WI at *; omega
    · rw [pow_split k 1 r hkr, show (2 : Int) ^ (64 * 1) = WI by decide]
      have h := (up0 a0 a1 a2 a3 (2 ^ r) l0 l1 l2 l3 g0 g1 g2 g3 e0 e1 e2 e3).2.1
      exact h
  clear o0 o1 o2 o3 ha e0 e1 e2 e3 bl0 bl1 bl2 bl3 bg0 bg1 bg2 bg3 hkr
  have HLk := Lib.hid hL
  clear hL
  go_enter Tryd.func35, Tryd.ntmps35
  go_wp2
  refine wp_loop_rounds 5 ?_
  rw [rounds_succ]
  go_wp2
  rw [rounds_succ]
  go_wp2
  refine wp_plan (fun x => x.cell? ⟨w.heap.size, 0, none⟩ = some (.int .u64 a0)) [2, 14] [0, 1, 3, 4, 5, 6, 7, 8, 9, 10, 11, 2, 12, 13, 14] (by kernel_rfl) (by kernel_rfl) (by go_simp) (fun hHeld => ?_)
  iterate 11 (refine wpT_take rfl (by rfl) (by rfl) (by intro w' hSw; (try dsimp only [Mem, cellsAt] at hSw); go_simp; (try with_reducible rfl)) (by assumption) ?_; (try simp only [Act.put, List.setIfInBounds_toArray, List.set_cons_zero, List.set_cons_succ]))
  (refine wpT_step rfl (by rfl) (fun K hK => ?_); go_simp)
  (refine hK.out _ _ _ (fun _ h => h) (hHeld) (fun hHeld => ?_); clear hK; clear K; (try simp only [Act.put, List.setIfInBounds_toArray, List.set_cons_zero, List.set_cons_succ]))
  iterate 2 (refine wpT_take rfl (by rfl) (by rfl) (by intro w' hSw; (try dsimp only [Mem, cellsAt] at hSw); go_simp; (try with_reducible rfl)) (by assumption) ?_; (try simp only [Act.put, List.setIfInBounds_toArray, List.set_cons_zero, List.set_cons_succ]))
  (refine wpT_step rfl (by rfl) (fun K hK => ?_); go_simp)
  (refine hK.out _ _ _ (fun _ h => h) (by go_simp) (fun hHeld => ?_); clear hK; clear K; (try simp only [Act.put, List.setIfInBounds_toArray, List.set_cons_zero, List.set_cons_succ]))
  (refine wpT_nil ?_)
  clear hHeld
  go_wp2
  rw [rounds_succ]
  go_wp2
  refine wp_plan (fun x => x.cell? ⟨w.heap.size, 1, none⟩ = some (.int .u64 a1)) [2, 14] [0, 1, 3, 4, 5, 6, 7, 8, 9, 10, 11, 2, 12, 13, 14] (by kernel_rfl) (by kernel_rfl) (by go_simp) (fun hHeld => ?_)
  iterate 11 (refine wpT_take rfl (by rfl) (by rfl) (by intro w' hSw; (try dsimp only [Mem, cellsAt] at hSw); go_simp; (try with_reducible rfl)) (by assumption) ?_; (try simp only [Act.put, List.setIfInBounds_toArray, List.set_cons_zero, List.set_cons_succ]))
  (refine wpT_step rfl (by rfl) (fun K hK => ?_); go_simp)
  (refine hK.out _ _ _ (fun _ h => h) (hHeld) (fun hHeld => ?_); clear hK; clear K; (try simp only [Act.put, List.setIfInBounds_toArray, List.set_cons_zero, List.set_cons_succ]))
  iterate 2 (refine wpT_take rfl (by rfl) (by rfl) (by intro w' hSw; (try dsimp only [Mem, cellsAt] at hSw); go_simp; (try with_reducible rfl)) (by assumption) ?_; (try simp only [Act.put, List.setIfInBounds_toArray, List.set_cons_zero, List.set_cons_succ]))
  (refine wpT_step rfl (by rfl) (fun K hK => ?_); go_simp)
  (refine hK.out _ _ _ (fun _ h => h) (by go_simp) (fun hHeld => ?_); clear hK; clear K; (try simp only [Act.put, List.setIfInBounds_toArray, List.set_cons_zero, List.set_cons_succ]))
  (refine wpT_nil ?_)
  clear hHeld
  go_wp2
  rw [rounds_succ]
  go_wp2
  have hB : Below w.heap.size w (((w.alloc (.cells #[.int .u64 a0, .int .u64 a1, .int .u64 a2, .int .u64 a3] 42)).alloc (.cells #[.int .u64 0, .int .u64 0, .int .u64 0, .int .u64 0] 42)).alloc (.cells #[.int .u64 0, .int .u64 l0, .int .u64 (l1 + g0), .int .u64 (l2 + g1)] 42)).drew.drew := by (repeat (first | exact Below.refl _ _ | refine Below.drew ?_ | refine bl_drewN ?_ _ | (refine Below.alloc ?_ (by first | exact Nat.le_refl _ | (simp; done) | (simp; omega)) _)))
  have hM3 : Mem (((w.alloc (.cells #[.int .u64 a0, .int .u64 a1, .int .u64 a2, .int .u64 a3] 42)).alloc (.cells #[.int .u64 0, .int .u64 0, .int .u64 0, .int .u64 0] 42)).alloc (.cells #[.int .u64 0, .int .u64 l0, .int .u64 (l1 + g0), .int .u64 (l2 + g1)] 42)) [(w.heap.size + 1 + 1, [.int .u64 0, .int .u64 l0, .int .u64 (l1 + g0), .int .u64 (l2 + g1)]), (w.heap.size + 1, [.int .u64 0, .int .u64 0, .int .u64 0, .int .u64 0]), (w.heap.size, [.int .u64 a0, .int .u64 a1, .int .u64 a2, .int .u64 a3])] := by
    have h := Mem.al (Mem.al (Mem.al (mem_nil w) [.int .u64 a0, .int .u64 a1, .int .u64 a2, .int .u64 a3] 42) [.int .u64 0, .int .u64 0, .int .u64 0, .int .u64 0] 42) [.int .u64 0, .int .u64 l0, .int .u64 (l1 + g0), .int .u64 (l2 + g1)] 42
    simp only [World.size_alloc] at h
    exact h
  have hM := Lib.hid (show Mem (((w.alloc (.cells #[.int .u64 a0, .int .u64 a1, .int .u64 a2, .int .u64 a3] 42)).alloc (.cells #[.int .u64 0, .int .u64 0, .int .u64 0, .int .u64 0] 42)).alloc (.cells #[.int .u64 0, .int .u64 l0, .int .u64 (l1 + g0), .int .u64 (l2 + g1)] 42)).drew.drew [(w.heap.size + 1 + 1, [.int .u64 0, .int .u64 l0, .int .u64 (l1 + g0), .int .u64 (l2 + g1)]), (w.heap.size + 1, [.int .u64 0, .int .u64 0, .int .u64 0, .int .u64 0]), (w.heap.size, [.int .u64 a0, .int .u64 a1, .int .u64 a2, .int .u64 a3])] from Mem.drew (Mem.drew (hM3)))
  clear hM3
  generalize (((w.alloc (.cells #[.int .u64 a0, .int .u64 a1, .int .u64 a2, .int .u64 a3] 42)).alloc (.cells #[.int .u64 0, .int .u64 0, .int .u64 0, .int .u64 0] 42)).alloc (.cells #[.int .u64 0, .int .u64 l0, .int .u64 (l1 + g0), .int .u64 (l2 + g1)] 42)).drew.drew = wl at *
  have hF : True := trivial
  refine wp_plan (fun x => Mem x [(w.heap.size + 1 + 1, [.int .u64 0, .int .u64 l0, .int .u64 (l1 + g0), .int .u64 (l2 + g1)]), (w.heap.size, [.int .u64 a0, .int .u64 a1, .int .u64 a2, .int .u64 a3])]) [2, 6] [0, 1, 3, 2, 4, 5, 6, 7] (by kernel_rfl) (by kernel_rfl) (Mem.drew ⟨hM.out.1, hM.out.2.2.1, trivial⟩) (fun hHeld => ?_)
  iterate 3 (refine wpT_take rfl (by rfl) (by rfl) (by intro w' hSw; (try dsimp only [Mem, cellsAt] at hSw); go_simp; (try with_reducible rfl)) (by assumption) ?_; (try simp only [Act.put, List.setIfInBounds_toArray, List.set_cons_zero, List.set_cons_succ]))
  (refine wpT_step rfl (by rfl) (fun K hK => ?_); go_simp)
  (refine (HL.out _).mono ?_; rintro e w1 ⟨rfl, hb⟩; have hB : Below w.heap.size w w1 := (by refine bl_then ?_ hb; (repeat (first | exact hB | refine bl_al ?_ _ | refine Below.setCell ?_ (by first | exact hgs | exact Nat.le_succ_of_le hgs | exact hgs2 | exact hgs3) _ | refine Below.drew ?_ | refine bl_drewN ?_ _))); (first | with_reducible have hM2 := Mem.later hb (hM.out) | with_reducible have hM2 := Mem.later hb (Mem.al (hM.out) _ _) | with_reducible have hM2 := Mem.later hb (Mem.al (Mem.al (hM.out) _ _) _ _) | with_reducible have hM2 := Mem.later hb (Mem.al (Mem.al (Mem.al (hM.out) _ _) _ _) _ _) | with_reducible have hM2 := Mem.later hb (Mem.al (Mem.al (Mem.al (Mem.al (hM.out) _ _) _ _) _ _) _ _) | with_reducible have hM2 := Mem.later hb (Mem.drew (hM.out)) | with_reducible have hM2 := Mem.later hb (Mem.drew (Mem.al (hM.out) _ _)) | with_reducible have hM2 := Mem.later hb (Mem.al (Mem.drew (hM.out)) _ _) | with_reducible have hM2 := Mem.later hb (Mem.al (Mem.drew (Mem.al (hM.out) _ _)) _ _) | with_reducible have hM2 := Mem.later hb (Mem.drew (Mem.al (Mem.al (hM.out) _ _) _ _)) | with_reducible have hM2 := Mem.later hb (Mem.al (Mem.al (Mem.drew (hM.out)) _ _) _ _) | with_reducible have hM2 := Mem.later hb (Mem.drew (Mem.drew (hM.out))) | with_reducible have hM2 := Mem.later hb (Mem.drew (Mem.al (Mem.drew (hM.out)) _ _)) | with_reducible have hM2 := Mem.later hb (Mem.drew (Mem.al (Mem.al (Mem.al (hM.out) _ _) _ _) _ _)) | with_reducible have hM2 := Mem.later hb (Mem.al (Mem.al (Mem.drew (Mem.al (hM.out) _ _)) _ _) _ _) | with_reducible have hM2 := Mem.later hb (Mem.drew (Mem.al (Mem.drew (Mem.al (hM.out) _ _)) _ _)) | with_reducible have hM2 := Mem.later hb (Mem.al (Mem.al (Mem.al (Mem.al (Mem.al (hM.out) _ _) _ _) _ _) _ _) _ _) | with_reducible have hM2 := Mem.later hb (Mem.al (Mem.al (Mem.al (Mem.al (Mem.al (Mem.al (hM.out) _ _) _ _) _ _) _ _) _ _) _ _) | with_reducible have hM2 := Mem.later hb (Mem.al (Mem.al (Mem.al (Mem.al (Mem.al (Mem.al (Mem.al (hM.out) _ _) _ _) _ _) _ _) _ _) _ _) _ _) | with_reducible have hM2 := Mem.later hb (Mem.al (Mem.al (Mem.al (Mem.al (Mem.al (Mem.al (Mem.al (Mem.al (hM.out) _ _) _ _) _ _) _ _) _ _) _ _) _ _) _ _)); (try simp only [World.size_alloc, size_drew] at hM2); clear hM; have hM := Lib.hid hM2; clear hF; have hF := hM2; (try simp only [Mem, cellsAt, World.size_alloc, Nat.zero_add, Nat.reduceAdd, and_true] at hF); clear hM2; clear hb; (refine hK.out _ _ _ (fun _ h => h) (⟨hM.out.1, hM.out.2.2.1, trivial⟩) (fun hHeld => ?_); clear hK; clear K; (try simp only [Act.put, List.setIfInBounds_toArray, List.set_cons_zero, List.set_cons_succ])))
  iterate 2 (refine wpT_take rfl (by rfl) (by rfl) (by intro w' hSw; (try dsimp only [Mem, cellsAt] at hSw); go_simp; (try with_reducible rfl)) (by assumption) ?_; (try simp only [Act.put, List.setIfInBounds_toArray, List.set_cons_zero, List.set_cons_succ]))
  (refine wpT_step rfl (by rfl) (fun K hK => ?_); go_simp)
  have D : Hid (∀ p ∈ [(w.heap.size + 1 + 1, [Value.int .u64 0, .int .u64 l0, .int .u64 (l1 + g0), .int .u64 (l2 + g1)]), (w.heap.size, [.int .u64 a0, .int .u64 a1, .int .u64 a2, .int .u64 a3])], p.1 ≠ w.heap.size + 1) := by
    intro p hp; simp at hp; rcases hp with rfl | rfl <;> (simp)
  have HW1 := Lib.hid (Mem.far (k := 3) (v := .int .u64 (l2 + g1)) D.out (Mem.far (k := 2) (v := .int .u64 (l1 + g0)) D.out (Mem.far (k := 1) (v := .int .u64 (l0)) D.out (Mem.far (k := 0) (v := .int .u64 (0)) D.out (show Mem w1 [(w.heap.size + 1 + 1, [.int .u64 0, .int .u64 l0, .int .u64 (l1 + g0), .int .u64 (l2 + g1)]), (w.heap.size, [.int .u64 a0, .int .u64 a1, .int .u64 a2, .int .u64 a3])] from ⟨hM.out.1, hM.out.2.2.1, trivial⟩)))))
  (refine hK.out _ _ _ (fun _ h => h) (HW1.out) (fun hHeld => ?_); clear hK; clear K; (try simp only [Act.put, List.setIfInBounds_toArray, List.set_cons_zero, List.set_cons_succ]))
  iterate 1 (refine wpT_take rfl (by rfl) (by rfl) (by intro w' hSw; (try dsimp only [Mem, cellsAt] at hSw); go_simp; (try with_reducible rfl)) (by assumption) ?_; (try simp only [Act.put, List.setIfInBounds_toArray, List.set_cons_zero, List.set_cons_succ]))
  (refine wpT_nil ?_)
  go_wp2
  have hR : Mem (wset4 w1 (w.heap.size + 1) (0) (l0) (l1 + g0) (l2 + g1)) [(w.heap.size + 1, [.int .u64 0, .int .u64 l0, .int .u64 (l1 + g0), .int .u64 (l2 + g1)])] := Mem.set4 (0) (l0) (l1 + g0) (l2 + g1) (by intro p hp; cases hp) ⟨hM.out.2.1, trivial⟩
  have hBl : Below w.heap.size w (wset4 w1 (w.heap.size + 1) (0) (l0) (l1 + g0) (l2 + g1)) := bl_set4 _ _ _ _ (Nat.le_succ _) hB
  simp only [Mem, cellsAt, Nat.zero_add, Nat.reduceAdd, and_true] at hR
  change bodyPost _ _ _ _ _ (wset4 w1 (w.heap.size + 1) (0) (l0) (l1 + g0) (l2 + g1))
  generalize wset4 w1 (w.heap.size + 1) (0) (l0) (l1 + g0) (l2 + g1) = wf at *
  have HLo := HLk.out
  refine bodyPost_ret (v := .tuple #[U4 (0) (l0) (l1 + g0) (l2 + g1), .bool (decide (256 < (L : Int) + (k : Int)))]) (by simp [results, Tryd.results35, go_sem, hR]) rfl ?_
  exact ⟨_, _, _, _, _, by rw [HLo], HX.out.1, HX.out.2, hBl⟩

set_option maxRecDepth 100000 in
set_option maxHeartbeats 2000000 in
theorem shl_2 {a0 a1 a2 a3 : Int} (ha : B4 a0 a1 a2 a3) (n : Int) (k r : Nat) (hr : r < 64) (hkr : k = 64 * 2 + r) (hn : n = k ∨ (n ≤ 0 ∧ k = 0)) (w : World) :
    Calls Tryd.prog 35 #[U4 a0 a1 a2 a3, .int .i64 n] w fun e w' => ∃ s0 s1 s2 s3 c : Int, e = .returned (.tuple #[U4 s0 s1 s2 s3, .bool (decide (256 < lenN a0 a1 a2 a3 + k))]) ∧ B4 s0 s1 s2 s3 ∧ N4 a0 a1 a2 a3 * 2 ^ k = N4 s0 s1 s2 s3 + WW * c ∧ Below w.heap.size w w' := by
  obtain ⟨ep, he⟩ : ∃ ep, r + ep = 64 := ⟨64 - r, by omega⟩
  obtain ⟨l0, g0, L0, G0, e0, bl0, bg0, o0⟩ := sh_up a0 r ep ha.h0 he
  obtain ⟨l1, g1, L1, G1, e1, bl1, bg1, o1⟩ := sh_up a1 r ep ha.h1 he
  obtain ⟨l2, g2, L2, G2, e2, bl2, bg2, o2⟩ := sh_up a2 r ep ha.h2 he
  obtain ⟨l3, g3, L3, G3, e3, bl3, bg3, o3⟩ := sh_up a3 r ep ha.h3 he
  have O1 := (o1 g0 bg0).1
  have O2 := (o2 g1 bg1).1
  have O3 := (o3 g2 bg2).1
  obtain ⟨L, hL, hL1, _, _⟩ := len_holds ha
  have HL := Lib.hid (fun w => hL ▸ len_n ha w)
  have hwL : IntKind.i64.wrap ((L : Int) + (k : Int)) = (L : Int) + (k : Int) := wrap_small _ (by omega) (by omega)
  have hm : max n 0 = (k : Int) := by omega
  have hx : (64 : Int) - (r : Int) = (ep : Int) := by omega
  have hk256 : (k : Int) < 256 := by omega
  have hq : (k : Int).tdiv 64 = 2 := by rw [Int.tdiv_eq_ediv_of_nonneg (by omega)]; omega
  have htm : (k : Int).tmod 64 = (r : Int) := by rw [Int.tmod_eq_emod_of_nonneg (by omega)]; omega
  have hw0 : IntKind.i64.wrap 0 = 0 := by decide
  have hw1 : IntKind.i64.wrap 1 = 1 := by decide
  have hw2 : IntKind.i64.wrap 2 = 2 := by decide
  have hw3 : IntKind.i64.wrap 3 = 3 := by decide
  have hwr : IntKind.i64.wrap (r : Int) = (r : Int) := wrap_small _ (by omega) (by omega)
  have hwe : IntKind.i64.wrap (ep : Int) = (ep : Int) := wrap_small _ (by omega) (by omega)
  have HX : Hid (B4 (0) (0) (l0) (l1 + g0) ∧ N4 a0 a1 a2 a3 * 2 ^ k = N4 (0) (0) (l0) (l1 + g0) + WW * (l2 + g1 + WI * (l3 + g2 + WI * g3))) := by
    have hp := two_pow_pos r
    refine ⟨⟨?_, ?_, ?_, ?_⟩, ?_⟩
    · unfold WI at *; omega
    · unfold WI at *; omega
    · unfold WI at *; omega
    · unfold WI at *; omega
    · rw [pow_split k 2 r hkr, show (2 : Int) ^ (64 * 2) = WI * WI by decide]
      have h := (up0 a0 a1 a2 a3 (2 ^ r) l0 l1 l2 l3 g0 g1 g2 g3 e0 e1 e2 e3).2.2.1
      exact h
  clear o0 o1 o2 o3 ha e0 e1 e2 e3 bl0 bl1 bl2 bl3 bg0 bg1 bg2 bg3 hkr
  have HLk := Lib.hid hL
  clear hL
  go_enter Tryd.func35, Tryd.ntmps35
  go_wp2
  refine wp_loop_rounds 5 ?_
  rw [rounds_succ]
  go_wp2
  rw [rounds_succ]
  go_wp2
  refine wp_plan (fun x => x.cell? ⟨w.heap.size, 0, none⟩ = some (.int .u64 a0)) [2, 14] [0, 1, 3, 4, 5, 6, 7, 8, 9, 10, 11, 2, 12, 13, 14] (by kernel_rfl) (by kernel_rfl) (by go_simp) (fun hHeld => ?_)
  iterate 11 (refine wpT_take rfl (by rfl) (by rfl) (by intro w' hSw; (try dsimp only [Mem, cellsAt] at hSw); go_simp; (try with_reducible rfl)) (by assumption) ?_; (try simp only [Act.put, List.setIfInBounds_toArray, List.set_cons_zero, List.set_cons_succ]))
  (refine wpT_step rfl (by rfl) (fun K hK => ?_); go_simp)
  (refine hK.out _ _ _ (fun _ h => h) (hHeld) (fun hHeld => ?_); clear hK; clear K; (try simp only [Act.put, List.setIfInBounds_toArray, List.set_cons_zero, List.set_cons_succ]))
  iterate 2 (refine wpT_take rfl (by rfl) (by rfl) (by intro w' hSw; (try dsimp only [Mem, cellsAt] at hSw); go_simp; (try with_reducible rfl)) (by assumption) ?_; (try simp only [Act.put, List.setIfInBounds_toArray, List.set_cons_zero, List.set_cons_succ]))
  (refine wpT_step rfl (by rfl) (fun K hK => ?_); go_simp)
  (refine hK.out _ _ _ (fun _ h => h) (by go_simp) (fun hHeld => ?_); clear hK; clear K; (try simp only [Act.put, List.setIfInBounds_toArray, List.set_cons_zero, List.set_cons_succ]))
  (refine wpT_nil ?_)
  clear hHeld
  go_wp2
  rw [rounds_succ]
  go_wp2
  have hB : Below w.heap.size w (((w.alloc (.cells #[.int .u64 a0, .int .u64 a1, .int .u64 a2, .int .u64 a3] 42)).alloc (.cells #[.int .u64 0, .int .u64 0, .int .u64 0, .int .u64 0] 42)).alloc (.cells #[.int .u64 0, .int .u64 0, .int .u64 l0, .int .u64 (l1 + g0)] 42)).drew := by (repeat (first | exact Below.refl _ _ | refine Below.drew ?_ | refine bl_drewN ?_ _ | (refine Below.alloc ?_ (by first | exact Nat.le_refl _ | (simp; done) | (simp; omega)) _)))
  have hM3 : Mem (((w.alloc (.cells #[.int .u64 a0, .int .u64 a1, .int .u64 a2, .int .u64 a3] 42)).alloc (.cells #[.int .u64 0, .int .u64 0, .int .u64 0, .int .u64 0] 42)).alloc (.cells #[.int .u64 0, .int .u64 0, .int .u64 l0, .int .u64 (l1 + g0)] 42)) [(w.heap.size + 1 + 1, [.int .u64 0, .int .u64 0, .int .u64 l0, .int .u64 (l1 + g0)]), (w.heap.size + 1, [.int .u64 0, .int .u64 0, .int .u64 0, .int .u64 0]), (w.heap.size, [.int .u64 a0, .int .u64 a1, .int .u64 a2, .int .u64 a3])] := by
    have h := Mem.al (Mem.al (Mem.al (mem_nil w) [.int .u64 a0, .int .u64 a1, .int .u64 a2, .int .u64 a3] 42) [.int .u64 0, .int .u64 0, .int .u64 0, .int .u64 0] 42) [.int .u64 0, .int .u64 0, .int .u64 l0, .int .u64 (l1 + g0)] 42
    simp only [World.size_alloc] at h
    exact h
  have hM := Lib.hid (show Mem (((w.alloc (.cells #[.int .u64 a0, .int .u64 a1, .int .u64 a2, .int .u64 a3] 42)).alloc (.cells #[.int .u64 0, .int .u64 0, .int .u64 0, .int .u64 0] 42)).alloc (.cells #[.int .u64 0, .int .u64 0, .int .u64 l0, .int .u64 (l1 + g0)] 42)).drew [(w.heap.size + 1 + 1, [.int .u64 0, .int .u64 0, .int .u64 l0, .int .u64 (l1 + g0)]), (w.heap.size + 1, [.int .u64 0, .int .u64 0, .int .u64 0, .int .u64 0]), (w.heap.size, [.int .u64 a0, .int .u64 a1, .int .u64 a2, .int .u64 a3])] from Mem.drew (hM3))
  clear hM3
  generalize (((w.alloc (.cells #[.int .u64 a0, .int .u64 a1, .int .u64 a2, .int .u64 a3] 42)).alloc (.cells #[.int .u64 0, .int .u64 0, .int .u64 0, .int .u64 0] 42)).alloc (.cells #[.int .u64 0, .int .u64 0, .int .u64 l0, .int .u64 (l1 + g0)] 42)).drew = wl at *
  have hF : True := trivial
  refine wp_plan (fun x => Mem x [(w.heap.size + 1 + 1, [.int .u64 0, .int .u64 0, .int .u64 l0, .int .u64 (l1 + g0)]), (w.heap.size, [.int .u64 a0, .int .u64 a1, .int .u64 a2, .int .u64 a3])]) [2, 6] [0, 1, 3, 2, 4, 5, 6, 7] (by kernel_rfl) (by kernel_rfl) (Mem.drew ⟨hM.out.1, hM.out.2.2.1, trivial⟩) (fun hHeld => ?_)
  iterate 3 (refine wpT_take rfl (by rfl) (by rfl) (by intro w' hSw; (try dsimp only [Mem, cellsAt] at hSw); go_simp; (try with_reducible rfl)) (by assumption) ?_; (try simp only [Act.put, List.setIfInBounds_toArray, List.set_cons_zero, List.set_cons_succ]))
  (refine wpT_step rfl (by rfl) (fun K hK => ?_); go_simp)
  (refine (HL.out _).mono ?_; rintro e w1 ⟨rfl, hb⟩; have hB : Below w.heap.size w w1 := (by refine bl_then ?_ hb; (repeat (first | exact hB | refine bl_al ?_ _ | refine Below.setCell ?_ (by first | exact hgs | exact Nat.le_succ_of_le hgs | exact hgs2 | exact hgs3) _ | refine Below.drew ?_ | refine bl_drewN ?_ _))); (first | with_reducible have hM2 := Mem.later hb (hM.out) | with_reducible have hM2 := Mem.later hb (Mem.al (hM.out) _ _) | with_reducible have hM2 := Mem.later hb (Mem.al (Mem.al (hM.out) _ _) _ _) | with_reducible have hM2 := Mem.later hb (Mem.al (Mem.al (Mem.al (hM.out) _ _) _ _) _ _) | with_reducible have hM2 := Mem.later hb (Mem.al (Mem.al (Mem.al (Mem.al (hM.out) _ _) _ _) _ _) _ _) | with_reducible have hM2 := Mem.later hb (Mem.drew (hM.out)) | with_reducible have hM2 := Mem.later hb (Mem.drew (Mem.al (hM.out) _ _)) | with_reducible have hM2 := Mem.later hb (Mem.al (Mem.drew (hM.out)) _ _) | with_reducible have hM2 := Mem.later hb (Mem.al (Mem.drew (Mem.al (hM.out) _ _)) _ _) | with_reducible have hM2 := Mem.later hb (Mem.drew (Mem.al (Mem.al (hM.out) _ _) _ _)) | with_reducible have hM2 := Mem.later hb (Mem.al (Mem.al (Mem.drew (hM.out)) _ _) _ _) | with_reducible have hM2 := Mem.later hb (Mem.drew (Mem.drew (hM.out))) | with_reducible have hM2 := Mem.later hb (Mem.drew (Mem.al (Mem.drew (hM.out)) _ _)) | with_reducible have hM2 := Mem.later hb (Mem.drew (Mem.al (Mem.al (Mem.al (hM.out) _ _) _ _) _ _)) | with_reducible have hM2 := Mem.later hb (Mem.al (Mem.al (Mem.drew (Mem.al (hM.out) _ _)) _ _) _ _) | with_reducible have hM2 := Mem.later hb (Mem.drew (Mem.al (Mem.drew (Mem.al (hM.out) _ _)) _ _)) | with_reducible have hM2 := Mem.later hb (Mem.al (Mem.al (Mem.al (Mem.al (Mem.al (hM.out) _ _) _ _) _ _) _ _) _ _) | with_reducible have hM2 := Mem.later hb (Mem.al (Mem.al (Mem.al (Mem.al (Mem.al (Mem.al (hM.out) _ _) _ _) _ _) _ _) _ _) _ _) | with_reducible have hM2 := Mem.later hb (Mem.al (Mem.al (Mem.al (Mem.al (Mem.al (Mem.al (Mem.al (hM.out) _ _) _ _) _ _) _ _) _ _) _ _) _ _) | with_reducible have hM2 := Mem.later hb (Mem.al (Mem.al (Mem.al (Mem.al (Mem.al (Mem.al (Mem.al (Mem.al (hM.out) _ _) _ _) _ _) _ _) _ _) _ _) _ _) _ _)); (try simp only [World.size_alloc, size_drew] at hM2); clear hM; have hM := Lib.hid hM2; clear hF; have hF := hM2; (try simp only [Mem, cellsAt, World.size_alloc, Nat.zero_add, Nat.reduceAdd, and_true] at hF); clear hM2; clear hb; (refine hK.out _ _ _ (fun _ h => h) (⟨hM.out.1, hM.out.2.2.1, trivial⟩) (fun hHeld => ?_); clear hK; clear K; (try simp only [Act.put, List.setIfInBounds_toArray, List.set_cons_zero, List.set_cons_succ])))
  iterate 2 (refine wpT_take rfl (by rfl) (by rfl) (by intro w' hSw; (try dsimp only [Mem, cellsAt] at hSw); go_simp; (try with_reducible rfl)) (by assumption) ?_; (try simp only [Act.put, List.setIfInBounds_toArray, List.set_cons_zero, List.set_cons_succ]))
  (refine wpT_step rfl (by rfl) (fun K hK => ?_); go_simp)
  have D : Hid (∀ p ∈ [(w.heap.size + 1 + 1, [Value.int .u64 0, .int .u64 0, .int .u64 l0, .int .u64 (l1 + g0)]), (w.heap.size, [.int .u64 a0, .int .u64 a1, .int .u64 a2, .int .u64 a3])], p.1 ≠ w.heap.size + 1) := by
    intro p hp; simp at hp; rcases hp with rfl | rfl <;> (simp)
  have HW1 := Lib.hid (Mem.far (k := 3) (v := .int .u64 (l1 + g0)) D.out (Mem.far (k := 2) (v := .int .u64 (l0)) D.out (Mem.far (k := 1) (v := .int .u64 (0)) D.out (Mem.far (k := 0) (v := .int .u64 (0)) D.out (show Mem w1 [(w.heap.size + 1 + 1, [.int .u64 0, .int .u64 0, .int .u64 l0, .int .u64 (l1 + g0)]), (w.heap.size, [.int .u64 a0, .int .u64 a1, .int .u64 a2, .int .u64 a3])] from ⟨hM.out.1, hM.out.2.2.1, trivial⟩)))))
  (refine hK.out _ _ _ (fun _ h => h) (HW1.out) (fun hHeld => ?_); clear hK; clear K; (try simp only [Act.put, List.setIfInBounds_toArray, List.set_cons_zero, List.set_cons_succ]))
  iterate 1 (refine wpT_take rfl (by rfl) (by rfl) (by intro w' hSw; (try dsimp only [Mem, cellsAt] at hSw); go_simp; (try with_reducible rfl)) (by assumption) ?_; (try simp only [Act.put, List.setIfInBounds_toArray, List.set_cons_zero, List.set_cons_succ]))
  (refine wpT_nil ?_)
  go_wp2
  have hR : Mem (wset4 w1 (w.heap.size + 1) (0) (0) (l0) (l1 + g0)) [(w.heap.size + 1, [.int .u64 0, .int .u64 0, .int .u64 l0, .int .u64 (l1 + g0)])] := Mem.set4 (0) (0) (l0) (l1 + g0) (by intro p hp; cases hp) ⟨hM.out.2.1, trivial⟩
  have hBl : Below w.heap.size w (wset4 w1 (w.heap.size + 1) (0) (0) (l0) (l1 + g0)) := bl_set4 _ _ _ _ (Nat.le_succ _) hB
  simp only [Mem, cellsAt, Nat.zero_add, Nat.reduceAdd, and_true] at hR
  change bodyPost _ _ _ _ _ (wset4 w1 (w.heap.size + 1) (0) (0) (l0) (l1 + g0))
  generalize wset4 w1 (w.heap.size + 1) (0) (0) (l0) (l1 + g0) = wf at *
  have HLo := HLk.out
  refine bodyPost_ret (v := .tuple #[U4 (0) (0) (l0) (l1 + g0), .bool (decide (256 < (L : Int) + (k : Int)))]) (by simp [results, Tryd.results35, go_sem, hR]) rfl ?_
  exact ⟨_, _, _, _, _, by rw [HLo], HX.out.1, HX.out.2, hBl⟩

set_option maxRecDepth 100000 in
set_option maxHeartbeats 2000000 in
theorem shl_3 {a0 a1 a2 a3 : Int} (ha : B4 a0 a1 a2 a3) (n : Int) (k r : Nat) (hr : r < 64) (hkr : k = 64 * 3 + r) (hn : n = k ∨ (n ≤ 0 ∧ k = 0)) (w : World) :
    Calls Tryd.prog 35 #[U4 a0 a1 a2 a3, .int .i64 n] w fun e w' => ∃ s0 s1 s2 s3 c : Int, e = .returned (.tuple #[U4 s0 s1 s2 s3, .bool (decide (256 < lenN a0 a1 a2 a3 + k))]) ∧ B4 s0 s1 s2 s3 ∧ N4 a0 a1 a2 a3 * 2 ^ k = N4 s0 s1 s2 s3 + WW * c ∧ Below w.heap.size w w' := by
  obtain ⟨ep, he⟩ : ∃ ep, r + ep = 64 := ⟨64 - r, by omega⟩
  obtain ⟨l0, g0, L0, G0, e0, bl0, bg0, o0⟩ := sh_up a0 r ep ha.h0 he
  obtain ⟨l1, g1, L1, G1, e1, bl1, bg1, o1⟩ := sh_up a1 r ep ha.h1 he
  obtain ⟨l2, g2, L2, G2, e2, bl2, bg2, o2⟩ := sh_up a2 r ep ha.h2 he
  obtain ⟨l3, g3, L3, G3, e3, bl3, bg3, o3⟩ := sh_up a3 r ep ha.h3 he
  have O1 := (o1 g0 bg0).1
  have O2 := (o2 g1 bg1).1
  have O3 := (o3 g2 bg2).1
  obtain ⟨L, hL, hL1, _, _⟩ := len_holds ha
  have HL := Lib.hid (fun w => hL ▸ len_n ha w)
  have hwL : IntKind.i64.wrap ((L : Int) + (k : Int)) = (L : Int) + (k : Int) := wrap_small _ (by omega) (by omega)
  have hm : max n 0 = (k : Int) := by omega
  have hx : (64 : Int) - (r : Int) = (ep : Int) := by omega
  have hk256 : (k : Int) < 256 := by omega
  have hq : (k : Int).tdiv 64 = 3 := by rw [Int.tdiv_eq_ediv_of_nonneg (by omega)]; omega
  have htm : (k : Int).tmod 64 = (r : Int) := by rw [Int.tmod_eq_emod_of_nonneg (by omega)]; omega
  have hw0 : IntKind.i64.wrap 0 = 0 := by decide
  have hw1 : IntKind.i64.wrap 1 = 1 := by decide
  have hw2 : IntKind.i64.wrap 2 = 2 := by decide
  have hw3 : IntKind.i64.wrap 3 = 3 := by decide
  have hwr : IntKind.i64.wrap (r : Int) = (r : Int) := wrap_small _ (by omega) (by omega)
  have hwe : IntKind.i64.wrap (ep : Int) = (ep : Int) := wrap_small _ (by omega) (by omega)
  have HX : Hid (B4 (0) (0) (0) (l0) ∧ N4 a0 a1 a2 a3 * 2 ^ k = N4 (0) (0) (0) (l0) + WW * (l1 + g0 + WI * (l2 + g1 + WI * (l3 + g2 + WI * g3)))) := by
    have hp := two_pow_pos r
    refine ⟨⟨?_, ?_, ?_, ?_⟩, ?_⟩
    · unfold WI at *; omega
    · unfold WI at *; omega
    · unfold WI at *; omega
    · unfold WI at *; omega
    · rw [pow_split k 3 r hkr, show (2 : Int) ^ (64 * 3) = WI * WI * WI by decide]
      have h := (up0 a0 a1 a2 a3 (2 ^ r) l0 l1 l2 l3 g0 g1 g2 g3 e0 e1 e2 e3).2.2.2
      exact h
  clear o0 o1 o2 o3 ha e0 e1 e2 e3 bl0 bl1 bl2 bl3 bg0 bg1 bg2 bg3 hkr
  have HLk := Lib.hid hL
  clear hL
  go_enter Tryd.func35, Tryd.ntmps35
  go_wp2
  refine wp_loop_rounds 5 ?_
  rw [rounds_succ]
  go_wp2
  rw [rounds_succ]
  go_wp2
  have hB : Below w.heap.size w (((w.alloc (.cells #[.int .u64 a0, .int .u64 a1, .int .u64 a2, .int .u64 a3] 42)).alloc (.cells #[.int .u64 0, .int .u64 0, .int .u64 0, .int .u64 0] 42)).alloc (.cells #[.int .u64 0, .int .u64 0, .int .u64 0, .int .u64 l0] 42)) := by (repeat (first | exact Below.refl _ _ | refine Below.drew ?_ | refine bl_drewN ?_ _ | (refine Below.alloc ?_ (by first | exact Nat.le_refl _ | (simp; done) | (simp; omega)) _)))
  have hM3 : Mem (((w.alloc (.cells #[.int .u64 a0, .int .u64 a1, .int .u64 a2, .int .u64 a3] 42)).alloc (.cells #[.int .u64 0, .int .u64 0, .int .u64 0, .int .u64 0] 42)).alloc (.cells #[.int .u64 0, .int .u64 0, .int .u64 0, .int .u64 l0] 42)) [(w.heap.size + 1 + 1, [.int .u64 0, .int .u64 0, .int .u64 0, .int .u64 l0]), (w.heap.size + 1, [.int .u64 0, .int .u64 0, .int .u64 0, .int .u64 0]), (w.heap.size, [.int .u64 a0, .int .u64 a1, .int .u64 a2, .int .u64 a3])] := by
    have h := Mem.al (Mem.al (Mem.al (mem_nil w) [.int .u64 a0, .int .u64 a1, .int .u64 a2, .int .u64 a3] 42) [.int .u64 0, .int .u64 0, .int .u64 0, .int .u64 0] 42) [.int .u64 0, .int .u64 0, .int .u64 0, .int .u64 l0] 42
    simp only [World.size_alloc] at h
    exact h
  have hM := Lib.hid (show Mem (((w.alloc (.cells #[.int .u64 a0, .int .u64 a1, .int .u64 a2, .int .u64 a3] 42)).alloc (.cells #[.int .u64 0, .int .u64 0, .int .u64 0, .int .u64 0] 42)).alloc (.cells #[.int .u64 0, .int .u64 0, .int .u64 0, .int .u64 l0] 42)) [(w.heap.size + 1 + 1, [.int .u64 0, .int .u64 0, .int .u64 0, .int .u64 l0]), (w.heap.size + 1, [.int .u64 0, .int .u64 0, .int .u64 0, .int .u64 0]), (w.heap.size, [.int .u64 a0, .int .u64 a1, .int .u64 a2, .int .u64 a3])] from hM3)
  clear hM3
  generalize (((w.alloc (.cells #[.int .u64 a0, .int .u64 a1, .int .u64 a2, .int .u64 a3] 42)).alloc (.cells #[.int .u64 0, .int .u64 0, .int .u64 0, .int .u64 0] 42)).alloc (.cells #[.int .u64 0, .int .u64 0, .int .u64 0, .int .u64 l0] 42)) = wl at *
  have hF : True := trivial
  refine wp_plan (fun x => Mem x [(w.heap.size + 1 + 1, [.int .u64 0, .int .u64 0, .int .u64 0, .int .u64 l0]), (w.heap.size, [.int .u64 a0, .int .u64 a1, .int .u64 a2, .int .u64 a3])]) [2, 6] [0, 1, 3, 2, 4, 5, 6, 7] (by kernel_rfl) (by kernel_rfl) (Mem.drew ⟨hM.out.1, hM.out.2.2.1, trivial⟩) (fun hHeld => ?_)
  iterate 3 (refine wpT_take rfl (by rfl) (by rfl) (by intro w' hSw; (try dsimp only [Mem, cellsAt] at hSw); go_simp; (try with_reducible rfl)) (by assumption) ?_; (try simp only [Act.put, List.setIfInBounds_toArray, List.set_cons_zero, List.set_cons_succ]))
  (refine wpT_step rfl (by rfl) (fun K hK => ?_); go_simp)
  (refine (HL.out _).mono ?_; rintro e w1 ⟨rfl, hb⟩; have hB : Below w.heap.size w w1 := (by refine bl_then ?_ hb; (repeat (first | exact hB | refine bl_al ?_ _ | refine Below.setCell ?_ (by first | exact hgs | exact Nat.le_succ_of_le hgs | exact hgs2 | exact hgs3) _ | refine Below.drew ?_ | refine bl_drewN ?_ _))); (first | with_reducible have hM2 := Mem.later hb (hM.out) | with_reducible have hM2 := Mem.later hb (Mem.al (hM.out) _ _) | with_reducible have hM2 := Mem.later hb (Mem.al (Mem.al (hM.out) _ _) _ _) | with_reducible have hM2 := Mem.later hb (Mem.al (Mem.al (Mem.al (hM.out) _ _) _ _) _ _) | with_reducible have hM2 := Mem.later hb (Mem.al (Mem.al (Mem.al (Mem.al (hM.out) _ _) _ _) _ _) _ _) | with_reducible have hM2 := Mem.later hb (Mem.drew (hM.out)) | with_reducible have hM2 := Mem.later hb (Mem.drew (Mem.al (hM.out) _ _)) | with_reducible have hM2 := Mem.later hb (Mem.al (Mem.drew (hM.out)) _ _) | with_reducible have hM2 := Mem.later hb (Mem.al (Mem.drew (Mem.al (hM.out) _ _)) _ _) | with_reducible have hM2 := Mem.later hb (Mem.drew (Mem.al (Mem.al (hM.out) _ _) _ _)) | with_reducible have hM2 := Mem.later hb (Mem.al (Mem.al (Mem.drew (hM.out)) _ _) _ _) | with_reducible have hM2 := Mem.later hb (Mem.drew (Mem.drew (hM.out))) | with_reducible have hM2 := Mem.later hb (Mem.drew (Mem.al (Mem.drew (hM.out)) _ _)) | with_reducible have hM2 := Mem.later hb (Mem.drew (Mem.al (Mem.al (Mem.al (hM.out) _ _) _ _) _ _)) | with_reducible have hM2 := Mem.later hb (Mem.al (Mem.al (Mem.drew (Mem.al (hM.out) _ _)) _ _) _ _) | with_reducible have hM2 := Mem.later hb (Mem.drew (Mem.al (Mem.drew (Mem.al (hM.out) _ _)) _ _)) | with_reducible have hM2 := Mem.later hb (Mem.al (Mem.al (Mem.al (Mem.al (Mem.al (hM.out) _ _) _ _) _ _) _ _) _ _) | with_reducible have hM2 := Mem.later hb (Mem.al (Mem.al (Mem.al (Mem.al (Mem.al (Mem.al (hM.out) _ _) _ _) _ _) _ _) _ _) _ _) | with_reducible have hM2 := Mem.later hb (Mem.al (Mem.al (Mem.al (Mem.al (Mem.al (Mem.al (Mem.al (hM.out) _ _) _ _) _ _) _ _) _ _) _ _) _ _) | with_reducible have hM2 := Mem.later hb (Mem.al (Mem.al (Mem.al (Mem.al (Mem.al (Mem.al (Mem.al (Mem.al (hM.out) _ _) _ _) _ _) _ _) _ _) _ _) _ _) _ _)); (try simp only [World.size_alloc, size_drew] at hM2); clear hM; have hM := Lib.hid hM2; clear hF; have hF := hM2; (try simp only [Mem, cellsAt, World.size_alloc, Nat.zero_add, Nat.reduceAdd, and_true] at hF); clear hM2; clear hb; (refine hK.out _ _ _ (fun _ h => h) (⟨hM.out.1, hM.out.2.2.1, trivial⟩) (fun hHeld => ?_); clear hK; clear K; (try simp only [Act.put, List.setIfInBounds_toArray, List.set_cons_zero, List.set_cons_succ])))
  iterate 2 (refine wpT_take rfl (by rfl) (by rfl) (by intro w' hSw; (try dsimp only [Mem, cellsAt] at hSw); go_simp; (try with_reducible rfl)) (by assumption) ?_; (try simp only [Act.put, List.setIfInBounds_toArray, List.set_cons_zero, List.set_cons_succ]))
  (refine wpT_step rfl (by rfl) (fun K hK => ?_); go_simp)
  have D : Hid (∀ p ∈ [(w.heap.size + 1 + 1, [Value.int .u64 0, .int .u64 0, .int .u64 0, .int .u64 l0]), (w.heap.size, [.int .u64 a0, .int .u64 a1, .int .u64 a2, .int .u64 a3])], p.1 ≠ w.heap.size + 1) := by
    intro p hp; simp at hp; rcases hp with rfl | rfl <;> (simp)
  have HW1 := Lib.hid (Mem.far (k := 3) (v := .int .u64 (l0)) D.out (Mem.far (k := 2) (v := .int .u64 (0)) D.out (Mem.far (k := 1) (v := .int .u64 (0)) D.out (Mem.far (k := 0) (v := .int .u64 (0)) D.out (show Mem w1 [(w.heap.size + 1 + 1, [.int .u64 0, .int .u64 0, .int .u64 0, .int .u64 l0]), (w.heap.size, [.int .u64 a0, .int .u64 a1, .int .u64 a2, .int .u64 a3])] from ⟨hM.out.1, hM.out.2.2.1, trivial⟩)))))
  (refine hK.out _ _ _ (fun _ h => h) (HW1.out) (fun hHeld => ?_); clear hK; clear K; (try simp only [Act.put, List.setIfInBounds_toArray, List.set_cons_zero, List.set_cons_succ]))
  iterate 1 (refine wpT_take rfl (by rfl) (by rfl) (by intro w' hSw; (try dsimp only [Mem, cellsAt] at hSw); go_simp; (try with_reducible rfl)) (by assumption) ?_; (try simp only [Act.put, List.setIfInBounds_toArray, List.set_cons_zero, List.set_cons_succ]))
  (refine wpT_nil ?_)
  go_wp2
  have hR : Mem (wset4 w1 (w.heap.size + 1) (0) (0) (0) (l0)) [(w.heap.size + 1, [.int .u64 0, .int .u64 0, .int .u64 0, .int .u64 l0])] := Mem.set4 (0) (0) (0) (l0) (by intro p hp; cases hp) ⟨hM.out.2.1, trivial⟩
  have hBl : Below w.heap.size w (wset4 w1 (w.heap.size + 1) (0) (0) (0) (l0)) := bl_set4 _ _ _ _ (Nat.le_succ _) hB
  simp only [Mem, cellsAt, Nat.zero_add, Nat.reduceAdd, and_true] at hR
  change bodyPost _ _ _ _ _ (wset4 w1 (w.heap.size + 1) (0) (0) (0) (l0))
  generalize wset4 w1 (w.heap.size + 1) (0) (0) (0) (l0) = wf at *
  have HLo := HLk.out
  refine bodyPost_ret (v := .tuple #[U4 (0) (0) (0) (l0), .bool (decide (256 < (L : Int) + (k : Int)))]) (by simp [results, Tryd.results35, go_sem, hR]) rfl ?_
  exact ⟨_, _, _, _, _, by rw [HLo], HX.out.1, HX.out.2, hBl⟩
end Go.Proofs.YtfbhpkhpkaeagaaDoor

/- Package u256: numbers moved down, and two unlike. -/
namespace Go.Proofs.YtfbhpkhpkaeagaaDoor
set_option linter.unusedVariables false
set_option linter.unusedSimpArgs false
open Go.RowKit

theorem down1 (a0 a1 a2 a3 : Int) (r e : Nat) (he : r + e = 64) (l0 l1 l2 l3 g0 g1 g2 g3 : Int) (b0 : 0 ≤ l0) (c0 : l0 < WI) (e0 : a0 * 2 ^ e = l0 + WI * g0) (e1 : a1 * 2 ^ e = l1 + WI * g1) (e2 : a2 * 2 ^ e = l2 + WI * g2) (e3 : a3 * 2 ^ e = l3 + WI * g3)
    : N4 a0 a1 a2 a3 / 2 ^ r = N4 (l1 + g0) (l2 + g1) (l3 + g2) g3 := by
  rw [down0 a0 a1 a2 a3 r e he l0 l1 l2 l3 g0 g1 g2 g3 b0 c0 e0 e1 e2 e3, Int.add_comm l1, Int.add_comm l2, Int.add_comm l3]
theorem or_zero (y : Int) (hy : 0 ≤ y ∧ y < WI) : bits .or .u64 0 y = y := by
  have h := or_add 0 64 y ⟨hy.1, by have := hy.2; rw [WI_eq] at this; exact this⟩ (by rw [Int.mul_zero]; exact ⟨Int.le_refl 0, by decide⟩) (Nat.le_refl _)
  rw [Int.mul_zero, Int.zero_add] at h
  exact h
theorem neq_n {a0 a1 a2 a3 b0 b1 b2 b3 : Int} (ha : B4 a0 a1 a2 a3) (hb : B4 b0 b1 b2 b3) (w : World) :
    (binOp .neq 42 (U4 a0 a1 a2 a3) (U4 b0 b1 b2 b3)).run Tryd.prog w = .ok (.bool (!decide (N4 a0 a1 a2 a3 = N4 b0 b1 b2 b3))) w := by
  have := neqArr Tryd.prog 4 42 40 .u64 Tryd.underlying42 Tryd.underlying40 (by kernel_rfl) [a0, a1, a2, a3] [b0, b1, b2, b3] rfl rfl w
  rw [show ([a0, a1, a2, a3] == [b0, b1, b2, b3]) = decide (N4 a0 a1 a2 a3 = N4 b0 b1 b2 b3) by
    by_cases h : N4 a0 a1 a2 a3 = N4 b0 b1 b2 b3
    · obtain ⟨rfl, rfl, rfl, rfl⟩ := ha.inj hb h
      simp
    · have : ¬ (a0 = b0 ∧ a1 = b1 ∧ a2 = b2 ∧ a3 = b3) := fun ⟨h0, h1, h2, h3⟩ => h (by rw [h0, h1, h2, h3])
      rw [decide_eq_false h]
      simpa using this] at this
  exact this
end Go.Proofs.YtfbhpkhpkaeagaaDoor

/- Package u256: Shr, the walks (made by gen_sh.py). -/
namespace Go.Proofs.YtfbhpkhpkaeagaaDoor
set_option linter.unusedVariables false
set_option linter.unusedSimpArgs false
open Go.RowKit

set_option maxRecDepth 100000 in
set_option maxHeartbeats 2000000 in
theorem shr_0 {a0 a1 a2 a3 : Int} (ha : B4 a0 a1 a2 a3) (n : Int) (k r : Nat) (hr : r < 64) (hkr : k = 64 * 0 + r) (hn : n = k ∨ (n ≤ 0 ∧ k = 0)) (w : World) :
    Calls Tryd.prog 34 #[U4 a0 a1 a2 a3, .int .i64 n] w fun e w' => ∃ s0 s1 s2 s3 : Int, e = .returned (U4 s0 s1 s2 s3) ∧ B4 s0 s1 s2 s3 ∧ N4 s0 s1 s2 s3 = N4 a0 a1 a2 a3 / 2 ^ k ∧ Below w.heap.size w w' := by
  obtain ⟨ep, he⟩ : ∃ ep, r + ep = 64 := ⟨64 - r, by omega⟩
  obtain ⟨l0, g0, L0, G0, e0, bl0, bg0, o0⟩ := sh_up a0 ep r ha.h0 (by omega)
  obtain ⟨l1, g1, L1, G1, e1, bl1, bg1, o1⟩ := sh_up a1 ep r ha.h1 (by omega)
  obtain ⟨l2, g2, L2, G2, e2, bl2, bg2, o2⟩ := sh_up a2 ep r ha.h2 (by omega)
  obtain ⟨l3, g3, L3, G3, e3, bl3, bg3, o3⟩ := sh_up a3 ep r ha.h3 (by omega)
  have O1 := (o1 g0 bg0).2
  have O2 := (o2 g1 bg1).2
  have O3 := (o3 g2 bg2).2
  have hpe : (2 : Int) ^ ep ≤ WI := by
    rw [WI_eq, show (18446744073709551616 : Int) = 2 ^ 64 by decide, ← he, Int.pow_add]
    have := Int.mul_le_mul_of_nonneg_right (show 1 ≤ (2 : Int) ^ r from two_pow_pos r) (Int.le_of_lt (two_pow_pos ep))
    rw [Int.one_mul] at this
    exact this
  have Z0 := or_zero g0 ⟨bg0.1, by omega⟩
  have Z1 := or_zero g1 ⟨bg1.1, by omega⟩
  have Z2 := or_zero g2 ⟨bg2.1, by omega⟩
  have Z3 := or_zero g3 ⟨bg3.1, by omega⟩
  have hm : max n 0 = (k : Int) := by omega
  have hx : (64 : Int) - (r : Int) = (ep : Int) := by omega
  have hk256 : (k : Int) < 256 := by omega
  have hq : (k : Int).tdiv 64 = 0 := by rw [Int.tdiv_eq_ediv_of_nonneg (by omega)]; omega
  have htm : (k : Int).tmod 64 = (r : Int) := by rw [Int.tmod_eq_emod_of_nonneg (by omega)]; omega
  have hw0 : IntKind.i64.wrap 0 = 0 := by decide
  have hw1 : IntKind.i64.wrap 1 = 1 := by decide
  have hw2 : IntKind.i64.wrap 2 = 2 := by decide
  have hw3 : IntKind.i64.wrap 3 = 3 := by decide
  have hwr : IntKind.i64.wrap (r : Int) = (r : Int) := wrap_small _ (by omega) (by omega)
  have hwe : IntKind.i64.wrap (ep : Int) = (ep : Int) := wrap_small _ (by omega) (by omega)
  have HX : Hid (B4 (l1 + g0) (l2 + g1) (l3 + g2) (g3) ∧ N4 (l1 + g0) (l2 + g1) (l3 + g2) (g3) = N4 a0 a1 a2 a3 / 2 ^ k) := by
    have hp := two_pow_pos ep
    refine ⟨⟨?_, ?_, ?_, ?_⟩, ?_⟩
    · unfold WI at *; omega
    · unfold WI at *; omega
    · unfold WI at *; omega
    · unfold WI at *; omega
    · have z : (0 : Int) * 2 ^ ep = 0 + WI * 0 := by simp
      have h := down1 a0 a1 a2 a3 r ep he l0 l1 l2 l3 g0 g1 g2 g3 (by omega) (by have := bl0.2; omega) e0 e1 e2 e3
      rw [pow_split k 0 r hkr, show (2 : Int) ^ (64 * 0) = 1 by decide, Int.one_mul, h]
  clear o0 o1 o2 o3 ha e0 e1 e2 e3 bl0 bl1 bl2 bl3 bg0 bg1 bg2 bg3 hkr hpe
  go_enter Tryd.func34, Tryd.ntmps34
  go_wp2
  refine wp_loop_rounds 5 ?_
  rw [rounds_succ]
  go_wp2
  refine wp_plan (fun x => x.cell? ⟨w.heap.size, 0, none⟩ = some (.int .u64 a0)) [4, 12] [0, 1, 2, 3, 5, 6, 7, 8, 9, 4, 10, 11, 12] (by kernel_rfl) (by kernel_rfl) (by go_simp) (fun hHeld => ?_)
  iterate 9 (refine wpT_take rfl (by rfl) (by rfl) (by intro w' hSw; (try dsimp only [Mem, cellsAt] at hSw); go_simp; (try with_reducible rfl)) (by assumption) ?_; (try simp only [Act.put, List.setIfInBounds_toArray, List.set_cons_zero, List.set_cons_succ]))
  (refine wpT_step rfl (by rfl) (fun K hK => ?_); go_simp)
  (refine hK.out _ _ _ (fun _ h => h) (hHeld) (fun hHeld => ?_); clear hK; clear K; (try simp only [Act.put, List.setIfInBounds_toArray, List.set_cons_zero, List.set_cons_succ]))
  iterate 2 (refine wpT_take rfl (by rfl) (by rfl) (by intro w' hSw; (try dsimp only [Mem, cellsAt] at hSw); go_simp; (try with_reducible rfl)) (by assumption) ?_; (try simp only [Act.put, List.setIfInBounds_toArray, List.set_cons_zero, List.set_cons_succ]))
  (refine wpT_step rfl (by rfl) (fun K hK => ?_); go_simp)
  (refine hK.out _ _ _ (fun _ h => h) (by go_simp) (fun hHeld => ?_); clear hK; clear K; (try simp only [Act.put, List.setIfInBounds_toArray, List.set_cons_zero, List.set_cons_succ]))
  (refine wpT_nil ?_)
  clear hHeld
  go_wp2
  rw [rounds_succ]
  go_wp2
  refine wp_plan (fun x => x.cell? ⟨w.heap.size, 1, none⟩ = some (.int .u64 a1)) [4, 12] [0, 1, 2, 3, 5, 6, 7, 8, 9, 4, 10, 11, 12] (by kernel_rfl) (by kernel_rfl) (by go_simp) (fun hHeld => ?_)
  iterate 9 (refine wpT_take rfl (by rfl) (by rfl) (by intro w' hSw; (try dsimp only [Mem, cellsAt] at hSw); go_simp; (try with_reducible rfl)) (by assumption) ?_; (try simp only [Act.put, List.setIfInBounds_toArray, List.set_cons_zero, List.set_cons_succ]))
  (refine wpT_step rfl (by rfl) (fun K hK => ?_); go_simp)
  (refine hK.out _ _ _ (fun _ h => h) (hHeld) (fun hHeld => ?_); clear hK; clear K; (try simp only [Act.put, List.setIfInBounds_toArray, List.set_cons_zero, List.set_cons_succ]))
  iterate 2 (refine wpT_take rfl (by rfl) (by rfl) (by intro w' hSw; (try dsimp only [Mem, cellsAt] at hSw); go_simp; (try with_reducible rfl)) (by assumption) ?_; (try simp only [Act.put, List.setIfInBounds_toArray, List.set_cons_zero, List.set_cons_succ]))
  (refine wpT_step rfl (by rfl) (fun K hK => ?_); go_simp)
  (refine hK.out _ _ _ (fun _ h => h) (by go_simp) (fun hHeld => ?_); clear hK; clear K; (try simp only [Act.put, List.setIfInBounds_toArray, List.set_cons_zero, List.set_cons_succ]))
  (refine wpT_nil ?_)
  clear hHeld
  go_wp2
  refine wp_plan (fun x => x.cell? ⟨w.heap.size, 1, none⟩ = some (.int .u64 a1)) [5, 14] [0, 1, 2, 3, 4, 6, 7, 8, 9, 10, 11, 5, 12, 13, 14] (by kernel_rfl) (by kernel_rfl) (by go_simp) (fun hHeld => ?_)
  iterate 11 (refine wpT_take rfl (by rfl) (by rfl) (by intro w' hSw; (try dsimp only [Mem, cellsAt] at hSw); go_simp; (try with_reducible rfl)) (by assumption) ?_; (try simp only [Act.put, List.setIfInBounds_toArray, List.set_cons_zero, List.set_cons_succ]))
  (refine wpT_step rfl (by rfl) (fun K hK => ?_); go_simp)
  (refine hK.out _ _ _ (fun _ h => h) (hHeld) (fun hHeld => ?_); clear hK; clear K; (try simp only [Act.put, List.setIfInBounds_toArray, List.set_cons_zero, List.set_cons_succ]))
  iterate 2 (refine wpT_take rfl (by rfl) (by rfl) (by intro w' hSw; (try dsimp only [Mem, cellsAt] at hSw); go_simp; (try with_reducible rfl)) (by assumption) ?_; (try simp only [Act.put, List.setIfInBounds_toArray, List.set_cons_zero, List.set_cons_succ]))
  (refine wpT_step rfl (by rfl) (fun K hK => ?_); go_simp)
  (refine hK.out _ _ _ (fun _ h => h) (by go_simp) (fun hHeld => ?_); clear hK; clear K; (try simp only [Act.put, List.setIfInBounds_toArray, List.set_cons_zero, List.set_cons_succ]))
  (refine wpT_nil ?_)
  clear hHeld
  go_wp2
  rw [rounds_succ]
  go_wp2
  refine wp_plan (fun x => x.cell? ⟨w.heap.size, 2, none⟩ = some (.int .u64 a2)) [4, 12] [0, 1, 2, 3, 5, 6, 7, 8, 9, 4, 10, 11, 12] (by kernel_rfl) (by kernel_rfl) (by go_simp) (fun hHeld => ?_)
  iterate 9 (refine wpT_take rfl (by rfl) (by rfl) (by intro w' hSw; (try dsimp only [Mem, cellsAt] at hSw); go_simp; (try with_reducible rfl)) (by assumption) ?_; (try simp only [Act.put, List.setIfInBounds_toArray, List.set_cons_zero, List.set_cons_succ]))
  (refine wpT_step rfl (by rfl) (fun K hK => ?_); go_simp)
  (refine hK.out _ _ _ (fun _ h => h) (hHeld) (fun hHeld => ?_); clear hK; clear K; (try simp only [Act.put, List.setIfInBounds_toArray, List.set_cons_zero, List.set_cons_succ]))
  iterate 2 (refine wpT_take rfl (by rfl) (by rfl) (by intro w' hSw; (try dsimp only [Mem, cellsAt] at hSw); go_simp; (try with_reducible rfl)) (by assumption) ?_; (try simp only [Act.put, List.setIfInBounds_toArray, List.set_cons_zero, List.set_cons_succ]))
  (refine wpT_step rfl (by rfl) (fun K hK => ?_); go_simp)
  (refine hK.out _ _ _ (fun _ h => h) (by go_simp) (fun hHeld => ?_); clear hK; clear K; (try simp only [Act.put, List.setIfInBounds_toArray, List.set_cons_zero, List.set_cons_succ]))
  (refine wpT_nil ?_)
  clear hHeld
  go_wp2
  refine wp_plan (fun x => x.cell? ⟨w.heap.size, 2, none⟩ = some (.int .u64 a2)) [5, 14] [0, 1, 2, 3, 4, 6, 7, 8, 9, 10, 11, 5, 12, 13, 14] (by kernel_rfl) (by kernel_rfl) (by go_simp) (fun hHeld => ?_)
  iterate 11 (refine wpT_take rfl (by rfl) (by rfl) (by intro w' hSw; (try dsimp only [Mem, cellsAt] at hSw); go_simp; (try with_reducible rfl)) (by assumption) ?_; (try simp only [Act.put, List.setIfInBounds_toArray, List.set_cons_zero, List.set_cons_succ]))
  (refine wpT_step rfl (by rfl) (fun K hK => ?_); go_simp)
  (refine hK.out _ _ _ (fun _ h => h) (hHeld) (fun hHeld => ?_); clear hK; clear K; (try simp only [Act.put, List.setIfInBounds_toArray, List.set_cons_zero, List.set_cons_succ]))
  iterate 2 (refine wpT_take rfl (by rfl) (by rfl) (by intro w' hSw; (try dsimp only [Mem, cellsAt] at hSw); go_simp; (try with_reducible rfl)) (by assumption) ?_; (try simp only [Act.put, List.setIfInBounds_toArray, List.set_cons_zero, List.set_cons_succ]))
  (refine wpT_step rfl (by rfl) (fun K hK => ?_); go_simp)
  (refine hK.out _ _ _ (fun _ h => h) (by go_simp) (fun hHeld => ?_); clear hK; clear K; (try simp only [Act.put, List.setIfInBounds_toArray, List.set_cons_zero, List.set_cons_succ]))
  (refine wpT_nil ?_)
  clear hHeld
  go_wp2
  rw [rounds_succ]
  go_wp2
  refine wp_plan (fun x => x.cell? ⟨w.heap.size, 3, none⟩ = some (.int .u64 a3)) [4, 12] [0, 1, 2, 3, 5, 6, 7, 8, 9, 4, 10, 11, 12] (by kernel_rfl) (by kernel_rfl) (by go_simp) (fun hHeld => ?_)
  iterate 9 (refine wpT_take rfl (by rfl) (by rfl) (by intro w' hSw; (try dsimp only [Mem, cellsAt] at hSw); go_simp; (try with_reducible rfl)) (by assumption) ?_; (try simp only [Act.put, List.setIfInBounds_toArray, List.set_cons_zero, List.set_cons_succ]))
  (refine wpT_step rfl (by rfl) (fun K hK => ?_); go_simp)
  (refine hK.out _ _ _ (fun _ h => h) (hHeld) (fun hHeld => ?_); clear hK; clear K; (try simp only [Act.put, List.setIfInBounds_toArray, List.set_cons_zero, List.set_cons_succ]))
  iterate 2 (refine wpT_take rfl (by rfl) (by rfl) (by intro w' hSw; (try dsimp only [Mem, cellsAt] at hSw); go_simp; (try with_reducible rfl)) (by assumption) ?_; (try simp only [Act.put, List.setIfInBounds_toArray, List.set_cons_zero, List.set_cons_succ]))
  (refine wpT_step rfl (by rfl) (fun K hK => ?_); go_simp)
  (refine hK.out _ _ _ (fun _ h => h) (by go_simp) (fun hHeld => ?_); clear hK; clear K; (try simp only [Act.put, List.setIfInBounds_toArray, List.set_cons_zero, List.set_cons_succ]))
  (refine wpT_nil ?_)
  clear hHeld
  go_wp2
  refine wp_plan (fun x => x.cell? ⟨w.heap.size, 3, none⟩ = some (.int .u64 a3)) [5, 14] [0, 1, 2, 3, 4, 6, 7, 8, 9, 10, 11, 5, 12, 13, 14] (by kernel_rfl) (by kernel_rfl) (by go_simp) (fun hHeld => ?_)
  iterate 11 (refine wpT_take rfl (by rfl) (by rfl) (by intro w' hSw; (try dsimp only [Mem, cellsAt] at hSw); go_simp; (try with_reducible rfl)) (by assumption) ?_; (try simp only [Act.put, List.setIfInBounds_toArray, List.set_cons_zero, List.set_cons_succ]))
  (refine wpT_step rfl (by rfl) (fun K hK => ?_); go_simp)
  (refine hK.out _ _ _ (fun _ h => h) (hHeld) (fun hHeld => ?_); clear hK; clear K; (try simp only [Act.put, List.setIfInBounds_toArray, List.set_cons_zero, List.set_cons_succ]))
  iterate 2 (refine wpT_take rfl (by rfl) (by rfl) (by intro w' hSw; (try dsimp only [Mem, cellsAt] at hSw); go_simp; (try with_reducible rfl)) (by assumption) ?_; (try simp only [Act.put, List.setIfInBounds_toArray, List.set_cons_zero, List.set_cons_succ]))
  (refine wpT_step rfl (by rfl) (fun K hK => ?_); go_simp)
  (refine hK.out _ _ _ (fun _ h => h) (by go_simp) (fun hHeld => ?_); clear hK; clear K; (try simp only [Act.put, List.setIfInBounds_toArray, List.set_cons_zero, List.set_cons_succ]))
  (refine wpT_nil ?_)
  clear hHeld
  go_wp2
  rw [rounds_succ]
  go_wp2
  refine bodyPost_ret (v := U4 (l1 + g0) (l2 + g1) (l3 + g2) (g3)) (by simp [results, Tryd.results34, go_sem]) rfl ?_
  exact ⟨_, _, _, _, rfl, HX.out.1, HX.out.2, by (repeat (first | exact Below.refl _ _ | refine Below.drew ?_ | refine bl_drewN ?_ _ | (refine Below.alloc ?_ (by first | exact Nat.le_refl _ | (simp; done) | (simp; omega)) _)))⟩

set_option maxRecDepth 100000 in
set_option maxHeartbeats 2000000 in
theorem shr_1 {a0 a1 a2 a3 : Int} (ha : B4 a0 a1 a2 a3) (n : Int) (k r : Nat) (hr : r < 64) (hkr : k = 64 * 1 + r) (hn : n = k ∨ (n ≤ 0 ∧ k = 0)) (w : World) :
    Calls Tryd.prog 34 #[U4 a0 a1 a2 a3, .int .i64 n] w fun e w' => ∃ s0 s1 s2 s3 : Int, e = .returned (U4 s0 s1 s2 s3) ∧ B4 s0 s1 s2 s3 ∧ N4 s0 s1 s2 s3 = N4 a0 a1 a2 a3 / 2 ^ k ∧ Below w.heap.size w w' := by
  obtain ⟨ep, he⟩ : ∃ ep, r + ep = 64 := ⟨64 - r, by omega⟩
  obtain ⟨l0, g0, L0, G0, e0, bl0, bg0, o0⟩ := sh_up a0 ep r ha.h0 (by omega)
  obtain ⟨l1, g1, L1, G1, e1, bl1, bg1, o1⟩ := sh_up a1 ep r ha.h1 (by omega)
  obtain ⟨l2, g2, L2, G2, e2, bl2, bg2, o2⟩ := sh_up a2 ep r ha.h2 (by omega)
  obtain ⟨l3, g3, L3, G3, e3, bl3, bg3, o3⟩ := sh_up a3 ep r ha.h3 (by omega)
  have O1 := (o1 g0 bg0).2
  have O2 := (o2 g1 bg1).2
  have O3 := (o3 g2 bg2).2
  have hpe : (2 : Int) ^ ep ≤ WI := by
    rw [WI_eq, show (18446744073709551616 : Int) = 2 ^ 64 by decide, ← he, Int.pow_add]
    have := Int.mul_le_mul_of_nonneg_right (show 1 ≤ (2 : Int) ^ r from two_pow_pos r) (Int.le_of_lt (two_pow_pos ep))
    rw [Int.one_mul] at this
    exact this
  have Z0 := or_zero g0 ⟨bg0.1, by omega⟩
  have Z1 := or_zero g1 ⟨bg1.1, by omega⟩
  have Z2 := or_zero g2 ⟨bg2.1, by omega⟩
  have Z3 := or_zero g3 ⟨bg3.1, by omega⟩
  have hm : max n 0 = (k : Int) := by omega
  have hx : (64 : Int) - (r : Int) = (ep : Int) := by omega
  have hk256 : (k : Int) < 256 := by omega
  have hq : (k : Int).tdiv 64 = 1 := by rw [Int.tdiv_eq_ediv_of_nonneg (by omega)]; omega
  have htm : (k : Int).tmod 64 = (r : Int) := by rw [Int.tmod_eq_emod_of_nonneg (by omega)]; omega
  have hw0 : IntKind.i64.wrap 0 = 0 := by decide
  have hw1 : IntKind.i64.wrap 1 = 1 := by decide
  have hw2 : IntKind.i64.wrap 2 = 2 := by decide
  have hw3 : IntKind.i64.wrap 3 = 3 := by decide
  have hwr : IntKind.i64.wrap (r : Int) = (r : Int) := wrap_small _ (by omega) (by omega)
  have hwe : IntKind.i64.wrap (ep : Int) = (ep : Int) := wrap_small _ (by omega) (by omega)
  have HX : Hid (B4 (l2 + g1) (l3 + g2) (g3) (0) ∧ N4 (l2 + g1) (l3 + g2) (g3) (0) = N4 a0 a1 a2 a3 / 2 ^ k) := by
    have hp := two_pow_pos ep
    refine ⟨⟨?_, ?_, ?_, ?_⟩, ?_⟩
    · unfold WI at *; omega
    · unfold WI at *; omega
    · unfold WI at *; omega
    · unfold WI at *; omega
    · have z : (0 : Int) * 2 ^ ep = 0 + WI * 0 := by simp
      have h := down1 a1 a2 a3 0 r ep he l1 l2 l3 0 g1 g2 g3 0 (by omega) (by have := bl1.2; omega) e1 e2 e3 z
      have d1 : N4 a0 a1 a2 a3 / (2 : Int) ^ (64 * 1) = N4 a1 a2 a3 0 := by
        rw [show (2 : Int) ^ (64 * 1) = WI by decide]
        obtain ⟨h0, h1, h2, h3⟩ := ha
        unfold N4 WI at *
        omega
      rw [pow_split k 1 r hkr, ← Int.ediv_ediv_of_nonneg (Int.le_of_lt (two_pow_pos _)), d1, h]
      simp
  clear o0 o1 o2 o3 ha e0 e1 e2 e3 bl0 bl1 bl2 bl3 bg0 bg1 bg2 bg3 hkr hpe
  go_enter Tryd.func34, Tryd.ntmps34
  go_wp2
  refine wp_loop_rounds 5 ?_
  rw [rounds_succ]
  go_wp2
  refine wp_plan (fun x => x.cell? ⟨w.heap.size, 1, none⟩ = some (.int .u64 a1)) [4, 12] [0, 1, 2, 3, 5, 6, 7, 8, 9, 4, 10, 11, 12] (by kernel_rfl) (by kernel_rfl) (by go_simp) (fun hHeld => ?_)
  iterate 9 (refine wpT_take rfl (by rfl) (by rfl) (by intro w' hSw; (try dsimp only [Mem, cellsAt] at hSw); go_simp; (try with_reducible rfl)) (by assumption) ?_; (try simp only [Act.put, List.setIfInBounds_toArray, List.set_cons_zero, List.set_cons_succ]))
  (refine wpT_step rfl (by rfl) (fun K hK => ?_); go_simp)
  (refine hK.out _ _ _ (fun _ h => h) (hHeld) (fun hHeld => ?_); clear hK; clear K; (try simp only [Act.put, List.setIfInBounds_toArray, List.set_cons_zero, List.set_cons_succ]))
  iterate 2 (refine wpT_take rfl (by rfl) (by rfl) (by intro w' hSw; (try dsimp only [Mem, cellsAt] at hSw); go_simp; (try with_reducible rfl)) (by assumption) ?_; (try simp only [Act.put, List.setIfInBounds_toArray, List.set_cons_zero, List.set_cons_succ]))
  (refine wpT_step rfl (by rfl) (fun K hK => ?_); go_simp)
  (refine hK.out _ _ _ (fun _ h => h) (by go_simp) (fun hHeld => ?_); clear hK; clear K; (try simp only [Act.put, List.setIfInBounds_toArray, List.set_cons_zero, List.set_cons_succ]))
  (refine wpT_nil ?_)
  clear hHeld
  go_wp2
  rw [rounds_succ]
  go_wp2
  refine wp_plan (fun x => x.cell? ⟨w.heap.size, 2, none⟩ = some (.int .u64 a2)) [4, 12] [0, 1, 2, 3, 5, 6, 7, 8, 9, 4, 10, 11, 12] (by kernel_rfl) (by kernel_rfl) (by go_simp) (fun hHeld => ?_)
  iterate 9 (refine wpT_take rfl (by rfl) (by rfl) (by intro w' hSw; (try dsimp only [Mem, cellsAt] at hSw); go_simp; (try with_reducible rfl)) (by assumption) ?_; (try simp only [Act.put, List.setIfInBounds_toArray, List.set_cons_zero, List.set_cons_succ]))
  (refine wpT_step rfl (by rfl) (fun K hK => ?_); go_simp)
  (refine hK.out _ _ _ (fun _ h => h) (hHeld) (fun hHeld => ?_); clear hK; clear K; (try simp only [Act.put, List.setIfInBounds_toArray, List.set_cons_zero, List.set_cons_succ]))
  iterate 2 (refine wpT_take rfl (by rfl) (by rfl) (by intro w' hSw; (try dsimp only [Mem, cellsAt] at hSw); go_simp; (try with_reducible rfl)) (by assumption) ?_; (try simp only [Act.put, List.setIfInBounds_toArray, List.set_cons_zero, List.set_cons_succ]))
  (refine wpT_step rfl (by rfl) (fun K hK => ?_); go_simp)
  (refine hK.out _ _ _ (fun _ h => h) (by go_simp) (fun hHeld => ?_); clear hK; clear K; (try simp only [Act.put, List.setIfInBounds_toArray, List.set_cons_zero, List.set_cons_succ]))
  (refine wpT_nil ?_)
  clear hHeld
  go_wp2
  refine wp_plan (fun x => x.cell? ⟨w.heap.size, 2, none⟩ = some (.int .u64 a2)) [5, 14] [0, 1, 2, 3, 4, 6, 7, 8, 9, 10, 11, 5, 12, 13, 14] (by kernel_rfl) (by kernel_rfl) (by go_simp) (fun hHeld => ?_)
  iterate 11 (refine wpT_take rfl (by rfl) (by rfl) (by intro w' hSw; (try dsimp only [Mem, cellsAt] at hSw); go_simp; (try with_reducible rfl)) (by assumption) ?_; (try simp only [Act.put, List.setIfInBounds_toArray, List.set_cons_zero, List.set_cons_succ]))
  (refine wpT_step rfl (by rfl) (fun K hK => ?_); go_simp)
  (refine hK.out _ _ _ (fun _ h => h) (hHeld) (fun hHeld => ?_); clear hK; clear K; (try simp only [Act.put, List.setIfInBounds_toArray, List.set_cons_zero, List.set_cons_succ]))
  iterate 2 (refine wpT_take rfl (by rfl) (by rfl) (by intro w' hSw; (try dsimp only [Mem, cellsAt] at hSw); go_simp; (try with_reducible rfl)) (by assumption) ?_; (try simp only [Act.put, List.setIfInBounds_toArray, List.set_cons_zero, List.set_cons_succ]))
  (refine wpT_step rfl (by rfl) (fun K hK => ?_); go_simp)
  (refine hK.out _ _ _ (fun _ h => h) (by go_simp) (fun hHeld => ?_); clear hK; clear K; (try simp only [Act.put, List.setIfInBounds_toArray, List.set_cons_zero, List.set_cons_succ]))
  (refine wpT_nil ?_)
  clear hHeld
  go_wp2
  rw [rounds_succ]
  go_wp2
  refine wp_plan (fun x => x.cell? ⟨w.heap.size, 3, none⟩ = some (.int .u64 a3)) [4, 12] [0, 1, 2, 3, 5, 6, 7, 8, 9, 4, 10, 11, 12] (by kernel_rfl) (by kernel_rfl) (by go_simp) (fun hHeld => ?_)
  iterate 9 (refine wpT_take rfl (by rfl) (by rfl) (by intro w' hSw; (try dsimp only [Mem, cellsAt] at hSw); go_simp; (try with_reducible rfl)) (by assumption) ?_; (try simp only [Act.put, List.setIfInBounds_toArray, List.set_cons_zero, List.set_cons_succ]))
  (refine wpT_step rfl (by rfl) (fun K hK => ?_); go_simp)
  (refine hK.out _ _ _ (fun _ h => h) (hHeld) (fun hHeld => ?_); clear hK; clear K; (try simp only [Act.put, List.setIfInBounds_toArray, List.set_cons_zero, List.set_cons_succ]))
  iterate 2 (refine wpT_take rfl (by rfl) (by rfl) (by intro w' hSw; (try dsimp only [Mem, cellsAt] at hSw); go_simp; (try with_reducible rfl)) (by assumption) ?_; (try simp only [Act.put, List.setIfInBounds_toArray, List.set_cons_zero, List.set_cons_succ]))
  (refine wpT_step rfl (by rfl) (fun K hK => ?_); go_simp)
  (refine hK.out _ _ _ (fun _ h => h) (by go_simp) (fun hHeld => ?_); clear hK; clear K; (try simp only [Act.put, List.setIfInBounds_toArray, List.set_cons_zero, List.set_cons_succ]))
  (refine wpT_nil ?_)
  clear hHeld
  go_wp2
  refine wp_plan (fun x => x.cell? ⟨w.heap.size, 3, none⟩ = some (.int .u64 a3)) [5, 14] [0, 1, 2, 3, 4, 6, 7, 8, 9, 10, 11, 5, 12, 13, 14] (by kernel_rfl) (by kernel_rfl) (by go_simp) (fun hHeld => ?_)
  iterate 11 (refine wpT_take rfl (by rfl) (by rfl) (by intro w' hSw; (try dsimp only [Mem, cellsAt] at hSw); go_simp; (try with_reducible rfl)) (by assumption) ?_; (try simp only [Act.put, List.setIfInBounds_toArray, List.set_cons_zero, List.set_cons_succ]))
  (refine wpT_step rfl (by rfl) (fun K hK => ?_); go_simp)
  (refine hK.out _ _ _ (fun _ h => h) (hHeld) (fun hHeld => ?_); clear hK; clear K; (try simp only [Act.put, List.setIfInBounds_toArray, List.set_cons_zero, List.set_cons_succ]))
  iterate 2 (refine wpT_take rfl (by rfl) (by rfl) (by intro w' hSw; (try dsimp only [Mem, cellsAt] at hSw); go_simp; (try with_reducible rfl)) (by assumption) ?_; (try simp only [Act.put, List.setIfInBounds_toArray, List.set_cons_zero, List.set_cons_succ]))
  (refine wpT_step rfl (by rfl) (fun K hK => ?_); go_simp)
  (refine hK.out _ _ _ (fun _ h => h) (by go_simp) (fun hHeld => ?_); clear hK; clear K; (try simp only [Act.put, List.setIfInBounds_toArray, List.set_cons_zero, List.set_cons_succ]))
  (refine wpT_nil ?_)
  clear hHeld
  go_wp2
  rw [rounds_succ]
  go_wp2
  refine bodyPost_ret (v := U4 (l2 + g1) (l3 + g2) (g3) (0)) (by simp [results, Tryd.results34, go_sem]) rfl ?_
  exact ⟨_, _, _, _, rfl, HX.out.1, HX.out.2, by (repeat (first | exact Below.refl _ _ | refine Below.drew ?_ | refine bl_drewN ?_ _ | (refine Below.alloc ?_ (by first | exact Nat.le_refl _ | (simp; done) | (simp; omega)) _)))⟩

set_option maxRecDepth 100000 in
set_option maxHeartbeats 2000000 in
theorem shr_2 {a0 a1 a2 a3 : Int} (ha : B4 a0 a1 a2 a3) (n : Int) (k r : Nat) (hr : r < 64) (hkr : k = 64 * 2 + r) (hn : n = k ∨ (n ≤ 0 ∧ k = 0)) (w : World) :
    Calls Tryd.prog 34 #[U4 a0 a1 a2 a3, .int .i64 n] w fun e w' => ∃ s0 s1 s2 s3 : Int, e = .returned (U4 s0 s1 s2 s3) ∧ B4 s0 s1 s2 s3 ∧ N4 s0 s1 s2 s3 = N4 a0 a1 a2 a3 / 2 ^ k ∧ Below w.heap.size w w' := by
  obtain ⟨ep, he⟩ : ∃ ep, r + ep = 64 := ⟨64 - r, by omega⟩
  obtain ⟨l0, g0, L0, G0, e0, bl0, bg0, o0⟩ := sh_up a0 ep r ha.h0 (by omega)
  obtain ⟨l1, g1, L1, G1, e1, bl1, bg1, o1⟩ := sh_up a1 ep r ha.h1 (by omega)
  obtain ⟨l2, g2, L2, G2, e2, bl2, bg2, o2⟩ := sh_up a2 ep r ha.h2 (by omega)
  obtain ⟨l3, g3, L3, G3, e3, bl3, bg3, o3⟩ := sh_up a3 ep r ha.h3 (by omega)
  have O1 := (o1 g0 bg0).2
  have O2 := (o2 g1 bg1).2
  have O3 := (o3 g2 bg2).2
  have hpe : (2 : Int) ^ ep ≤ WI := by
    rw [WI_eq, show (18446744073709551616 : Int) = 2 ^ 64 by decide, ← he, Int.pow_add]
    have := Int.mul_le_mul_of_nonneg_right (show 1 ≤ (2 : Int) ^ r from two_pow_pos r) (Int.le_of_lt (two_pow_pos ep))
    rw [Int.one_mul] at this
    exact this
  have Z0 := or_zero g0 ⟨bg0.1, by omega⟩
  have Z1 := or_zero g1 ⟨bg1.1, by omega⟩
  have Z2 := or_zero g2 ⟨bg2.1, by omega⟩
  have Z3 := or_zero g3 ⟨bg3.1, by omega⟩
  have hm : max n 0 = (k : Int) := by omega
  have hx : (64 : Int) - (r : Int) = (ep : Int) := by omega
  have hk256 : (k : Int) < 256 := by omega
  have hq : (k : Int).tdiv 64 = 2 := by rw [Int.tdiv_eq_ediv_of_nonneg (by omega)]; omega
  have htm : (k : Int).tmod 64 = (r : Int) := by rw [Int.tmod_eq_emod_of_nonneg (by omega)]; omega
  have hw0 : IntKind.i64.wrap 0 = 0 := by decide
  have hw1 : IntKind.i64.wrap 1 = 1 := by decide
  have hw2 : IntKind.i64.wrap 2 = 2 := by decide
  have hw3 : IntKind.i64.wrap 3 = 3 := by decide
  have hwr : IntKind.i64.wrap (r : Int) = (r : Int) := wrap_small _ (by omega) (by omega)
  have hwe : IntKind.i64.wrap (ep : Int) = (ep : Int) := wrap_small _ (by omega) (by omega)
  have HX : Hid (B4 (l3 + g2) (g3) (0) (0) ∧ N4 (l3 + g2) (g3) (0) (0) = N4 a0 a1 a2 a3 / 2 ^ k) := by
    have hp := two_pow_pos ep
    refine ⟨⟨?_, ?_, ?_, ?_⟩, ?_⟩
    · unfold WI at *; omega
    · unfold WI at *; omega
    · unfold WI at *; omega
    · unfold WI at *; omega
    · have z : (0 : Int) * 2 ^ ep = 0 + WI * 0 := by simp
      have h := down1 a2 a3 0 0 r ep he l2 l3 0 0 g2 g3 0 0 (by omega) (by have := bl2.2; omega) e2 e3 z z
      have d1 : N4 a0 a1 a2 a3 / (2 : Int) ^ (64 * 2) = N4 a2 a3 0 0 := by
        rw [show (2 : Int) ^ (64 * 2) = WI * WI by decide]
        obtain ⟨h0, h1, h2, h3⟩ := ha
        unfold N4 WI at *
        omega
      rw [pow_split k 2 r hkr, ← Int.ediv_ediv_of_nonneg (Int.le_of_lt (two_pow_pos _)), d1, h]
      simp
  clear o0 o1 o2 o3 ha e0 e1 e2 e3 bl0 bl1 bl2 bl3 bg0 bg1 bg2 bg3 hkr hpe
  go_enter Tryd.func34, Tryd.ntmps34
  go_wp2
  refine wp_loop_rounds 5 ?_
  rw [rounds_succ]
  go_wp2
  refine wp_plan (fun x => x.cell? ⟨w.heap.size, 2, none⟩ = some (.int .u64 a2)) [4, 12] [0, 1, 2, 3, 5, 6, 7, 8, 9, 4, 10, 11, 12] (by kernel_rfl) (by kernel_rfl) (by go_simp) (fun hHeld => ?_)
  iterate 9 (refine wpT_take rfl (by rfl) (by rfl) (by intro w' hSw; (try dsimp only [Mem, cellsAt] at hSw); go_simp; (try with_reducible rfl)) (by assumption) ?_; (try simp only [Act.put, List.setIfInBounds_toArray, List.set_cons_zero, List.set_cons_succ]))
  (refine wpT_step rfl (by rfl) (fun K hK => ?_); go_simp)
  (refine hK.out _ _ _ (fun _ h => h) (hHeld) (fun hHeld => ?_); clear hK; clear K; (try simp only [Act.put, List.setIfInBounds_toArray, List.set_cons_zero, List.set_cons_succ]))
  iterate 2 (refine wpT_take rfl (by rfl) (by rfl) (by intro w' hSw; (try dsimp only [Mem, cellsAt] at hSw); go_simp; (try with_reducible rfl)) (by assumption) ?_; (try simp only [Act.put, List.setIfInBounds_toArray, List.set_cons_zero, List.set_cons_succ]))
  (refine wpT_step rfl (by rfl) (fun K hK => ?_); go_simp)
  (refine hK.out _ _ _ (fun _ h => h) (by go_simp) (fun hHeld => ?_); clear hK; clear K; (try simp only [Act.put, List.setIfInBounds_toArray, List.set_cons_zero, List.set_cons_succ]))
  (refine wpT_nil ?_)
  clear hHeld
  go_wp2
  rw [rounds_succ]
  go_wp2
  refine wp_plan (fun x => x.cell? ⟨w.heap.size, 3, none⟩ = some (.int .u64 a3)) [4, 12] [0, 1, 2, 3, 5, 6, 7, 8, 9, 4, 10, 11, 12] (by kernel_rfl) (by kernel_rfl) (by go_simp) (fun hHeld => ?_)
  iterate 9 (refine wpT_take rfl (by rfl) (by rfl) (by intro w' hSw; (try dsimp only [Mem, cellsAt] at hSw); go_simp; (try with_reducible rfl)) (by assumption) ?_; (try simp only [Act.put, List.setIfInBounds_toArray, List.set_cons_zero, List.set_cons_succ]))
  (refine wpT_step rfl (by rfl) (fun K hK => ?_); go_simp)
  (refine hK.out _ _ _ (fun _ h => h) (hHeld) (fun hHeld => ?_); clear hK; clear K; (try simp only [Act.put, List.setIfInBounds_toArray, List.set_cons_zero, List.set_cons_succ]))
  iterate 2 (refine wpT_take rfl (by rfl) (by rfl) (by intro w' hSw; (try dsimp only [Mem, cellsAt] at hSw); go_simp; (try with_reducible rfl)) (by assumption) ?_; (try simp only [Act.put, List.setIfInBounds_toArray, List.set_cons_zero, List.set_cons_succ]))
  (refine wpT_step rfl (by rfl) (fun K hK => ?_); go_simp)
  (refine hK.out _ _ _ (fun _ h => h) (by go_simp) (fun hHeld => ?_); clear hK; clear K; (try simp only [Act.put, List.setIfInBounds_toArray, List.set_cons_zero, List.set_cons_succ]))
  (refine wpT_nil ?_)
  clear hHeld
  go_wp2
  refine wp_plan (fun x => x.cell? ⟨w.heap.size, 3, none⟩ = some (.int .u64 a3)) [5, 14] [0, 1, 2, 3, 4, 6, 7, 8, 9, 10, 11, 5, 12, 13, 14] (by kernel_rfl) (by kernel_rfl) (by go_simp) (fun hHeld => ?_)
  iterate 11 (refine wpT_take rfl (by rfl) (by rfl) (by intro w' hSw; (try dsimp only [Mem, cellsAt] at hSw); go_simp; (try with_reducible rfl)) (by assumption) ?_; (try simp only [Act.put, List.setIfInBounds_toArray, List.set_cons_zero, List.set_cons_succ]))
  (refine wpT_step rfl (by rfl) (fun K hK => ?_); go_simp)
  (refine hK.out _ _ _ (fun _ h => h) (hHeld) (fun hHeld => ?_); clear hK; clear K; (try simp only [Act.put, List.setIfInBounds_toArray, List.set_cons_zero, List.set_cons_succ]))
  iterate 2 (refine wpT_take rfl (by rfl) (by rfl) (by intro w' hSw; (try dsimp only [Mem, cellsAt] at hSw); go_simp; (try with_reducible rfl)) (by assumption) ?_; (try simp only [Act.put, List.setIfInBounds_toArray, List.set_cons_zero, List.set_cons_succ]))
  (refine wpT_step rfl (by rfl) (fun K hK => ?_); go_simp)
  (refine hK.out _ _ _ (fun _ h => h) (by go_simp) (fun hHeld => ?_); clear hK; clear K; (try simp only [Act.put, List.setIfInBounds_toArray, List.set_cons_zero, List.set_cons_succ]))
  (refine wpT_nil ?_)
  clear hHeld
  go_wp2
  rw [rounds_succ]
  go_wp2
  refine bodyPost_ret (v := U4 (l3 + g2) (g3) (0) (0)) (by simp [results, Tryd.results34, go_sem]) rfl ?_
  exact ⟨_, _, _, _, rfl, HX.out.1, HX.out.2, by (repeat (first | exact Below.refl _ _ | refine Below.drew ?_ | refine bl_drewN ?_ _ | (refine Below.alloc ?_ (by first | exact Nat.le_refl _ | (simp; done) | (simp; omega)) _)))⟩

set_option maxRecDepth 100000 in
set_option maxHeartbeats 2000000 in
theorem shr_3 {a0 a1 a2 a3 : Int} (ha : B4 a0 a1 a2 a3) (n : Int) (k r : Nat) (hr : r < 64) (hkr : k = 64 * 3 + r) (hn : n = k ∨ (n ≤ 0 ∧ k = 0)) (w : World) :
    Calls Tryd.prog 34 #[U4 a0 a1 a2 a3, .int .i64 n] w fun e w' => ∃ s0 s1 s2 s3 : Int, e = .returned (U4 s0 s1 s2 s3) ∧ B4 s0 s1 s2 s3 ∧ N4 s0 s1 s2 s3 = N4 a0 a1 a2 a3 / 2 ^ k ∧ Below w.heap.size w w' := by
  obtain ⟨ep, he⟩ : ∃ ep, r + ep = 64 := ⟨64 - r, by omega⟩
  obtain ⟨l0, g0, L0, G0, e0, bl0, bg0, o0⟩ := sh_up a0 ep r ha.h0 (by omega)
  obtain ⟨l1, g1, L1, G1, e1, bl1, bg1, o1⟩ := sh_up a1 ep r ha.h1 (by omega)
  obtain ⟨l2, g2, L2, G2, e2, bl2, bg2, o2⟩ := sh_up a2 ep r ha.h2 (by omega)
  obtain ⟨l3, g3, L3, G3, e3, bl3, bg3, o3⟩ := sh_up a3 ep r ha.h3 (by omega)
  have O1 := (o1 g0 bg0).2
  have O2 := (o2 g1 bg1).2
  have O3 := (o3 g2 bg2).2
  have hpe : (2 : Int) ^ ep ≤ WI := by
    rw [WI_eq, show (18446744073709551616 : Int) = 2 ^ 64 by decide, ← he, Int.pow_add]
    have := Int.mul_le_mul_of_nonneg_right (show 1 ≤ (2 : Int) ^ r from two_pow_pos r) (Int.le_of_lt (two_pow_pos ep))
    rw [Int.one_mul] at this
    exact this
  have Z0 := or_zero g0 ⟨bg0.1, by omega⟩
  have Z1 := or_zero g1 ⟨bg1.1, by omega⟩
  have Z2 := or_zero g2 ⟨bg2.1, by omega⟩
  have Z3 := or_zero g3 ⟨bg3.1, by omega⟩
  have hm : max n 0 = (k : Int) := by omega
  have hx : (64 : Int) - (r : Int) = (ep : Int) := by omega
  have hk256 : (k : Int) < 256 := by omega
  have hq : (k : Int).tdiv 64 = 3 := by rw [Int.tdiv_eq_ediv_of_nonneg (by omega)]; omega
  have htm : (k : Int).tmod 64 = (r : Int) := by rw [Int.tmod_eq_emod_of_nonneg (by omega)]; omega
  have hw0 : IntKind.i64.wrap 0 = 0 := by decide
  have hw1 : IntKind.i64.wrap 1 = 1 := by decide
  have hw2 : IntKind.i64.wrap 2 = 2 := by decide
  have hw3 : IntKind.i64.wrap 3 = 3 := by decide
  have hwr : IntKind.i64.wrap (r : Int) = (r : Int) := wrap_small _ (by omega) (by omega)
  have hwe : IntKind.i64.wrap (ep : Int) = (ep : Int) := wrap_small _ (by omega) (by omega)
  have HX : Hid (B4 (g3) (0) (0) (0) ∧ N4 (g3) (0) (0) (0) = N4 a0 a1 a2 a3 / 2 ^ k) := by
    have hp := two_pow_pos ep
    refine ⟨⟨?_, ?_, ?_, ?_⟩, ?_⟩
    · unfold WI at *; omega
    · unfold WI at *; omega
    · unfold WI at *; omega
    · unfold WI at *; omega
    · have z : (0 : Int) * 2 ^ ep = 0 + WI * 0 := by simp
      have h := down1 a3 0 0 0 r ep he l3 0 0 0 g3 0 0 0 (by omega) (by have := bl3.2; omega) e3 z z z
      have d1 : N4 a0 a1 a2 a3 / (2 : Int) ^ (64 * 3) = N4 a3 0 0 0 := by
        rw [show (2 : Int) ^ (64 * 3) = WI * WI * WI by decide]
        obtain ⟨h0, h1, h2, h3⟩ := ha
        unfold N4 WI at *
        omega
      rw [pow_split k 3 r hkr, ← Int.ediv_ediv_of_nonneg (Int.le_of_lt (two_pow_pos _)), d1, h]
      simp
  clear o0 o1 o2 o3 ha e0 e1 e2 e3 bl0 bl1 bl2 bl3 bg0 bg1 bg2 bg3 hkr hpe
  go_enter Tryd.func34, Tryd.ntmps34
  go_wp2
  refine wp_loop_rounds 5 ?_
  rw [rounds_succ]
  go_wp2
  refine wp_plan (fun x => x.cell? ⟨w.heap.size, 3, none⟩ = some (.int .u64 a3)) [4, 12] [0, 1, 2, 3, 5, 6, 7, 8, 9, 4, 10, 11, 12] (by kernel_rfl) (by kernel_rfl) (by go_simp) (fun hHeld => ?_)
  iterate 9 (refine wpT_take rfl (by rfl) (by rfl) (by intro w' hSw; (try dsimp only [Mem, cellsAt] at hSw); go_simp; (try with_reducible rfl)) (by assumption) ?_; (try simp only [Act.put, List.setIfInBounds_toArray, List.set_cons_zero, List.set_cons_succ]))
  (refine wpT_step rfl (by rfl) (fun K hK => ?_); go_simp)
  (refine hK.out _ _ _ (fun _ h => h) (hHeld) (fun hHeld => ?_); clear hK; clear K; (try simp only [Act.put, List.setIfInBounds_toArray, List.set_cons_zero, List.set_cons_succ]))
  iterate 2 (refine wpT_take rfl (by rfl) (by rfl) (by intro w' hSw; (try dsimp only [Mem, cellsAt] at hSw); go_simp; (try with_reducible rfl)) (by assumption) ?_; (try simp only [Act.put, List.setIfInBounds_toArray, List.set_cons_zero, List.set_cons_succ]))
  (refine wpT_step rfl (by rfl) (fun K hK => ?_); go_simp)
  (refine hK.out _ _ _ (fun _ h => h) (by go_simp) (fun hHeld => ?_); clear hK; clear K; (try simp only [Act.put, List.setIfInBounds_toArray, List.set_cons_zero, List.set_cons_succ]))
  (refine wpT_nil ?_)
  clear hHeld
  go_wp2
  rw [rounds_succ]
  go_wp2
  refine bodyPost_ret (v := U4 (g3) (0) (0) (0)) (by simp [results, Tryd.results34, go_sem]) rfl ?_
  exact ⟨_, _, _, _, rfl, HX.out.1, HX.out.2, by (repeat (first | exact Below.refl _ _ | refine Below.drew ?_ | refine bl_drewN ?_ _ | (refine Below.alloc ?_ (by first | exact Nat.le_refl _ | (simp; done) | (simp; omega)) _)))⟩
end Go.Proofs.YtfbhpkhpkaeagaaDoor

/- Package u256: Shl and Shr, as numbers. (Boxes as Mem: hM.) -/
namespace Go.Proofs.YtfbhpkhpkaeagaaDoor
set_option linter.unusedVariables false
set_option linter.unusedSimpArgs false
open Go.RowKit

theorem pow2_le {a b : Nat} (h : a ≤ b) : (2 : Int) ^ a ≤ 2 ^ b := by
  obtain ⟨c, rfl⟩ := Nat.exists_eq_add_of_le h
  rw [Int.pow_add]
  have := Int.mul_le_mul_of_nonneg_left (show (1 : Int) ≤ 2 ^ c from two_pow_pos c) (Int.le_of_lt (two_pow_pos a))
  rw [Int.mul_one] at this
  exact this
theorem ww_pow : WW = 2 ^ 256 := by decide
/-- what is lost, from the length -/
theorem lost_iff {a0 a1 a2 a3 : Int} (ha : B4 a0 a1 a2 a3) (k : Nat) (hk : k < 256) : decide (256 < lenN a0 a1 a2 a3 + (k : Int)) = decide (WW ≤ N4 a0 a1 a2 a3 * 2 ^ k) := by
  obtain ⟨L, hL, hL1, hL2, hL3⟩ := len_holds ha
  apply decide_eq_decide.2
  rw [hL, ww_pow]
  have hp := two_pow_pos k
  constructor
  · intro h
    have h1 := Int.mul_le_mul_of_nonneg_right (hL3 (by omega)) (Int.le_of_lt hp)
    rw [← Int.pow_add] at h1
    refine Int.le_trans ?_ h1
    exact pow2_le (by omega)
  · intro h
    rcases Nat.lt_or_ge 256 (L + k) with h1 | h1
    · omega
    · exfalso
      have h2 := Int.mul_lt_mul_of_pos_right hL2 hp
      rw [← Int.pow_add] at h2
      have h3 : (2 : Int) ^ (L + k) ≤ 2 ^ 256 := pow2_le h1
      omega

set_option maxRecDepth 100000 in
set_option maxHeartbeats 1000000 in
theorem shl_big {a0 a1 a2 a3 : Int} (ha : B4 a0 a1 a2 a3) (n : Int) (hn : 256 ≤ n) (w : World) :
    Calls Tryd.prog 35 #[U4 a0 a1 a2 a3, .int .i64 n] w fun e w' => e = .returned (.tuple #[U4 0 0 0 0, .bool (!decide (N4 a0 a1 a2 a3 = 0))]) ∧ Below w.heap.size w w' := by
  have hE := neq_n ha b4_zero
  rw [n4_zero] at hE
  have hm : max n 0 = n := by omega
  clear ha
  obtain ⟨z, hz⟩ : ∃ z, decide (N4 a0 a1 a2 a3 = 0) = z := ⟨_, rfl⟩
  rw [hz] at hE ⊢
  clear hz
  go_enter Tryd.func35, Tryd.ntmps35
  go_wp2
  refine wp_plan (fun x => Mem x [(w.heap.size, [.int .u64 a0, .int .u64 a1, .int .u64 a2, .int .u64 a3])]) [4] [0, 1, 2, 3, 4, 5] (by kernel_rfl) (by kernel_rfl) (Mem.drew (Mem.skip (Mem.al (mem_nil w) _ _) _)) (fun hHeld => ?_)
  iterate 4 (refine wpT_take rfl (by rfl) (by rfl) (by intro w' hSw; (try dsimp only [Mem, cellsAt] at hSw); go_simp; (try with_reducible rfl)) (by assumption) ?_; (try simp only [Act.put, List.setIfInBounds_toArray, List.set_cons_zero, List.set_cons_succ]))
  (refine wpT_step rfl (by rfl) (fun K hK => ?_); go_simp)
  (refine hK.out _ _ _ (fun _ h => h) (Mem.drew (Mem.skip (Mem.al (mem_nil w) _ _) _)) (fun hHeld => ?_); clear hK; clear K; (try simp only [Act.put, List.setIfInBounds_toArray, List.set_cons_zero, List.set_cons_succ]))
  iterate 1 (refine wpT_take rfl (by rfl) (by rfl) (by intro w' hSw; (try dsimp only [Mem, cellsAt] at hSw); go_simp; (try with_reducible rfl)) (by assumption) ?_; (try simp only [Act.put, List.setIfInBounds_toArray, List.set_cons_zero, List.set_cons_succ]))
  (refine wpT_nil ?_)
  go_wp2
  refine bodyPost_ret (v := .tuple #[U4 0 0 0 0, .bool (!z)]) (by simp [results, Tryd.results35, go_sem]) rfl ?_
  exact ⟨rfl, by (repeat (first | exact Below.refl _ _ | refine Below.drew ?_ | refine bl_drewN ?_ _ | (refine Below.alloc ?_ (by first | exact Nat.le_refl _ | (simp; done) | (simp; omega)) _)))⟩
set_option maxRecDepth 100000 in
set_option maxHeartbeats 1000000 in
theorem shr_big {a0 a1 a2 a3 : Int} (n : Int) (hn : 256 ≤ n) (w : World) :
    Calls Tryd.prog 34 #[U4 a0 a1 a2 a3, .int .i64 n] w fun e w' => e = .returned (U4 0 0 0 0) ∧ Below w.heap.size w w' := by
  have hm : max n 0 = n := by omega
  go_enter Tryd.func34, Tryd.ntmps34
  go_wp2
  refine bodyPost_ret (v := U4 0 0 0 0) (by simp [results, Tryd.results34, go_sem]) rfl ?_
  exact ⟨rfl, by (repeat (first | exact Below.refl _ _ | refine Below.drew ?_ | refine bl_drewN ?_ _ | (refine Below.alloc ?_ (by first | exact Nat.le_refl _ | (simp; done) | (simp; omega)) _)))⟩

/-- moved up, by any number -/
theorem shl_n {a0 a1 a2 a3 s0 s1 s2 s3 : Int} (ha : B4 a0 a1 a2 a3) (hs : B4 s0 s1 s2 s3) (n : Int) (h : N4 s0 s1 s2 s3 = N4 a0 a1 a2 a3 * 2 ^ n.toNat % WW) (c : Bool) (hc : decide (WW ≤ N4 a0 a1 a2 a3 * 2 ^ n.toNat) = c) (w : World) :
    Calls Tryd.prog 35 #[U4 a0 a1 a2 a3, .int .i64 n] w fun e w' => e = .returned (.tuple #[U4 s0 s1 s2 s3, .bool c]) ∧ Below w.heap.size w w' := by
  subst hc
  have key : ∀ t0 t1 t2 t3 c : Int, B4 t0 t1 t2 t3 → N4 a0 a1 a2 a3 * 2 ^ n.toNat = N4 t0 t1 t2 t3 + WW * c → t0 = s0 ∧ t1 = s1 ∧ t2 = s2 ∧ t3 = s3 := by
    intro t0 t1 t2 t3 c ht hc
    refine ht.inj hs ?_
    rw [h, hc, Int.add_mul_emod_self_left]
    have := ht.nn
    exact (Int.emod_eq_of_lt this.1 this.2).symm
  rcases Int.lt_or_le n 256 with hn | hn
  · have hk : n.toNat < 256 := by omega
    have hn2 : n = (n.toNat : Int) ∨ (n ≤ 0 ∧ n.toNat = 0) := by omega
    have fin : ∀ e w', (∃ t0 t1 t2 t3 c : Int, e = Ending.returned (.tuple #[U4 t0 t1 t2 t3, .bool (decide (256 < lenN a0 a1 a2 a3 + (n.toNat : Int)))]) ∧ B4 t0 t1 t2 t3 ∧ N4 a0 a1 a2 a3 * 2 ^ n.toNat = N4 t0 t1 t2 t3 + WW * c ∧ Below w.heap.size w w') →
        e = .returned (.tuple #[U4 s0 s1 s2 s3, .bool (decide (WW ≤ N4 a0 a1 a2 a3 * 2 ^ n.toNat))]) ∧ Below w.heap.size w w' := by
      rintro e w' ⟨t0, t1, t2, t3, c, rfl, ht, hc, hb⟩
      obtain ⟨rfl, rfl, rfl, rfl⟩ := key _ _ _ _ _ ht hc
      exact ⟨by rw [lost_iff ha _ hk], hb⟩
    have hc : n.toNat / 64 = 0 ∨ n.toNat / 64 = 1 ∨ n.toNat / 64 = 2 ∨ n.toNat / 64 = 3 := by omega
    rcases hc with hc | hc | hc | hc
    · exact (shl_0 ha n n.toNat (n.toNat % 64) (by omega) (by omega) hn2 w).mono fin
    · exact (shl_1 ha n n.toNat (n.toNat % 64) (by omega) (by omega) hn2 w).mono fin
    · exact (shl_2 ha n n.toNat (n.toNat % 64) (by omega) (by omega) hn2 w).mono fin
    · exact (shl_3 ha n n.toNat (n.toNat % 64) (by omega) (by omega) hn2 w).mono fin
  · obtain ⟨m, hm⟩ : ∃ m, n.toNat = 256 + m := ⟨n.toNat - 256, by omega⟩
    have hp := two_pow_pos m
    have e1 : N4 a0 a1 a2 a3 * 2 ^ n.toNat = N4 0 0 0 0 + WW * (N4 a0 a1 a2 a3 * 2 ^ m) := by
      rw [hm, Int.pow_add, ← ww_pow, n4_zero]
      have : N4 a0 a1 a2 a3 * (WW * 2 ^ m) = WW * (N4 a0 a1 a2 a3 * 2 ^ m) := by ac_rfl
      omega
    obtain ⟨rfl, rfl, rfl, rfl⟩ := key _ _ _ _ _ b4_zero e1
    refine (shl_big ha n hn w).mono ?_
    rintro e w' ⟨rfl, hb⟩
    refine ⟨?_, hb⟩
    congr 6
    have hna := ha.nn
    rw [e1, n4_zero, Int.zero_add]
    by_cases hz : N4 a0 a1 a2 a3 = 0
    · rw [hz, Int.zero_mul, Int.mul_zero]
      decide
    · have h1 : 1 ≤ N4 a0 a1 a2 a3 * 2 ^ m := by
        have := Int.mul_le_mul (show 1 ≤ N4 a0 a1 a2 a3 by omega) (show (1 : Int) ≤ 2 ^ m from hp) (by decide) hna.1
        rw [Int.one_mul] at this
        exact this
      have h2 := Int.mul_le_mul_of_nonneg_left h1 (show 0 ≤ WW by decide)
      rw [Int.mul_one] at h2
      rw [decide_eq_false hz, decide_eq_true h2]
      rfl
/-- moved down, by any number -/
theorem shr_n {a0 a1 a2 a3 s0 s1 s2 s3 : Int} (ha : B4 a0 a1 a2 a3) (hs : B4 s0 s1 s2 s3) (n : Int) (h : N4 s0 s1 s2 s3 = N4 a0 a1 a2 a3 / 2 ^ n.toNat) (w : World) :
    Calls Tryd.prog 34 #[U4 a0 a1 a2 a3, .int .i64 n] w fun e w' => e = .returned (U4 s0 s1 s2 s3) ∧ Below w.heap.size w w' := by
  rcases Int.lt_or_le n 256 with hn | hn
  · have hk : n.toNat < 256 := by omega
    have hn2 : n = (n.toNat : Int) ∨ (n ≤ 0 ∧ n.toNat = 0) := by omega
    have fin : ∀ e w', (∃ t0 t1 t2 t3 : Int, e = Ending.returned (U4 t0 t1 t2 t3) ∧ B4 t0 t1 t2 t3 ∧ N4 t0 t1 t2 t3 = N4 a0 a1 a2 a3 / 2 ^ n.toNat ∧ Below w.heap.size w w') →
        e = .returned (U4 s0 s1 s2 s3) ∧ Below w.heap.size w w' := by
      rintro e w' ⟨t0, t1, t2, t3, rfl, ht, hc, hb⟩
      obtain ⟨rfl, rfl, rfl, rfl⟩ := ht.inj hs (hc.trans h.symm)
      exact ⟨rfl, hb⟩
    have hc : n.toNat / 64 = 0 ∨ n.toNat / 64 = 1 ∨ n.toNat / 64 = 2 ∨ n.toNat / 64 = 3 := by omega
    rcases hc with hc | hc | hc | hc
    · exact (shr_0 ha n n.toNat (n.toNat % 64) (by omega) (by omega) hn2 w).mono fin
    · exact (shr_1 ha n n.toNat (n.toNat % 64) (by omega) (by omega) hn2 w).mono fin
    · exact (shr_2 ha n n.toNat (n.toNat % 64) (by omega) (by omega) hn2 w).mono fin
    · exact (shr_3 ha n n.toNat (n.toNat % 64) (by omega) (by omega) hn2 w).mono fin
  · have e1 : N4 a0 a1 a2 a3 / 2 ^ n.toNat = 0 := by
      refine Int.ediv_eq_zero_of_lt ha.nn.1 (Int.lt_of_lt_of_le ha.nn.2 ?_)
      rw [ww_pow]
      exact pow2_le (by omega)
    rw [e1] at h
    obtain ⟨rfl, rfl, rfl, rfl⟩ := b4_zero.inj hs (n4_zero.trans h.symm)
    exact shr_big n hn w
theorem shl_ex {a0 a1 a2 a3 : Int} (ha : B4 a0 a1 a2 a3) (k : Nat) : ∃ s0 s1 s2 s3 : Int, B4 s0 s1 s2 s3 ∧ N4 s0 s1 s2 s3 = N4 a0 a1 a2 a3 * 2 ^ k % WW :=
  b4_of _ ⟨Int.emod_nonneg _ (by decide), Int.emod_lt_of_pos _ (by decide)⟩
theorem shr_ex {a0 a1 a2 a3 : Int} (ha : B4 a0 a1 a2 a3) (k : Nat) : ∃ s0 s1 s2 s3 : Int, B4 s0 s1 s2 s3 ∧ N4 s0 s1 s2 s3 = N4 a0 a1 a2 a3 / 2 ^ k :=
  b4_of _ ⟨Int.ediv_nonneg ha.nn.1 (Int.le_of_lt (two_pow_pos k)), Int.lt_of_le_of_lt (Int.ediv_le_self _ ha.nn.1) ha.nn.2⟩
theorem div_is {a0 a1 a2 a3 b0 b1 b2 b3 q0 q1 q2 q3 r0 r1 r2 r3 : Int} (ha : B4 a0 a1 a2 a3) (hb : B4 b0 b1 b2 b3) (hq : B4 q0 q1 q2 q3) (hr : B4 r0 r1 r2 r3) (ok : Bool)
    (h : (ok = true ∧ N4 b0 b1 b2 b3 ≠ 0 ∧ N4 q0 q1 q2 q3 = N4 a0 a1 a2 a3 / N4 b0 b1 b2 b3 ∧ N4 r0 r1 r2 r3 = N4 a0 a1 a2 a3 % N4 b0 b1 b2 b3) ∨ (ok = false ∧ N4 b0 b1 b2 b3 = 0 ∧ N4 q0 q1 q2 q3 = 0 ∧ N4 r0 r1 r2 r3 = 0)) (w : World) :
    Calls Tryd.prog 30 #[U4 a0 a1 a2 a3, U4 b0 b1 b2 b3] w fun e w' => e = .returned (.tuple #[U4 q0 q1 q2 q3, U4 r0 r1 r2 r3, .bool ok]) ∧ Below w.heap.size w w' := by
  rcases h with ⟨rfl, h0, h1, h2⟩ | ⟨rfl, h0, h1, h2⟩
  · refine (div_n ha hb h0 w).mono ?_
    rintro e w' ⟨t0, t1, t2, t3, u0, u1, u2, u3, rfl, ht, hu, h3, h4, hbl⟩
    obtain ⟨rfl, rfl, rfl, rfl⟩ := ht.inj hq (h3.trans h1.symm)
    obtain ⟨rfl, rfl, rfl, rfl⟩ := hu.inj hr (h4.trans h2.symm)
    exact ⟨rfl, hbl⟩
  · obtain ⟨rfl, rfl, rfl, rfl⟩ := b4_zero.inj hb (n4_zero.trans h0.symm)
    obtain ⟨rfl, rfl, rfl, rfl⟩ := b4_zero.inj hq (n4_zero.trans h1.symm)
    obtain ⟨rfl, rfl, rfl, rfl⟩ := b4_zero.inj hr (n4_zero.trans h2.symm)
    exact div_zero a0 a1 a2 a3 w
/-- quotient and rest, as parts -/
theorem div_ex {a0 a1 a2 a3 b0 b1 b2 b3 : Int} (ha : B4 a0 a1 a2 a3) (hb : B4 b0 b1 b2 b3) : ∃ (q0 q1 q2 q3 r0 r1 r2 r3 : Int) (ok : Bool), B4 q0 q1 q2 q3 ∧ B4 r0 r1 r2 r3 ∧
    ((ok = true ∧ N4 b0 b1 b2 b3 ≠ 0 ∧ N4 q0 q1 q2 q3 = N4 a0 a1 a2 a3 / N4 b0 b1 b2 b3 ∧ N4 r0 r1 r2 r3 = N4 a0 a1 a2 a3 % N4 b0 b1 b2 b3) ∨ (ok = false ∧ N4 b0 b1 b2 b3 = 0 ∧ N4 q0 q1 q2 q3 = 0 ∧ N4 r0 r1 r2 r3 = 0)) := by
  by_cases h : N4 b0 b1 b2 b3 = 0
  · exact ⟨0, 0, 0, 0, 0, 0, 0, 0, false, b4_zero, b4_zero, .inr ⟨rfl, h, n4_zero, n4_zero⟩⟩
  · have hbn := hb.nn
    have han := ha.nn
    have h1 := Int.ediv_nonneg han.1 hbn.1
    have h2 := Int.ediv_le_self (N4 b0 b1 b2 b3) han.1
    have h3 := Int.emod_nonneg (N4 a0 a1 a2 a3) h
    have h4 := Int.emod_lt_of_pos (N4 a0 a1 a2 a3) (show 0 < N4 b0 b1 b2 b3 by omega)
    obtain ⟨q0, q1, q2, q3, hq, hqn⟩ := b4_of _ ⟨h1, Int.lt_of_le_of_lt h2 han.2⟩
    obtain ⟨r0, r1, r2, r3, hr, hrn⟩ := b4_of _ ⟨h3, Int.lt_trans h4 hbn.2⟩
    exact ⟨q0, q1, q2, q3, r0, r1, r2, r3, true, hq, hr, .inl ⟨rfl, h, hqn, hrn⟩⟩
end Go.Proofs.YtfbhpkhpkaeagaaDoor

/- Package u256: & 255; the number one. -/
namespace Go.Proofs.YtfbhpkhpkaeagaaDoor
set_option linter.unusedVariables false
set_option linter.unusedSimpArgs false
open Go.RowKit

theorem and255 (n : Int) : ∃ k : Nat, k < 256 ∧ bits .and .i64 n 255 = (k : Int) := by
  have hx : (BitVec.ofInt 64 n).toNat &&& 255 < 256 := Nat.lt_of_le_of_lt Nat.and_le_right (by decide)
  refine ⟨(BitVec.ofInt 64 n).toNat &&& 255, hx, ?_⟩
  show IntKind.i64.wrap ((BitVec.ofInt 64 n &&& BitVec.ofInt 64 255).toNat : Int) = _
  rw [BitVec.toNat_and, show (BitVec.ofInt 64 255).toNat = 255 by decide]
  exact wrap_small _ (by omega) (by omega)
theorem b4_one : B4 1 0 0 0 ∧ N4 1 0 0 0 = 1 := by refine ⟨⟨?_, ?_, ?_, ?_⟩, ?_⟩ <;> simp only [N4, WI] <;> omega
end Go.Proofs.YtfbhpkhpkaeagaaDoor
