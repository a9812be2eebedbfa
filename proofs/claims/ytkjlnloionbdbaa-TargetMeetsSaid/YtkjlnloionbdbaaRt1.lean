/- Package retarget: within, all, Clamp, First (made by gen_rt.py). (hM) -/
import Derived.Test.YtkjlnloionbdbaaTg4
namespace Go.Proofs.Ytkjlnloionbdbaa
set_option linter.unusedVariables false
set_option linter.unusedSimpArgs false
open Go.RowKit

set_option maxHeartbeats 1000000 in
theorem within_any (n lo hi : Int) (w : World) : Calls Try.prog 59 #[.int .i64 n, .int .i64 lo, .int .i64 hi] w fun e w' => e = .returned (.bool (decide (lo ≤ n) && decide (n ≤ hi))) ∧ Below w.heap.size w w' := by
  by_cases h : lo ≤ n
  all_goals
    obtain ⟨x, hx⟩ : ∃ x, decide (lo ≤ n) = x := ⟨_, rfl⟩
    obtain ⟨y, hy⟩ : ∃ y, decide (n ≤ hi) = y := ⟨_, rfl⟩
    first | (have hx' : x = true := by rw [← hx]; exact decide_eq_true h) | (have hx' : x = false := by rw [← hx]; exact decide_eq_false h)
    subst hx'
    clear h
    rw [hx, hy]
    go_enter Try.func59, Try.ntmps59
    go_wp2
    go_ret
    exact ⟨by simp, by (repeat (first | exact Below.refl _ _ | refine Below.drew ?_ | refine bl_drewN ?_ _ | (refine Below.alloc ?_ (by first | exact Nat.le_refl _ | (simp; done) | (simp; omega)) _)))⟩

set_option maxRecDepth 100000 in
set_option maxHeartbeats 1000000 in
theorem all_any (b0 b1 b2 b3 b4 b5 b6 : Bool) (g : Nat) (w : World) (hm : Mem w [(g, [.bool b0, .bool b1, .bool b2, .bool b3, .bool b4, .bool b5, .bool b6])]) : Calls Try.prog 58 #[.slice (some ⟨g, 0, none⟩) 7 7] w fun e w' => e = .returned (.bool (b0 && b1 && b2 && b3 && b4 && b5 && b6)) ∧ Below w.heap.size w w' := by
  have hF := hm
  simp only [Mem, cellsAt, Nat.zero_add, Nat.reduceAdd, and_true] at hF
  clear hm
  cases b0
  · go_enter Try.func58, Try.ntmps58
    go_wp2
    refine wp_loop_rounds 8 ?_
    rw [rounds_succ]
    go_wp2
    go_ret
    exact ⟨by simp, by (repeat (first | exact Below.refl _ _ | refine Below.drew ?_ | refine bl_drewN ?_ _ | (refine Below.alloc ?_ (by first | exact Nat.le_refl _ | (simp; done) | (simp; omega)) _)))⟩
  cases b1
  · go_enter Try.func58, Try.ntmps58
    go_wp2
    refine wp_loop_rounds 8 ?_
    rw [rounds_succ]
    go_wp2
    rw [rounds_succ]
    go_wp2
    go_ret
    exact ⟨by simp, by (repeat (first | exact Below.refl _ _ | refine Below.drew ?_ | refine bl_drewN ?_ _ | (refine Below.alloc ?_ (by first | exact Nat.le_refl _ | (simp; done) | (simp; omega)) _)))⟩
  cases b2
  · go_enter Try.func58, Try.ntmps58
    go_wp2
    refine wp_loop_rounds 8 ?_
    rw [rounds_succ]
    go_wp2
    rw [rounds_succ]
    go_wp2
    rw [rounds_succ]
    go_wp2
    go_ret
    exact ⟨by simp, by (repeat (first | exact Below.refl _ _ | refine Below.drew ?_ | refine bl_drewN ?_ _ | (refine Below.alloc ?_ (by first | exact Nat.le_refl _ | (simp; done) | (simp; omega)) _)))⟩
  cases b3
  · go_enter Try.func58, Try.ntmps58
    go_wp2
    refine wp_loop_rounds 8 ?_
    rw [rounds_succ]
    go_wp2
    rw [rounds_succ]
    go_wp2
    rw [rounds_succ]
    go_wp2
    rw [rounds_succ]
    go_wp2
    go_ret
    exact ⟨by simp, by (repeat (first | exact Below.refl _ _ | refine Below.drew ?_ | refine bl_drewN ?_ _ | (refine Below.alloc ?_ (by first | exact Nat.le_refl _ | (simp; done) | (simp; omega)) _)))⟩
  cases b4
  · go_enter Try.func58, Try.ntmps58
    go_wp2
    refine wp_loop_rounds 8 ?_
    rw [rounds_succ]
    go_wp2
    rw [rounds_succ]
    go_wp2
    rw [rounds_succ]
    go_wp2
    rw [rounds_succ]
    go_wp2
    rw [rounds_succ]
    go_wp2
    go_ret
    exact ⟨by simp, by (repeat (first | exact Below.refl _ _ | refine Below.drew ?_ | refine bl_drewN ?_ _ | (refine Below.alloc ?_ (by first | exact Nat.le_refl _ | (simp; done) | (simp; omega)) _)))⟩
  cases b5
  · go_enter Try.func58, Try.ntmps58
    go_wp2
    refine wp_loop_rounds 8 ?_
    rw [rounds_succ]
    go_wp2
    rw [rounds_succ]
    go_wp2
    rw [rounds_succ]
    go_wp2
    rw [rounds_succ]
    go_wp2
    rw [rounds_succ]
    go_wp2
    rw [rounds_succ]
    go_wp2
    go_ret
    exact ⟨by simp, by (repeat (first | exact Below.refl _ _ | refine Below.drew ?_ | refine bl_drewN ?_ _ | (refine Below.alloc ?_ (by first | exact Nat.le_refl _ | (simp; done) | (simp; omega)) _)))⟩
  cases b6
  · go_enter Try.func58, Try.ntmps58
    go_wp2
    refine wp_loop_rounds 8 ?_
    rw [rounds_succ]
    go_wp2
    rw [rounds_succ]
    go_wp2
    rw [rounds_succ]
    go_wp2
    rw [rounds_succ]
    go_wp2
    rw [rounds_succ]
    go_wp2
    rw [rounds_succ]
    go_wp2
    rw [rounds_succ]
    go_wp2
    go_ret
    exact ⟨by simp, by (repeat (first | exact Below.refl _ _ | refine Below.drew ?_ | refine bl_drewN ?_ _ | (refine Below.alloc ?_ (by first | exact Nat.le_refl _ | (simp; done) | (simp; omega)) _)))⟩
  go_enter Try.func58, Try.ntmps58
  go_wp2
  refine wp_loop_rounds 8 ?_
  rw [rounds_succ]
  go_wp2
  rw [rounds_succ]
  go_wp2
  rw [rounds_succ]
  go_wp2
  rw [rounds_succ]
  go_wp2
  rw [rounds_succ]
  go_wp2
  rw [rounds_succ]
  go_wp2
  rw [rounds_succ]
  go_wp2
  rw [rounds_succ]
  go_wp2
  go_ret
  exact ⟨rfl, by (repeat (first | exact Below.refl _ _ | refine Below.drew ?_ | refine bl_drewN ?_ _ | (refine Below.alloc ?_ (by first | exact Nat.le_refl _ | (simp; done) | (simp; omega)) _)))⟩

/-- a time that is kept near -/
def clampV (a sp : Int) : Int := min (max a (min (max sp 4) 1099511627776 / 4)) (min (max sp 4) 1099511627776 * 4)
def firstV (h iv : Int) : Int := if h ≤ min (max iv 1) 1048576 then 0 else h - min (max iv 1) 1048576
set_option maxHeartbeats 1000000 in
theorem clamp_any (a sp : Int) (w : World) : Calls Try.prog 47 #[.int .i64 a, .int .i64 sp] w fun e w' => e = .returned (.int .i64 (clampV a sp)) ∧ Below w.heap.size w w' := by
  obtain ⟨s1, h1⟩ : ∃ s1, max sp 4 = s1 := ⟨_, rfl⟩
  obtain ⟨s2, h2⟩ : ∃ s2, min s1 1099511627776 = s2 := ⟨_, rfl⟩
  have hb : 4 ≤ s2 ∧ s2 ≤ 1099511627776 := by omega
  have hq : s2.tdiv 4 = s2 / 4 := by rw [Int.tdiv_eq_ediv_of_nonneg (by omega)]
  have hw1 : IntKind.i64.wrap (s2 / 4) = s2 / 4 := by rw [IntKind.wrap_i64]; omega
  have hw2 : IntKind.i64.wrap (s2 * 4) = s2 * 4 := by rw [IntKind.wrap_i64]; omega
  obtain ⟨r1, h3⟩ : ∃ r1, max a (s2 / 4) = r1 := ⟨_, rfl⟩
  obtain ⟨r2, h4⟩ : ∃ r2, min r1 (s2 * 4) = r2 := ⟨_, rfl⟩
  have hv : clampV a sp = r2 := by unfold clampV; rw [h1, h2, h3, h4]
  rw [hv]
  clear hv
  go_enter Try.func47, Try.ntmps47
  go_wp2
  go_ret
  exact ⟨rfl, by (repeat (first | exact Below.refl _ _ | refine Below.drew ?_ | refine bl_drewN ?_ _ | (refine Below.alloc ?_ (by first | exact Nat.le_refl _ | (simp; done) | (simp; omega)) _)))⟩
set_option maxHeartbeats 1000000 in
theorem first_any (h iv : Int) (hr : -9223372036854775808 ≤ h ∧ h ≤ 9223372036854775807) (w : World) : Calls Try.prog 49 #[.int .i64 h, .int .i64 iv] w fun e w' => e = .returned (.int .i64 (firstV h iv)) ∧ Below w.heap.size w w' := by
  obtain ⟨s1, h1⟩ : ∃ s1, max iv 1 = s1 := ⟨_, rfl⟩
  obtain ⟨s2, h2⟩ : ∃ s2, min s1 1048576 = s2 := ⟨_, rfl⟩
  have hb : 1 ≤ s2 ∧ s2 ≤ 1048576 := by omega
  have hv : firstV h iv = if h ≤ s2 then 0 else h - s2 := by unfold firstV; rw [h1, h2]
  rw [hv]
  clear hv
  by_cases hc : h ≤ s2
  · rw [if_pos hc]
    go_enter Try.func49, Try.ntmps49
    go_wp2
    go_ret
    exact ⟨rfl, by (repeat (first | exact Below.refl _ _ | refine Below.drew ?_ | refine bl_drewN ?_ _ | (refine Below.alloc ?_ (by first | exact Nat.le_refl _ | (simp; done) | (simp; omega)) _)))⟩
  · rw [if_neg hc]
    have hw1 : IntKind.i64.wrap (h - s2) = h - s2 := by rw [IntKind.wrap_i64]; omega
    go_enter Try.func49, Try.ntmps49
    go_wp2
    go_ret
    exact ⟨rfl, by (repeat (first | exact Below.refl _ _ | refine Below.drew ?_ | refine bl_drewN ?_ _ | (refine Below.alloc ?_ (by first | exact Nat.le_refl _ | (simp; done) | (simp; omega)) _)))⟩
end Go.Proofs.Ytkjlnloionbdbaa
