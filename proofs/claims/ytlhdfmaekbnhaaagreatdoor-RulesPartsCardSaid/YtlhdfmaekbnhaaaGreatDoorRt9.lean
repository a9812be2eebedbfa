/- Package retarget: within, all, Clamp, First (made by gen_rt.py). (hM) Merged: Rt1, Rt2, Rt3, Rt4, Rt6, Rt7, Rt9. -/
import Derived.Test.YtlhdfmaekbnhaaaGreatDoorTg6
import Derived.Test.YtlhdfmaekbnhaaaGreatDoorOpen2
import Derived.Test.YtlhdfmaekbnhaaaGreatDoorMm
import Derived.Deep.MidRow
import Derived.Test.YtlhdfmaekbnhaaaGreatDoorWpy
import Derived.Laws.CopyOwn
/- Package retarget: within, all, Clamp, First (made by gen_rt.py). (hM) -/
namespace Go.Proofs.YtlhdfmaekbnhaaaGreatDoor
set_option linter.unusedVariables false
set_option linter.unusedSimpArgs false
open Go.RowKit

set_option maxHeartbeats 1000000 in
theorem within_any (n lo hi : Int) (w : World) : Calls Tryz.prog 28 #[.int .i64 n, .int .i64 lo, .int .i64 hi] w fun e w' => e = .returned (.bool (decide (lo ≤ n) && decide (n ≤ hi))) ∧ Below w.heap.size w w' := by
  by_cases h : lo ≤ n
  all_goals
    obtain ⟨x, hx⟩ : ∃ x, decide (lo ≤ n) = x := ⟨_, rfl⟩
    obtain ⟨y, hy⟩ : ∃ y, decide (n ≤ hi) = y := ⟨_, rfl⟩
    first | (have hx' : x = true := by rw [← hx]; exact decide_eq_true h) | (have hx' : x = false := by rw [← hx]; exact decide_eq_false h)
    subst hx'
    clear h
    rw [hx, hy]
    go_enter Tryz.func28, Tryz.ntmps28
    go_wp2
    go_ret
    exact ⟨by simp, by (repeat (first | exact Below.refl _ _ | refine Below.drew ?_ | refine bl_drewN ?_ _ | (refine Below.alloc ?_ (by first | exact Nat.le_refl _ | (simp; done) | (simp; omega)) _)))⟩

set_option maxRecDepth 100000 in
set_option maxHeartbeats 1000000 in
theorem all_any (b0 b1 b2 b3 b4 b5 b6 : Bool) (g : Nat) (w : World) (hm : Mem w [(g, [.bool b0, .bool b1, .bool b2, .bool b3, .bool b4, .bool b5, .bool b6])]) : Calls Tryz.prog 27 #[.slice (some ⟨g, 0, none⟩) 7 7] w fun e w' => e = .returned (.bool (b0 && b1 && b2 && b3 && b4 && b5 && b6)) ∧ Below w.heap.size w w' := by
  have hF := hm
  simp only [Mem, cellsAt, Nat.zero_add, Nat.reduceAdd, and_true] at hF
  clear hm
  cases b0
  · go_enter Tryz.func27, Tryz.ntmps27
    go_wp2
    refine wp_loop_rounds 8 ?_
    rw [rounds_succ]
    go_wp2
    go_ret
    exact ⟨by simp, by (repeat (first | exact Below.refl _ _ | refine Below.drew ?_ | refine bl_drewN ?_ _ | (refine Below.alloc ?_ (by first | exact Nat.le_refl _ | (simp; done) | (simp; omega)) _)))⟩
  cases b1
  · go_enter Tryz.func27, Tryz.ntmps27
    go_wp2
    refine wp_loop_rounds 8 ?_
    rw [rounds_succ]
    go_wp2
    rw [rounds_succ]
    go_wp2
    go_ret
    exact ⟨by simp, by (repeat (first | exact Below.refl _ _ | refine Below.drew ?_ | refine bl_drewN ?_ _ | (refine Below.alloc ?_ (by first | exact Nat.le_refl _ | (simp; done) | (simp; omega)) _)))⟩
  cases b2
  · go_enter Tryz.func27, Tryz.ntmps27
    go_wp2
    refine wp_loop_rounds 8 ?_
    rw [rounds_succ]
    go_wp2
    rw [rounds_succ]
    go_wp2
    rw [rounds_succ]
    go_wp2
    go_ret
    exact ⟨by simp, by (repeat (first | exact Below.refl _ _ | refine Below.drew ?_ | refine bl_drewN ?_ _ | (refine Below.alloc ?_ (by first | exact Nat.le_refl _ | (simp; done) | (simp; omega)) _)))⟩
  cases b3
  · go_enter Tryz.func27, Tryz.ntmps27
    go_wp2
    refine wp_loop_rounds 8 ?_
    rw [rounds_succ]
    go_wp2
    rw [rounds_succ]
    go_wp2
    rw [rounds_succ]
    go_wp2
    rw [rounds_succ]
    go_wp2
    go_ret
    exact ⟨by simp, by (repeat (first | exact Below.refl _ _ | refine Below.drew ?_ | refine bl_drewN ?_ _ | (refine Below.alloc ?_ (by first | exact Nat.le_refl _ | (simp; done) | (simp; omega)) _)))⟩
  cases b4
  · go_enter Tryz.func27, Tryz.ntmps27
    go_wp2
    refine wp_loop_rounds 8 ?_
    rw [rounds_succ]
    go_wp2
    rw [rounds_succ]
    go_wp2
    rw [rounds_succ]
    go_wp2
    rw [rounds_succ]
    go_wp2
    rw [rounds_succ]
    go_wp2
    go_ret
    exact ⟨by simp, by (repeat (first | exact Below.refl _ _ | refine Below.drew ?_ | refine bl_drewN ?_ _ | (refine Below.alloc ?_ (by first | exact Nat.le_refl _ | (simp; done) | (simp; omega)) _)))⟩
  cases b5
  · go_enter Tryz.func27, Tryz.ntmps27
    go_wp2
    refine wp_loop_rounds 8 ?_
    rw [rounds_succ]
    go_wp2
    rw [rounds_succ]
    go_wp2
    rw [rounds_succ]
    go_wp2
    rw [rounds_succ]
    go_wp2
    rw [rounds_succ]
    go_wp2
    rw [rounds_succ]
    go_wp2
    go_ret
    exact ⟨by simp, by (repeat (first | exact Below.refl _ _ | refine Below.drew ?_ | refine bl_drewN ?_ _ | (refine Below.alloc ?_ (by first | exact Nat.le_refl _ | (simp; done) | (simp; omega)) _)))⟩
  cases b6
  · go_enter Tryz.func27, Tryz.ntmps27
    go_wp2
    refine wp_loop_rounds 8 ?_
    rw [rounds_succ]
    go_wp2
    rw [rounds_succ]
    go_wp2
    rw [rounds_succ]
    go_wp2
    rw [rounds_succ]
    go_wp2
    rw [rounds_succ]
    go_wp2
    rw [rounds_succ]
    go_wp2
    rw [rounds_succ]
    go_wp2
    go_ret
    exact ⟨by simp, by (repeat (first | exact Below.refl _ _ | refine Below.drew ?_ | refine bl_drewN ?_ _ | (refine Below.alloc ?_ (by first | exact Nat.le_refl _ | (simp; done) | (simp; omega)) _)))⟩
  go_enter Tryz.func27, Tryz.ntmps27
  go_wp2
  refine wp_loop_rounds 8 ?_
  rw [rounds_succ]
  go_wp2
  rw [rounds_succ]
  go_wp2
  rw [rounds_succ]
  go_wp2
  rw [rounds_succ]
  go_wp2
  rw [rounds_succ]
  go_wp2
  rw [rounds_succ]
  go_wp2
  rw [rounds_succ]
  go_wp2
  rw [rounds_succ]
  go_wp2
  go_ret
  exact ⟨rfl, by (repeat (first | exact Below.refl _ _ | refine Below.drew ?_ | refine bl_drewN ?_ _ | (refine Below.alloc ?_ (by first | exact Nat.le_refl _ | (simp; done) | (simp; omega)) _)))⟩

/-- a time that is kept near -/
def clampV (a sp : Int) : Int := min (max a (min (max sp 4) 1099511627776 / 4)) (min (max sp 4) 1099511627776 * 4)
def firstV (h iv : Int) : Int := if h ≤ min (max iv 1) 1048576 then 0 else h - min (max iv 1) 1048576
set_option maxHeartbeats 1000000 in
theorem clamp_any (a sp : Int) (w : World) : Calls Tryz.prog 43 #[.int .i64 a, .int .i64 sp] w fun e w' => e = .returned (.int .i64 (clampV a sp)) ∧ Below w.heap.size w w' := by
  obtain ⟨s1, h1⟩ : ∃ s1, max sp 4 = s1 := ⟨_, rfl⟩
  obtain ⟨s2, h2⟩ : ∃ s2, min s1 1099511627776 = s2 := ⟨_, rfl⟩
  have hb : 4 ≤ s2 ∧ s2 ≤ 1099511627776 := by omega
  have hq : s2.tdiv 4 = s2 / 4 := by rw [Int.tdiv_eq_ediv_of_nonneg (by omega)]
  have hw1 : IntKind.i64.wrap (s2 / 4) = s2 / 4 := by rw [IntKind.wrap_i64]; omega
  have hw2 : IntKind.i64.wrap (s2 * 4) = s2 * 4 := by rw [IntKind.wrap_i64]; omega
  obtain ⟨r1, h3⟩ : ∃ r1, max a (s2 / 4) = r1 := ⟨_, rfl⟩
  obtain ⟨r2, h4⟩ : ∃ r2, min r1 (s2 * 4) = r2 := ⟨_, rfl⟩
  have hv : clampV a sp = r2 := by unfold clampV; rw [h1, h2, h3, h4]
  rw [hv]
  clear hv
  go_enter Tryz.func43, Tryz.ntmps43
  go_wp2
  go_ret
  exact ⟨rfl, by (repeat (first | exact Below.refl _ _ | refine Below.drew ?_ | refine bl_drewN ?_ _ | (refine Below.alloc ?_ (by first | exact Nat.le_refl _ | (simp; done) | (simp; omega)) _)))⟩
set_option maxHeartbeats 1000000 in
theorem first_any (h iv : Int) (hr : -9223372036854775808 ≤ h ∧ h ≤ 9223372036854775807) (w : World) : Calls Tryz.prog 31 #[.int .i64 h, .int .i64 iv] w fun e w' => e = .returned (.int .i64 (firstV h iv)) ∧ Below w.heap.size w w' := by
  obtain ⟨s1, h1⟩ : ∃ s1, max iv 1 = s1 := ⟨_, rfl⟩
  obtain ⟨s2, h2⟩ : ∃ s2, min s1 1048576 = s2 := ⟨_, rfl⟩
  have hb : 1 ≤ s2 ∧ s2 ≤ 1048576 := by omega
  have hv : firstV h iv = if h ≤ s2 then 0 else h - s2 := by unfold firstV; rw [h1, h2]
  rw [hv]
  clear hv
  by_cases hc : h ≤ s2
  · rw [if_pos hc]
    go_enter Tryz.func31, Tryz.ntmps31
    go_wp2
    go_ret
    exact ⟨rfl, by (repeat (first | exact Below.refl _ _ | refine Below.drew ?_ | refine bl_drewN ?_ _ | (refine Below.alloc ?_ (by first | exact Nat.le_refl _ | (simp; done) | (simp; omega)) _)))⟩
  · rw [if_neg hc]
    have hw1 : IntKind.i64.wrap (h - s2) = h - s2 := by rw [IntKind.wrap_i64]; omega
    go_enter Tryz.func31, Tryz.ntmps31
    go_wp2
    go_ret
    exact ⟨rfl, by (repeat (first | exact Below.refl _ _ | refine Below.drew ?_ | refine bl_drewN ?_ _ | (refine Below.alloc ?_ (by first | exact Nat.le_refl _ | (simp; done) | (simp; omega)) _)))⟩
end Go.Proofs.YtlhdfmaekbnhaaaGreatDoor

/- Package retarget: Sane (made by gen_rt.py). (hM) -/
namespace Go.Proofs.YtlhdfmaekbnhaaaGreatDoor
set_option linter.unusedVariables false
set_option linter.unusedSimpArgs false
open Go.RowKit

def inB (n lo hi : Int) : Bool := decide (lo ≤ n) && decide (n ≤ hi)
/-- may rules be -/
def saneV (lim iv sp fu ix orp : Int) (n : Nat) : Bool := inB iv 1 1048576 && inB sp 4 1099511627776 && expOk lim && inB fu 0 4294967296 && inB ix 0 1048576 && inB orp 0 1048576 && decide ((n : Int) ≤ 100)
/-- rules, as a value -/
abbrev PV (lim iv sp fu ix orp : Int) (ao : Option Addr) (n cp : Nat) : Value := .agg #[.int .u32 lim, .int .i64 iv, .int .i64 sp, .int .i64 fu, .int .i64 ix, .int .i64 orp, .slice ao n cp]

set_option maxRecDepth 100000 in
set_option maxHeartbeats 2000000 in
theorem sane_any (lim iv sp fu ix orp : Int) (ao : Option Addr) (n cp : Nat) (hl : 0 ≤ lim ∧ lim < 4294967296) (w : World) :
    Calls Tryz.prog 10 #[PV lim iv sp fu ix orp ao n cp] w fun e w' => e = .returned (.bool (saneV lim iv sp fu ix orp n)) ∧ Below w.heap.size w w' := by
  obtain ⟨t0, t1, t2, t3, er, ht, hte⟩ := exp_ex lim hl
  have HE := Lib.hid (fun w => exp_any lim hl ht er hte w)
  have H1 := Lib.hid (fun w => within_any iv 1 1048576 w)
  have H2 := Lib.hid (fun w => within_any sp 4 1099511627776 w)
  have H3 := Lib.hid (fun w => within_any fu 0 4294967296 w)
  have H4 := Lib.hid (fun w => within_any ix 0 1048576 w)
  have H5 := Lib.hid (fun w => within_any orp 0 1048576 w)
  unfold saneV
  rw [show (decide (1 ≤ iv) && decide (iv ≤ 1048576)) = inB iv 1 1048576 from rfl] at H1
  rw [show (decide (4 ≤ sp) && decide (sp ≤ 1099511627776)) = inB sp 4 1099511627776 from rfl] at H2
  rw [show (decide (0 ≤ fu) && decide (fu ≤ 4294967296)) = inB fu 0 4294967296 from rfl] at H3
  rw [show (decide (0 ≤ ix) && decide (ix ≤ 1048576)) = inB ix 0 1048576 from rfl] at H4
  rw [show (decide (0 ≤ orp) && decide (orp ≤ 1048576)) = inB orp 0 1048576 from rfl] at H5
  have hb3 : decide (er = 0) = expOk lim ∧ (er == 0) = expOk lim := by
    rcases hte with ⟨h, _, rfl⟩ | ⟨h, _, rfl⟩ <;> rw [h] <;> exact ⟨rfl, rfl⟩
  generalize inB iv 1 1048576 = b0 at *
  generalize inB sp 4 1099511627776 = b1 at *
  generalize expOk lim = b2 at *
  generalize inB fu 0 4294967296 = b3 at *
  generalize inB ix 0 1048576 = b4 at *
  generalize inB orp 0 1048576 = b5 at *
  obtain ⟨b6, hb6⟩ : ∃ z, decide ((n : Int) ≤ 100) = z := ⟨_, rfl⟩
  rw [hb6]
  obtain ⟨hb31, hb32⟩ := hb3
  clear hte ht hl
  have hB := Below.refl w.heap.size w
  have hM := Lib.hid (mem_nil w)
  have hF : True := trivial
  go_enter Tryz.func10, Tryz.ntmps10
  go_wp2_with (go_at_call 20; (with_reducible refine (HE.out _).mono ?_); rintro e w1 ⟨rfl, hb⟩; have hB : Below w.heap.size w w1 := (by refine bl_then ?_ hb; (repeat (first | exact hB | refine bl_al ?_ _ | refine Below.setCell ?_ (by first | exact hgs | exact Nat.le_succ_of_le hgs | exact hgs2 | exact hgs3) _ | refine Below.drew ?_ | refine bl_drewN ?_ _))); (first | with_reducible have hM2 := Mem.later hb (hM.out) | with_reducible have hM2 := Mem.later hb (Mem.al (hM.out) _ _) | with_reducible have hM2 := Mem.later hb (Mem.al (Mem.al (hM.out) _ _) _ _) | with_reducible have hM2 := Mem.later hb (Mem.al (Mem.al (Mem.al (hM.out) _ _) _ _) _ _) | with_reducible have hM2 := Mem.later hb (Mem.al (Mem.al (Mem.al (Mem.al (hM.out) _ _) _ _) _ _) _ _) | with_reducible have hM2 := Mem.later hb (Mem.drew (hM.out)) | with_reducible have hM2 := Mem.later hb (Mem.drew (Mem.al (hM.out) _ _)) | with_reducible have hM2 := Mem.later hb (Mem.al (Mem.drew (hM.out)) _ _) | with_reducible have hM2 := Mem.later hb (Mem.al (Mem.drew (Mem.al (hM.out) _ _)) _ _) | with_reducible have hM2 := Mem.later hb (Mem.drew (Mem.al (Mem.al (hM.out) _ _) _ _)) | with_reducible have hM2 := Mem.later hb (Mem.al (Mem.al (Mem.drew (hM.out)) _ _) _ _) | with_reducible have hM2 := Mem.later hb (Mem.drew (Mem.drew (hM.out))) | with_reducible have hM2 := Mem.later hb (Mem.drew (Mem.al (Mem.drew (hM.out)) _ _)) | with_reducible have hM2 := Mem.later hb (Mem.drew (Mem.al (Mem.al (Mem.al (hM.out) _ _) _ _) _ _)) | with_reducible have hM2 := Mem.later hb (Mem.al (Mem.al (Mem.drew (Mem.al (hM.out) _ _)) _ _) _ _) | with_reducible have hM2 := Mem.later hb (Mem.drew (Mem.al (Mem.drew (Mem.al (hM.out) _ _)) _ _)) | with_reducible have hM2 := Mem.later hb (Mem.al (Mem.al (Mem.al (Mem.al (Mem.al (hM.out) _ _) _ _) _ _) _ _) _ _) | with_reducible have hM2 := Mem.later hb (Mem.al (Mem.al (Mem.al (Mem.al (Mem.al (Mem.al (hM.out) _ _) _ _) _ _) _ _) _ _) _ _) | with_reducible have hM2 := Mem.later hb (Mem.al (Mem.al (Mem.al (Mem.al (Mem.al (Mem.al (Mem.al (hM.out) _ _) _ _) _ _) _ _) _ _) _ _) _ _) | with_reducible have hM2 := Mem.later hb (Mem.al (Mem.al (Mem.al (Mem.al (Mem.al (Mem.al (Mem.al (Mem.al (hM.out) _ _) _ _) _ _) _ _) _ _) _ _) _ _) _ _)); (try simp only [World.size_alloc, size_drew] at hM2); clear hM; have hM := Lib.hid hM2; clear hF; have hF := hM2; (try simp only [Mem, cellsAt, World.size_alloc, Nat.zero_add, Nat.reduceAdd, and_true] at hF); clear hM2; clear hb)
  have hMq := Mem.al hM.out [.int .u64 t0, .int .u64 t1, .int .u64 t2, .int .u64 t3] 51
  refine wp_plan (fun x => Mem x _) [2, 5, 10, 13, 16, 21, 22] [0, 1, 3, 4, 6, 7, 8, 9, 11, 12, 14, 15, 17, 18, 19, 20, 2, 5, 10, 13, 16, 21, 22, 23] (by kernel_rfl) (by kernel_rfl) (Mem.drew hMq) (fun hHeld => ?_)
  iterate 16 (refine wpT_take rfl (by rfl) (by rfl) (by intro w' hSw; (try dsimp only [Mem, cellsAt] at hSw); go_simp; (try with_reducible rfl)) (by assumption) ?_; (try simp only [Act.put, List.setIfInBounds_toArray, List.set_cons_zero, List.set_cons_succ]))
  (refine wpT_step rfl (by rfl) (fun K hK => ?_); go_simp)
  (refine (H1.out _).mono ?_; rintro e w1 ⟨rfl, hb⟩; have hB : Below w.heap.size w w1 := (by refine bl_then ?_ hb; (repeat (first | exact hB | refine bl_al ?_ _ | refine Below.setCell ?_ (by first | exact hgs | exact Nat.le_succ_of_le hgs | exact hgs2 | exact hgs3) _ | refine Below.drew ?_ | refine bl_drewN ?_ _))); (first | with_reducible have hM2 := Mem.later hb (hM.out) | with_reducible have hM2 := Mem.later hb (Mem.al (hM.out) _ _) | with_reducible have hM2 := Mem.later hb (Mem.al (Mem.al (hM.out) _ _) _ _) | with_reducible have hM2 := Mem.later hb (Mem.al (Mem.al (Mem.al (hM.out) _ _) _ _) _ _) | with_reducible have hM2 := Mem.later hb (Mem.al (Mem.al (Mem.al (Mem.al (hM.out) _ _) _ _) _ _) _ _) | with_reducible have hM2 := Mem.later hb (Mem.drew (hM.out)) | with_reducible have hM2 := Mem.later hb (Mem.drew (Mem.al (hM.out) _ _)) | with_reducible have hM2 := Mem.later hb (Mem.al (Mem.drew (hM.out)) _ _) | with_reducible have hM2 := Mem.later hb (Mem.al (Mem.drew (Mem.al (hM.out) _ _)) _ _) | with_reducible have hM2 := Mem.later hb (Mem.drew (Mem.al (Mem.al (hM.out) _ _) _ _)) | with_reducible have hM2 := Mem.later hb (Mem.al (Mem.al (Mem.drew (hM.out)) _ _) _ _) | with_reducible have hM2 := Mem.later hb (Mem.drew (Mem.drew (hM.out))) | with_reducible have hM2 := Mem.later hb (Mem.drew (Mem.al (Mem.drew (hM.out)) _ _)) | with_reducible have hM2 := Mem.later hb (Mem.drew (Mem.al (Mem.al (Mem.al (hM.out) _ _) _ _) _ _)) | with_reducible have hM2 := Mem.later hb (Mem.al (Mem.al (Mem.drew (Mem.al (hM.out) _ _)) _ _) _ _) | with_reducible have hM2 := Mem.later hb (Mem.drew (Mem.al (Mem.drew (Mem.al (hM.out) _ _)) _ _)) | with_reducible have hM2 := Mem.later hb (Mem.al (Mem.al (Mem.al (Mem.al (Mem.al (hM.out) _ _) _ _) _ _) _ _) _ _) | with_reducible have hM2 := Mem.later hb (Mem.al (Mem.al (Mem.al (Mem.al (Mem.al (Mem.al (hM.out) _ _) _ _) _ _) _ _) _ _) _ _) | with_reducible have hM2 := Mem.later hb (Mem.al (Mem.al (Mem.al (Mem.al (Mem.al (Mem.al (Mem.al (hM.out) _ _) _ _) _ _) _ _) _ _) _ _) _ _) | with_reducible have hM2 := Mem.later hb (Mem.al (Mem.al (Mem.al (Mem.al (Mem.al (Mem.al (Mem.al (Mem.al (hM.out) _ _) _ _) _ _) _ _) _ _) _ _) _ _) _ _)); (try simp only [World.size_alloc, size_drew] at hM2); clear hM; have hM := Lib.hid hM2; clear hF; have hF := hM2; (try simp only [Mem, cellsAt, World.size_alloc, Nat.zero_add, Nat.reduceAdd, and_true] at hF); clear hM2; clear hb; (refine hK.out _ _ _ (fun _ h => h) (hM.out) (fun hHeld => ?_); clear hK; clear K; (try simp only [Act.put, List.setIfInBounds_toArray, List.set_cons_zero, List.set_cons_succ])))
  (refine wpT_step rfl (by rfl) (fun K hK => ?_); go_simp)
  (refine (H2.out _).mono ?_; rintro e w1 ⟨rfl, hb⟩; have hB : Below w.heap.size w w1 := (by refine bl_then ?_ hb; (repeat (first | exact hB | refine bl_al ?_ _ | refine Below.setCell ?_ (by first | exact hgs | exact Nat.le_succ_of_le hgs | exact hgs2 | exact hgs3) _ | refine Below.drew ?_ | refine bl_drewN ?_ _))); (first | with_reducible have hM2 := Mem.later hb (hM.out) | with_reducible have hM2 := Mem.later hb (Mem.al (hM.out) _ _) | with_reducible have hM2 := Mem.later hb (Mem.al (Mem.al (hM.out) _ _) _ _) | with_reducible have hM2 := Mem.later hb (Mem.al (Mem.al (Mem.al (hM.out) _ _) _ _) _ _) | with_reducible have hM2 := Mem.later hb (Mem.al (Mem.al (Mem.al (Mem.al (hM.out) _ _) _ _) _ _) _ _) | with_reducible have hM2 := Mem.later hb (Mem.drew (hM.out)) | with_reducible have hM2 := Mem.later hb (Mem.drew (Mem.al (hM.out) _ _)) | with_reducible have hM2 := Mem.later hb (Mem.al (Mem.drew (hM.out)) _ _) | with_reducible have hM2 := Mem.later hb (Mem.al (Mem.drew (Mem.al (hM.out) _ _)) _ _) | with_reducible have hM2 := Mem.later hb (Mem.drew (Mem.al (Mem.al (hM.out) _ _) _ _)) | with_reducible have hM2 := Mem.later hb (Mem.al (Mem.al (Mem.drew (hM.out)) _ _) _ _) | with_reducible have hM2 := Mem.later hb (Mem.drew (Mem.drew (hM.out))) | with_reducible have hM2 := Mem.later hb (Mem.drew (Mem.al (Mem.drew (hM.out)) _ _)) | with_reducible have hM2 := Mem.later hb (Mem.drew (Mem.al (Mem.al (Mem.al (hM.out) _ _) _ _) _ _)) | with_reducible have hM2 := Mem.later hb (Mem.al (Mem.al (Mem.drew (Mem.al (hM.out) _ _)) _ _) _ _) | with_reducible have hM2 := Mem.later hb (Mem.drew (Mem.al (Mem.drew (Mem.al (hM.out) _ _)) _ _)) | with_reducible have hM2 := Mem.later hb (Mem.al (Mem.al (Mem.al (Mem.al (Mem.al (hM.out) _ _) _ _) _ _) _ _) _ _) | with_reducible have hM2 := Mem.later hb (Mem.al (Mem.al (Mem.al (Mem.al (Mem.al (Mem.al (hM.out) _ _) _ _) _ _) _ _) _ _) _ _) | with_reducible have hM2 := Mem.later hb (Mem.al (Mem.al (Mem.al (Mem.al (Mem.al (Mem.al (Mem.al (hM.out) _ _) _ _) _ _) _ _) _ _) _ _) _ _) | with_reducible have hM2 := Mem.later hb (Mem.al (Mem.al (Mem.al (Mem.al (Mem.al (Mem.al (Mem.al (Mem.al (hM.out) _ _) _ _) _ _) _ _) _ _) _ _) _ _) _ _)); (try simp only [World.size_alloc, size_drew] at hM2); clear hM; have hM := Lib.hid hM2; clear hF; have hF := hM2; (try simp only [Mem, cellsAt, World.size_alloc, Nat.zero_add, Nat.reduceAdd, and_true] at hF); clear hM2; clear hb; (refine hK.out _ _ _ (fun _ h => h) (hM.out) (fun hHeld => ?_); clear hK; clear K; (try simp only [Act.put, List.setIfInBounds_toArray, List.set_cons_zero, List.set_cons_succ])))
  (refine wpT_step rfl (by rfl) (fun K hK => ?_); go_simp)
  (refine (H3.out _).mono ?_; rintro e w1 ⟨rfl, hb⟩; have hB : Below w.heap.size w w1 := (by refine bl_then ?_ hb; (repeat (first | exact hB | refine bl_al ?_ _ | refine Below.setCell ?_ (by first | exact hgs | exact Nat.le_succ_of_le hgs | exact hgs2 | exact hgs3) _ | refine Below.drew ?_ | refine bl_drewN ?_ _))); (first | with_reducible have hM2 := Mem.later hb (hM.out) | with_reducible have hM2 := Mem.later hb (Mem.al (hM.out) _ _) | with_reducible have hM2 := Mem.later hb (Mem.al (Mem.al (hM.out) _ _) _ _) | with_reducible have hM2 := Mem.later hb (Mem.al (Mem.al (Mem.al (hM.out) _ _) _ _) _ _) | with_reducible have hM2 := Mem.later hb (Mem.al (Mem.al (Mem.al (Mem.al (hM.out) _ _) _ _) _ _) _ _) | with_reducible have hM2 := Mem.later hb (Mem.drew (hM.out)) | with_reducible have hM2 := Mem.later hb (Mem.drew (Mem.al (hM.out) _ _)) | with_reducible have hM2 := Mem.later hb (Mem.al (Mem.drew (hM.out)) _ _) | with_reducible have hM2 := Mem.later hb (Mem.al (Mem.drew (Mem.al (hM.out) _ _)) _ _) | with_reducible have hM2 := Mem.later hb (Mem.drew (Mem.al (Mem.al (hM.out) _ _) _ _)) | with_reducible have hM2 := Mem.later hb (Mem.al (Mem.al (Mem.drew (hM.out)) _ _) _ _) | with_reducible have hM2 := Mem.later hb (Mem.drew (Mem.drew (hM.out))) | with_reducible have hM2 := Mem.later hb (Mem.drew (Mem.al (Mem.drew (hM.out)) _ _)) | with_reducible have hM2 := Mem.later hb (Mem.drew (Mem.al (Mem.al (Mem.al (hM.out) _ _) _ _) _ _)) | with_reducible have hM2 := Mem.later hb (Mem.al (Mem.al (Mem.drew (Mem.al (hM.out) _ _)) _ _) _ _) | with_reducible have hM2 := Mem.later hb (Mem.drew (Mem.al (Mem.drew (Mem.al (hM.out) _ _)) _ _)) | with_reducible have hM2 := Mem.later hb (Mem.al (Mem.al (Mem.al (Mem.al (Mem.al (hM.out) _ _) _ _) _ _) _ _) _ _) | with_reducible have hM2 := Mem.later hb (Mem.al (Mem.al (Mem.al (Mem.al (Mem.al (Mem.al (hM.out) _ _) _ _) _ _) _ _) _ _) _ _) | with_reducible have hM2 := Mem.later hb (Mem.al (Mem.al (Mem.al (Mem.al (Mem.al (Mem.al (Mem.al (hM.out) _ _) _ _) _ _) _ _) _ _) _ _) _ _) | with_reducible have hM2 := Mem.later hb (Mem.al (Mem.al (Mem.al (Mem.al (Mem.al (Mem.al (Mem.al (Mem.al (hM.out) _ _) _ _) _ _) _ _) _ _) _ _) _ _) _ _)); (try simp only [World.size_alloc, size_drew] at hM2); clear hM; have hM := Lib.hid hM2; clear hF; have hF := hM2; (try simp only [Mem, cellsAt, World.size_alloc, Nat.zero_add, Nat.reduceAdd, and_true] at hF); clear hM2; clear hb; (refine hK.out _ _ _ (fun _ h => h) (hM.out) (fun hHeld => ?_); clear hK; clear K; (try simp only [Act.put, List.setIfInBounds_toArray, List.set_cons_zero, List.set_cons_succ])))
  (refine wpT_step rfl (by rfl) (fun K hK => ?_); go_simp)
  (refine (H4.out _).mono ?_; rintro e w1 ⟨rfl, hb⟩; have hB : Below w.heap.size w w1 := (by refine bl_then ?_ hb; (repeat (first | exact hB | refine bl_al ?_ _ | refine Below.setCell ?_ (by first | exact hgs | exact Nat.le_succ_of_le hgs | exact hgs2 | exact hgs3) _ | refine Below.drew ?_ | refine bl_drewN ?_ _))); (first | with_reducible have hM2 := Mem.later hb (hM.out) | with_reducible have hM2 := Mem.later hb (Mem.al (hM.out) _ _) | with_reducible have hM2 := Mem.later hb (Mem.al (Mem.al (hM.out) _ _) _ _) | with_reducible have hM2 := Mem.later hb (Mem.al (Mem.al (Mem.al (hM.out) _ _) _ _) _ _) | with_reducible have hM2 := Mem.later hb (Mem.al (Mem.al (Mem.al (Mem.al (hM.out) _ _) _ _) _ _) _ _) | with_reducible have hM2 := Mem.later hb (Mem.drew (hM.out)) | with_reducible have hM2 := Mem.later hb (Mem.drew (Mem.al (hM.out) _ _)) | with_reducible have hM2 := Mem.later hb (Mem.al (Mem.drew (hM.out)) _ _) | with_reducible have hM2 := Mem.later hb (Mem.al (Mem.drew (Mem.al (hM.out) _ _)) _ _) | with_reducible have hM2 := Mem.later hb (Mem.drew (Mem.al (Mem.al (hM.out) _ _) _ _)) | with_reducible have hM2 := Mem.later hb (Mem.al (Mem.al (Mem.drew (hM.out)) _ _) _ _) | with_reducible have hM2 := Mem.later hb (Mem.drew (Mem.drew (hM.out))) | with_reducible have hM2 := Mem.later hb (Mem.drew (Mem.al (Mem.drew (hM.out)) _ _)) | with_reducible have hM2 := Mem.later hb (Mem.drew (Mem.al (Mem.al (Mem.al (hM.out) _ _) _ _) _ _)) | with_reducible have hM2 := Mem.later hb (Mem.al (Mem.al (Mem.drew (Mem.al (hM.out) _ _)) _ _) _ _) | with_reducible have hM2 := Mem.later hb (Mem.drew (Mem.al (Mem.drew (Mem.al (hM.out) _ _)) _ _)) | with_reducible have hM2 := Mem.later hb (Mem.al (Mem.al (Mem.al (Mem.al (Mem.al (hM.out) _ _) _ _) _ _) _ _) _ _) | with_reducible have hM2 := Mem.later hb (Mem.al (Mem.al (Mem.al (Mem.al (Mem.al (Mem.al (hM.out) _ _) _ _) _ _) _ _) _ _) _ _) | with_reducible have hM2 := Mem.later hb (Mem.al (Mem.al (Mem.al (Mem.al (Mem.al (Mem.al (Mem.al (hM.out) _ _) _ _) _ _) _ _) _ _) _ _) _ _) | with_reducible have hM2 := Mem.later hb (Mem.al (Mem.al (Mem.al (Mem.al (Mem.al (Mem.al (Mem.al (Mem.al (hM.out) _ _) _ _) _ _) _ _) _ _) _ _) _ _) _ _)); (try simp only [World.size_alloc, size_drew] at hM2); clear hM; have hM := Lib.hid hM2; clear hF; have hF := hM2; (try simp only [Mem, cellsAt, World.size_alloc, Nat.zero_add, Nat.reduceAdd, and_true] at hF); clear hM2; clear hb; (refine hK.out _ _ _ (fun _ h => h) (hM.out) (fun hHeld => ?_); clear hK; clear K; (try simp only [Act.put, List.setIfInBounds_toArray, List.set_cons_zero, List.set_cons_succ])))
  (refine wpT_step rfl (by rfl) (fun K hK => ?_); go_simp)
  (refine (H5.out _).mono ?_; rintro e w1 ⟨rfl, hb⟩; have hB : Below w.heap.size w w1 := (by refine bl_then ?_ hb; (repeat (first | exact hB | refine bl_al ?_ _ | refine Below.setCell ?_ (by first | exact hgs | exact Nat.le_succ_of_le hgs | exact hgs2 | exact hgs3) _ | refine Below.drew ?_ | refine bl_drewN ?_ _))); (first | with_reducible have hM2 := Mem.later hb (hM.out) | with_reducible have hM2 := Mem.later hb (Mem.al (hM.out) _ _) | with_reducible have hM2 := Mem.later hb (Mem.al (Mem.al (hM.out) _ _) _ _) | with_reducible have hM2 := Mem.later hb (Mem.al (Mem.al (Mem.al (hM.out) _ _) _ _) _ _) | with_reducible have hM2 := Mem.later hb (Mem.al (Mem.al (Mem.al (Mem.al (hM.out) _ _) _ _) _ _) _ _) | with_reducible have hM2 := Mem.later hb (Mem.drew (hM.out)) | with_reducible have hM2 := Mem.later hb (Mem.drew (Mem.al (hM.out) _ _)) | with_reducible have hM2 := Mem.later hb (Mem.al (Mem.drew (hM.out)) _ _) | with_reducible have hM2 := Mem.later hb (Mem.al (Mem.drew (Mem.al (hM.out) _ _)) _ _) | with_reducible have hM2 := Mem.later hb (Mem.drew (Mem.al (Mem.al (hM.out) _ _) _ _)) | with_reducible have hM2 := Mem.later hb (Mem.al (Mem.al (Mem.drew (hM.out)) _ _) _ _) | with_reducible have hM2 := Mem.later hb (Mem.drew (Mem.drew (hM.out))) | with_reducible have hM2 := Mem.later hb (Mem.drew (Mem.al (Mem.drew (hM.out)) _ _)) | with_reducible have hM2 := Mem.later hb (Mem.drew (Mem.al (Mem.al (Mem.al (hM.out) _ _) _ _) _ _)) | with_reducible have hM2 := Mem.later hb (Mem.al (Mem.al (Mem.drew (Mem.al (hM.out) _ _)) _ _) _ _) | with_reducible have hM2 := Mem.later hb (Mem.drew (Mem.al (Mem.drew (Mem.al (hM.out) _ _)) _ _)) | with_reducible have hM2 := Mem.later hb (Mem.al (Mem.al (Mem.al (Mem.al (Mem.al (hM.out) _ _) _ _) _ _) _ _) _ _) | with_reducible have hM2 := Mem.later hb (Mem.al (Mem.al (Mem.al (Mem.al (Mem.al (Mem.al (hM.out) _ _) _ _) _ _) _ _) _ _) _ _) | with_reducible have hM2 := Mem.later hb (Mem.al (Mem.al (Mem.al (Mem.al (Mem.al (Mem.al (Mem.al (hM.out) _ _) _ _) _ _) _ _) _ _) _ _) _ _) | with_reducible have hM2 := Mem.later hb (Mem.al (Mem.al (Mem.al (Mem.al (Mem.al (Mem.al (Mem.al (Mem.al (hM.out) _ _) _ _) _ _) _ _) _ _) _ _) _ _) _ _)); (try simp only [World.size_alloc, size_drew] at hM2); clear hM; have hM := Lib.hid hM2; clear hF; have hF := hM2; (try simp only [Mem, cellsAt, World.size_alloc, Nat.zero_add, Nat.reduceAdd, and_true] at hF); clear hM2; clear hb; (refine hK.out _ _ _ (fun _ h => h) (hM.out) (fun hHeld => ?_); clear hK; clear K; (try simp only [Act.put, List.setIfInBounds_toArray, List.set_cons_zero, List.set_cons_succ])))
  (refine wpT_step rfl (by rfl) (fun K hK => ?_); go_simp)
  (refine hK.out _ _ _ (fun _ h => h) (Mem.skip hM.out _) (fun hHeld => ?_); clear hK; clear K; (try simp only [Act.put, List.setIfInBounds_toArray, List.set_cons_zero, List.set_cons_succ]))
  (refine wpT_step rfl (by rfl) (fun K hK => ?_); go_simp)
  (refine (all_any b0 b1 b2 b3 b4 b5 b6 _ _ (Mem.al (mem_nil _) [.bool b0, .bool b1, .bool b2, .bool b3, .bool b4, .bool b5, .bool b6] 4)).mono ?_; rintro e w2 ⟨rfl, hb⟩; (refine hK.out _ _ _ (fun _ h => h) (Mem.later hb (Mem.skip hM.out _)) (fun hHeld => ?_); clear hK; clear K; (try simp only [Act.put, List.setIfInBounds_toArray, List.set_cons_zero, List.set_cons_succ])))
  iterate 1 (refine wpT_take rfl (by rfl) (by rfl) (by intro w' hSw; (try dsimp only [Mem, cellsAt] at hSw); go_simp; (try with_reducible rfl)) (by assumption) ?_; (try simp only [Act.put, List.setIfInBounds_toArray, List.set_cons_zero, List.set_cons_succ]))
  (refine wpT_nil ?_)
  go_wp2
  go_ret
  exact ⟨rfl, bl_then (bl_al hB _) hb⟩
end Go.Proofs.YtlhdfmaekbnhaaaGreatDoor

/- Package retarget: Next (made by gen_rt.py). (hM) -/
namespace Go.Proofs.YtlhdfmaekbnhaaaGreatDoor
set_option linter.unusedVariables false
set_option linter.unusedSimpArgs false
open Go.RowKit

def nextV (lim iv sp fu ix orp : Int) (n : Nat) (h tm bt fs : Int) : Int :=
  if saneV lim iv sp fu ix orp n = true then (if h ≤ 0 ∨ h % iv ≠ 0 then bt else scaleV bt (clampV (tm - fs) sp) sp lim) else lim
/-- what Next's two boxes hold -/
def NextBox (B : Nat) (lim iv sp tm bt : Int) (x : World) : Prop :=
  B + 1 < x.heap.size ∧ x.cell? ⟨B, 0, none⟩ = some (.int .u32 lim) ∧ x.cell? ⟨B, 1, none⟩ = some (.int .i64 iv) ∧ x.cell? ⟨B, 2, none⟩ = some (.int .i64 sp) ∧ x.cell? ⟨B + 1, 65, none⟩ = some (.int .u32 tm) ∧ x.cell? ⟨B + 1, 66, none⟩ = some (.int .u32 bt)
theorem NextBox.later {B : Nat} {lim iv sp tm bt : Int} {x y : World} (h : NextBox B lim iv sp tm bt x) (hb : Below x.heap.size x y) : NextBox B lim iv sp tm bt y := by
  obtain ⟨h0, h1, h2, h3, h4, h5⟩ := h
  have hB : B < x.heap.size := by omega
  exact ⟨Nat.lt_of_lt_of_le h0 hb.size, by rw [hb.cell (p := ⟨B, 0, none⟩) hB]; exact h1, by rw [hb.cell (p := ⟨B, 1, none⟩) hB]; exact h2, by rw [hb.cell (p := ⟨B, 2, none⟩) hB]; exact h3,
    by rw [hb.cell (p := ⟨B + 1, 65, none⟩) h0]; exact h4, by rw [hb.cell (p := ⟨B + 1, 66, none⟩) h0]; exact h5⟩
theorem sane_iv {lim iv sp fu ix orp : Int} {n : Nat} (h : saneV lim iv sp fu ix orp n = true) : (1 ≤ iv ∧ iv ≤ 1048576) ∧ (4 ≤ sp ∧ sp ≤ 1099511627776) ∧ expOk lim = true := by
  unfold saneV inB at h
  simp only [Bool.and_eq_true, decide_eq_true_eq] at h
  obtain ⟨⟨⟨⟨⟨⟨h1, h2⟩, h3⟩, _⟩, _⟩, _⟩, _⟩ := h
  exact ⟨h1, h2, h3⟩
theorem clamp_le (a sp : Int) : 1 ≤ clampV a sp ∧ clampV a sp ≤ 4398046511104 := by unfold clampV; omega

set_option maxRecDepth 100000 in
set_option maxHeartbeats 2000000 in
theorem next_any (lim iv sp fu ix orp : Int) (ao : Option Addr) (n cp : Nat) (hl : 0 ≤ lim ∧ lim < 4294967296) (h : Int) (hd : Array Value) (hsz : hd.size = 68) (tm bt fs : Int) (h65 : hd[65]? = some (.int .u32 tm)) (h66 : hd[66]? = some (.int .u32 bt))
    (htm : 0 ≤ tm ∧ tm < 4294967296) (hbt : 0 ≤ bt ∧ bt < 4294967296) (hfs : 0 ≤ fs ∧ fs < 4294967296) (w : World) :
    Calls Tryz.prog 32 #[PV lim iv sp fu ix orp ao n cp, .int .i64 h, .agg hd, .int .u32 fs] w fun e w' => e = .returned (.int .u32 (nextV lim iv sp fu ix orp n h tm bt fs)) ∧ Below w.heap.size w w' := by
  have HS := Lib.hid (fun w => sane_any lim iv sp fu ix orp ao n cp hl w)
  cases hsn : saneV lim iv sp fu ix orp n with
  | false =>
    have hv : nextV lim iv sp fu ix orp n h tm bt fs = lim := if_neg (by rw [hsn]; simp)
    rw [hv]
    rw [hsn] at HS
    clear hv hsn hl htm hbt hfs
    go_enter Tryz.func32, Tryz.ntmps32
    go_wp2_with (go_at_call 10; (with_reducible refine (HS.out _).mono ?_); rintro e w1 ⟨rfl, hb⟩; have hN : NextBox w.heap.size lim iv sp tm bt w1 := NextBox.later (by refine ⟨?_, ?_, ?_, ?_, ?_, ?_⟩ <;> simp [h65, h66]) hb; have hN2 := hN; unfold NextBox at hN2)
    go_ret
    exact ⟨rfl, bl_then (bl_al (bl_al (Below.refl _ _) _) _) hb⟩
  | true =>
    obtain ⟨hiv, hspb, hokl⟩ := sane_iv hsn
    rw [hsn] at HS
    have hiv0 : ¬ iv = 0 := by omega
    obtain ⟨r, hr⟩ : ∃ r, h.tmod iv = r := ⟨_, rfl⟩
    by_cases hh : h ≤ 0
    · have hv : nextV lim iv sp fu ix orp n h tm bt fs = bt := by unfold nextV; rw [if_pos hsn, if_pos (.inl hh)]
      rw [hv]
      clear hv hsn hl htm hbt hfs hr hiv hspb hokl
      go_enter Tryz.func32, Tryz.ntmps32
      go_wp2_with (go_at_call 10; (with_reducible refine (HS.out _).mono ?_); rintro e w1 ⟨rfl, hb⟩; have hN : NextBox w.heap.size lim iv sp tm bt w1 := NextBox.later (by refine ⟨?_, ?_, ?_, ?_, ?_, ?_⟩ <;> simp [h65, h66]) hb; have hN2 := hN; unfold NextBox at hN2)
      go_ret
      exact ⟨rfl, bl_then (bl_al (bl_al (Below.refl _ _) _) _) hb⟩
    have hre : h % iv = r := by rw [← hr, Int.tmod_eq_emod_of_nonneg (by omega)]
    have hr0 := Int.emod_nonneg h hiv0
    have hr1 := Int.emod_lt_of_pos h (show 0 < iv by omega)
    rw [hre] at hr0 hr1
    have hwr : IntKind.i64.wrap r = r := by rw [IntKind.wrap_i64]; omega
    by_cases hrz : r = 0
    · have hv : nextV lim iv sp fu ix orp n h tm bt fs = scaleV bt (clampV (tm - fs) sp) sp lim := by
        unfold nextV
        rw [if_pos hsn, if_neg (by rw [hre]; omega)]
      rw [hv]
      subst hrz
      have HC := Lib.hid (fun w => clamp_any (tm - fs) sp w)
      have hcl := clamp_le (tm - fs) sp
      obtain ⟨c, hc⟩ : ∃ c, clampV (tm - fs) sp = c := ⟨_, rfl⟩
      rw [hc] at HC hcl ⊢
      have HSc := Lib.hid (fun w => scale_any bt c sp lim hbt hl ⟨by omega, by unfold WI; omega⟩ ⟨by omega, by unfold WI; omega⟩ w)
      obtain ⟨res, hres⟩ : ∃ x, scaleV bt c sp lim = x := ⟨_, rfl⟩
      rw [hres] at HSc ⊢
      have hw1 : IntKind.i64.wrap tm = tm := by rw [IntKind.wrap_i64]; omega
      have hw2 : IntKind.i64.wrap fs = fs := by rw [IntKind.wrap_i64]; omega
      have hw3 : IntKind.i64.wrap (tm - fs) = tm - fs := by rw [IntKind.wrap_i64]; omega
      have hw4 : IntKind.u64.wrap c = c := by rw [IntKind.wrap_u64]; omega
      have hw5 : IntKind.u64.wrap sp = sp := by rw [IntKind.wrap_u64]; omega
      clear hv hsn hl htm hbt hfs hiv hspb hokl hre hr0 hr1 hc hres hcl
      go_enter Tryz.func32, Tryz.ntmps32
      go_wp2_with (first | (go_at_call 10; (with_reducible refine (HS.out _).mono ?_); rintro e w1 ⟨rfl, hb⟩; have hN : NextBox w.heap.size lim iv sp tm bt w1 := NextBox.later (by refine ⟨?_, ?_, ?_, ?_, ?_, ?_⟩ <;> simp [h65, h66]) hb; have hN2 := hN; unfold NextBox at hN2) | (go_at_call 43; (with_reducible refine (HC.out _).mono ?_); rintro e w2 ⟨rfl, hb2⟩; have hN3 := NextBox.later hN hb2; clear hN2; have hN2 := hN3; unfold NextBox at hN2) | (go_at_call 44; (with_reducible refine (HSc.out _).mono ?_); rintro e w3 ⟨rfl, hb3⟩))
      go_ret
      exact ⟨rfl, bl_then (bl_then (bl_then (bl_al (bl_al (Below.refl _ _) _) _) hb) hb2) hb3⟩
    · have hv : nextV lim iv sp fu ix orp n h tm bt fs = bt := by
        unfold nextV
        rw [if_pos hsn, if_pos (.inr (by rw [hre]; exact hrz))]
      rw [hv]
      have hrb : (r != 0) = true := by simpa using hrz
      clear hv hsn hl htm hbt hfs hiv hspb hokl hre hr0 hr1
      go_enter Tryz.func32, Tryz.ntmps32
      go_wp2_with (go_at_call 10; (with_reducible refine (HS.out _).mono ?_); rintro e w1 ⟨rfl, hb⟩; have hN : NextBox w.heap.size lim iv sp tm bt w1 := NextBox.later (by refine ⟨?_, ?_, ?_, ?_, ?_, ?_⟩ <;> simp [h65, h66]) hb; have hN2 := hN; unfold NextBox at hN2)
      go_ret
      exact ⟨rfl, bl_then (bl_al (bl_al (Below.refl _ _) _) _) hb⟩
end Go.Proofs.YtlhdfmaekbnhaaaGreatDoor

/- Stage 13's beginning, and RetargetClamp (made by gen_rt.py). -/
namespace Go.Proofs.YtlhdfmaekbnhaaaGreatDoor
set_option linter.unusedVariables false
set_option linter.unusedSimpArgs false
open Go.RowKit
end Go.Proofs.YtlhdfmaekbnhaaaGreatDoor

/- Stage 13: rules and headers as arguments; what Scale's bits tell (made by gen_rt6.py). -/
namespace Go.Proofs.YtlhdfmaekbnhaaaGreatDoor
set_option linter.unusedVariables false
set_option linter.unusedSimpArgs false
open Go.RowKit

theorem take1 {cs : Array Value} {i : Nat} {u : Value} (h : (cs.toList.drop i).take 1 = [u]) : cs[i]? = some u := by
  have hl : i < cs.toList.length := by
    rcases Nat.lt_or_ge i cs.toList.length with h1 | h1
    · exact h1
    · rw [List.drop_of_length_le h1] at h; cases h
  rw [List.drop_eq_getElem_cons hl, List.take_succ_cons, List.take_zero] at h
  have := (List.cons.inj h).1
  rw [← this]
  simp at hl ⊢
set_option maxRecDepth 100000 in
/-- rules as an argument -/
theorem rd_params {w : World} {v : Value} (k : Rd Tryz.prog w 25 v) :
    ∃ (lim iv sp fu ix orp : Int) (ao : Option Addr) (n cp : Nat), v = PV lim iv sp fu ix orp ao n cp ∧ (0 ≤ lim ∧ lim < 4294967296) := by
  obtain ⟨cs, rfl, hsz, hc⟩ := k.agg (.inl ⟨_, Tryz.underlying25⟩)
  obtain ⟨_, hf⟩ := hc.struct Tryz.underlying25
  have cI : Tryz.prog.cellsOf 3 = 1 := by kernel_rfl
  have cU : Tryz.prog.cellsOf 22 = 1 := by kernel_rfl
  have cC : Tryz.prog.cellsOf 23 = 1 := by kernel_rfl
  have cP : Tryz.prog.cellsOf 25 = 7 := by kernel_rfl
  have f0 : RdC Tryz.prog w 22 ((cs.toList.drop 0).take (Tryz.prog.cellsOf 22)) := hf 0 _ rfl
  have f1 : RdC Tryz.prog w 3 ((cs.toList.drop 1).take (Tryz.prog.cellsOf 3)) := hf 1 _ rfl
  have f2 : RdC Tryz.prog w 3 ((cs.toList.drop 2).take (Tryz.prog.cellsOf 3)) := hf 2 _ rfl
  have f3 : RdC Tryz.prog w 3 ((cs.toList.drop 3).take (Tryz.prog.cellsOf 3)) := hf 3 _ rfl
  have f4 : RdC Tryz.prog w 3 ((cs.toList.drop 4).take (Tryz.prog.cellsOf 3)) := hf 4 _ rfl
  have f5 : RdC Tryz.prog w 3 ((cs.toList.drop 5).take (Tryz.prog.cellsOf 3)) := hf 5 _ rfl
  have f6 : RdC Tryz.prog w 23 ((cs.toList.drop 6).take (Tryz.prog.cellsOf 23)) := hf 6 _ rfl
  rw [cI] at f1 f2 f3 f4 f5
  rw [cU] at f0
  rw [cC] at f6
  obtain ⟨lim, e0, hw0⟩ := f0.int Tryz.underlying22
  obtain ⟨iv, e1, _⟩ := f1.int Tryz.underlying3
  obtain ⟨sp, e2, _⟩ := f2.int Tryz.underlying3
  obtain ⟨fu, e3, _⟩ := f3.int Tryz.underlying3
  obtain ⟨ix, e4, _⟩ := f4.int Tryz.underlying3
  obtain ⟨orp, e5, _⟩ := f5.int Tryz.underlying3
  obtain ⟨ao, n, cp, X, e6, _⟩ := f6.slice (sz := 33) Tryz.underlying23 (by kernel_rfl) (by decide)
  refine ⟨lim, iv, sp, fu, ix, orp, ao, n, cp, ?_, u32_wf5 hw0⟩
  rw [cP] at hsz
  have a0 := take1 e0
  have a1 := take1 e1
  have a2 := take1 e2
  have a3 := take1 e3
  have a4 := take1 e4
  have a5 := take1 e5
  have a6 := take1 e6
  refine congrArg Value.agg ?_
  apply Array.ext_getElem?
  intro i
  rcases Nat.lt_or_ge i 7 with hi | hi
  · have : i = 0 ∨ i = 1 ∨ i = 2 ∨ i = 3 ∨ i = 4 ∨ i = 5 ∨ i = 6 := by omega
    rcases this with rfl | rfl | rfl | rfl | rfl | rfl | rfl
    · rw [a0]; rfl
    · rw [a1]; rfl
    · rw [a2]; rfl
    · rw [a3]; rfl
    · rw [a4]; rfl
    · rw [a5]; rfl
    · rw [a6]; rfl
  · rw [Array.getElem?_eq_none (by omega), Array.getElem?_eq_none (by simpa using hi)]
set_option maxRecDepth 100000 in
/-- a header's time and bits -/
theorem rdc_header {w : World} {cs : List Value} (hc : RdC Tryz.prog w 30 cs) :
    cs.length = 68 ∧ ∃ (tm bt : Int), (cs.drop 65).take 1 = [.int .u32 tm] ∧ (cs.drop 66).take 1 = [.int .u32 bt] ∧ (0 ≤ tm ∧ tm < 4294967296) ∧ (0 ≤ bt ∧ bt < 4294967296) := by
  obtain ⟨hl, hf⟩ := hc.struct Tryz.underlying30
  have cU : Tryz.prog.cellsOf 22 = 1 := by kernel_rfl
  have cH : Tryz.prog.cellsOf 30 = 68 := by kernel_rfl
  have f3 : RdC Tryz.prog w 22 ((cs.drop 65).take (Tryz.prog.cellsOf 22)) := hf 3 _ rfl
  have f4 : RdC Tryz.prog w 22 ((cs.drop 66).take (Tryz.prog.cellsOf 22)) := hf 4 _ rfl
  rw [cU] at f3 f4
  obtain ⟨tm, e3, h3⟩ := f3.int Tryz.underlying22
  obtain ⟨bt, e4, h4⟩ := f4.int Tryz.underlying22
  exact ⟨by rw [← cH]; exact hl, tm, bt, e3, e4, u32_wf5 h3, u32_wf5 h4⟩
theorem rd_header {w : World} {v : Value} (k : Rd Tryz.prog w 30 v) :
    ∃ (hd : Array Value) (tm bt : Int), v = .agg hd ∧ hd.size = 68 ∧ hd[65]? = some (.int .u32 tm) ∧ hd[66]? = some (.int .u32 bt) ∧ (0 ≤ tm ∧ tm < 4294967296) ∧ (0 ≤ bt ∧ bt < 4294967296) := by
  obtain ⟨cs, rfl, hsz, hc⟩ := k.agg (.inl ⟨_, Tryz.underlying30⟩)
  obtain ⟨hl, tm, bt, e3, e4, h3, h4⟩ := rdc_header hc
  exact ⟨cs, tm, bt, rfl, by simpa using hl, take1 e3, take1 e4, h3, h4⟩

theorem nat_holds (A : Int) (h0 : 1 ≤ A) (h1 : A < WW) : natLen A ≤ 256 ∧ 2 ^ (natLen A - 1) ≤ A ∧ A < 2 ^ natLen A := by
  obtain ⟨a0, a1, a2, a3, ha, hn⟩ := b4_of A ⟨by omega, h1⟩
  obtain ⟨L, hL, hL1, hL2, hL3⟩ := len_holds ha
  have h2 := natLen_is ha
  rw [hn] at h2 hL2 hL3
  have h3 : natLen A = L := by omega
  rw [h3]
  refine ⟨hL1, hL3 ?_, hL2⟩
  rcases Nat.eq_zero_or_pos L with h | h
  · subst h; simp at hL2; omega
  · exact h
theorem shrI_ok (A : Int) (h0 : 1 ≤ A) (h1 : A < WW) : (0 ≤ shrI A ∧ shrI A < 4294967296) ∧ expOk (shrI A) = true ∧ expV (shrI A) ≤ A ∧ A - expV (shrI A) ≤ A / 2 ^ 14 := by
  obtain ⟨a, b, c⟩ := nat_holds A h0 h1
  obtain ⟨x, y, z, u, _⟩ := back_num A (natLen A) h0 a b c h1
  exact ⟨x, y, z, u⟩
/-- what is scaled stays within the limit -/
theorem scale_ok (b num den lim : Int) (hb : 0 ≤ b ∧ b < 4294967296) (hl : 0 ≤ lim ∧ lim < 4294967296) (hok : expOk lim = true) (hn : 0 ≤ num) (hd : 0 ≤ den) :
    (0 ≤ scaleV b num den lim ∧ scaleV b num den lim < 4294967296) ∧ expOk (scaleV b num den lim) = true ∧ expV (scaleV b num den lim) ≤ expV lim := by
  have hsm := exp_small lim hl hok
  obtain ⟨x, y, z, _⟩ := shrI_ok (expV lim) hsm.1 (by omega)
  unfold scaleV
  split
  · rename_i hc
    have hsb := exp_small b hb hc.1
    have hR : 0 ≤ expV b * num / den := Int.ediv_nonneg (Int.mul_nonneg (by omega) hn) hd
    split
    · exact ⟨x, y, z⟩
    · rename_i hc2
      obtain ⟨x', y', z', _⟩ := shrI_ok (expV b * num / den) (by omega) (by omega)
      exact ⟨x', y', by omega⟩
  · exact ⟨hl, hok, Int.le_refl _⟩
end Go.Proofs.YtlhdfmaekbnhaaaGreatDoor

/- RetargetHolds: the walk of the law (made by gen_rt6.py). (hM) -/
namespace Go.Proofs.YtlhdfmaekbnhaaaGreatDoor
set_option linter.unusedVariables false
set_option linter.unusedSimpArgs false
open Go.RowKit
end Go.Proofs.YtlhdfmaekbnhaaaGreatDoor

/- Package retarget: Chain. (hM) -/
namespace Go.Proofs.YtlhdfmaekbnhaaaGreatDoor
set_option linter.unusedVariables false
set_option linter.unusedSimpArgs false
open Go.RowKit

/-- The cells of each are a header's, of time τ and bits β. -/
def Heads2 (X : Nat → List Value) (n : Nat) (τ β : Nat → Int) : Prop := ∀ i, i < n → (X i)[65]? = some (.int .u32 (τ i)) ∧ (X i)[66]? = some (.int .u32 (β i)) ∧ (∀ u ∈ X i, u.oneCell' = true) ∧ (0 ≤ τ i ∧ τ i < 4294967296) ∧ (0 ≤ β i ∧ β i < 4294967296)
theorem rd_heads2 {w : World} {v : Value} (k : Rd Tryz.prog w 26 v) :
    ∃ ao n c X τ β, v = .slice ao n c ∧ SRow w ao n c 68 X ∧ Heads2 X n τ β ∧ n ≤ maxLen := by
  obtain ⟨ao, n, c, X, rfl, hX, hs, hn⟩ := k.slice (sz := 68) Tryz.underlying26 (by kernel_rfl) (by decide)
  have key : ∀ i, i < n → ∃ t s : Int, (X i)[65]? = some (.int .u32 t) ∧ (X i)[66]? = some (.int .u32 s) ∧ (∀ u ∈ X i, u.oneCell' = true) ∧ (0 ≤ t ∧ t < 4294967296) ∧ (0 ≤ s ∧ s < 4294967296) := by
    intro i hi
    have hl := hs.len i hi
    obtain ⟨_, hf⟩ := (hX i hi).struct Tryz.underlying30
    have c22 : Tryz.prog.cellsOf 22 = 1 := by kernel_rfl
    have cH : Tryz.prog.cellsOf 28 = 32 := by kernel_rfl
    have cB : Tryz.prog.cellsOf 5 = 1 := by kernel_rfl
    have f0 : RdC Tryz.prog w 22 (((X i).drop 0).take (Tryz.prog.cellsOf 22)) := hf 0 _ rfl
    have f1 : RdC Tryz.prog w 28 (((X i).drop 1).take (Tryz.prog.cellsOf 28)) := hf 1 _ rfl
    have f2 : RdC Tryz.prog w 28 (((X i).drop 33).take (Tryz.prog.cellsOf 28)) := hf 2 _ rfl
    have f3 : RdC Tryz.prog w 22 (((X i).drop 65).take (Tryz.prog.cellsOf 22)) := hf 3 _ rfl
    have f4 : RdC Tryz.prog w 22 (((X i).drop 66).take (Tryz.prog.cellsOf 22)) := hf 4 _ rfl
    have f5 : RdC Tryz.prog w 22 (((X i).drop 67).take (Tryz.prog.cellsOf 22)) := hf 5 _ rfl
    rw [c22] at f0 f3 f4 f5
    rw [cH] at f1 f2
    have one (j : Nat) (h : RdC Tryz.prog w 22 (((X i).drop j).take 1)) : ∃ z, (X i)[j]? = some (.int .u32 z) ∧ (0 ≤ z ∧ z < 4294967296) := by
      obtain ⟨z, hz, hzw⟩ := h.int Tryz.underlying22
      refine ⟨z, ?_, u32_wf5 hzw⟩
      have := congrArg (·[0]?) hz
      simpa [List.getElem?_take, List.getElem?_drop] using this
    have arr (j : Nat) (h : RdC Tryz.prog w 28 (((X i).drop j).take 32)) (t : Nat) (ht : t < 32) : ∃ z, (X i)[j + t]? = some (.int .u8 z) := by
      have h2 := (h.array Tryz.underlying28).2 t ht
      rw [cB] at h2
      obtain ⟨z, hz, _⟩ := h2.int Tryz.underlying5
      refine ⟨z, ?_⟩
      have := congrArg (·[0]?) hz
      simp only [Nat.mul_one] at this
      rw [List.getElem?_take_of_lt (by omega), List.getElem?_drop, List.getElem?_take_of_lt (by omega), List.getElem?_drop] at this
      simpa using this
    obtain ⟨z3, h3, w3⟩ := one 65 f3
    obtain ⟨z4, h4', w4⟩ := one 66 f4
    refine ⟨z3, z4, h3, h4', fun u hu => ?_, w3, w4⟩
    obtain ⟨t, ht, rfl⟩ := List.getElem_of_mem hu
    have hg : (X i)[t]? = some ((X i)[t]) := List.getElem?_eq_getElem ht
    have fin (k : IntKind) (z : Int) (h : (X i)[t]? = some (.int k z)) : ((X i)[t]).oneCell' = true := by
      rw [hg] at h
      rw [Option.some.inj h]
      rfl
    rcases Nat.lt_or_ge t 1 with h1 | h1
    · obtain ⟨z, hz, _⟩ := one 0 f0
      exact fin _ z (by rw [show t = 0 by omega]; exact hz)
    rcases Nat.lt_or_ge t 33 with h2 | h2
    · obtain ⟨z, hz⟩ := arr 1 f1 (t - 1) (by omega)
      exact fin _ z (by rw [show t = 1 + (t - 1) by omega]; exact hz)
    rcases Nat.lt_or_ge t 65 with h4 | h4
    · obtain ⟨z, hz⟩ := arr 33 f2 (t - 33) (by omega)
      exact fin _ z (by rw [show t = 33 + (t - 33) by omega]; exact hz)
    rcases Nat.lt_or_ge t 66 with h5 | h5
    · exact fin _ z3 (by rw [show t = 65 by omega]; exact h3)
    rcases Nat.lt_or_ge t 67 with h6 | h6
    · obtain ⟨z, hz, _⟩ := one 66 f4
      exact fin _ z (by rw [show t = 66 by omega]; exact hz)
    · obtain ⟨z, hz, _⟩ := one 67 f5
      exact fin _ z (by rw [show t = 67 by omega]; exact hz)
  have this : ∀ i, ∃ t s : Int, i < n → (X i)[65]? = some (.int .u32 t) ∧ (X i)[66]? = some (.int .u32 s) ∧ (∀ u ∈ X i, u.oneCell' = true) ∧ (0 ≤ t ∧ t < 4294967296) ∧ (0 ≤ s ∧ s < 4294967296) := fun i => by
    by_cases hi : i < n
    · obtain ⟨t, s, h⟩ := key i hi; exact ⟨t, s, fun _ => h⟩
    · exact ⟨0, 0, fun h => absurd h hi⟩
  exact ⟨ao, n, c, X, fun i => (this i).choose, fun i => (this i).choose_spec.choose, rfl, hs, fun i hi => (this i).choose_spec.choose_spec hi, hn⟩

noncomputable def zH : Array Value := (((Tryz.prog.info? 30).bind (·.zero)).getD undef).cells
theorem zH_size : zH.size = 68 := by kernel_rfl

theorem zero_hdr (w : World) : (zeroValue 30).run Tryz.prog w = .ok (.agg zH) w := by kernel_rfl

theorem store_hdr (wr : World) (xs : List Value) (hl : xs.length = 68) (h1 : ∀ u ∈ xs, u.oneCell' = true) :
    (storeCells ⟨wr.heap.size, 0, none⟩ xs).run Tryz.prog (wr.alloc (.cells zH 30)) = .ok () ((wr.alloc (.cells zH 30)).setRow wr.heap.size xs.toArray) := by
  have := run_storeCells_at Tryz.prog wr.heap.size 0 30 xs 0 zH (wr.alloc (.cells zH 30)) (heap_alloc_new wr _) (by rw [zH_size]; omega) h1
  rw [this, Nat.zero_add, List.take_zero, List.nil_append, List.drop_of_length_le (by rw [Array.length_toList, zH_size]; omega), List.append_nil]

/-- what Chain's last statement reads -/
def ChS (B g b o : Nat) (pv : List Value) (t : Int) (ys : List Value) (x : World) : Prop := Mem x [(B, pv)] ∧ (g < x.heap.size ∧ x.cell? ⟨g, 65, none⟩ = some (.int .u32 t)) ∧ (b < x.heap.size ∧ x.rangeAt b o ys)
theorem ChS.later {B g b o : Nat} {pv : List Value} {t : Int} {ys : List Value} {x y : World} (h : ChS B g b o pv t ys x) (hb : Below x.heap.size x y) : ChS B g b o pv t ys y :=
  ⟨Mem.later hb h.1, ⟨Nat.lt_of_lt_of_le h.2.1.1 hb.size, (hb.cell (p := ⟨g, 65, none⟩) h.2.1.1).trans h.2.1.2⟩, ⟨Nat.lt_of_lt_of_le h.2.2.1 hb.size, fun k v hk => (hb.cell (p := ⟨b, o + k, none⟩) h.2.2.1).trans (h.2.2.2 k v hk)⟩⟩
theorem first_le (m : Nat) (iv : Int) : ∃ j : Nat, firstV ((m : Int) + 1) iv = (j : Int) ∧ j ≤ m := by
  refine ⟨(firstV ((m : Int) + 1) iv).toNat, ?_, ?_⟩ <;> unfold firstV <;> split <;> omega

set_option maxRecDepth 100000 in
set_option maxHeartbeats 1000000 in
theorem chain_zero (lim iv sp fu ix orp : Int) (ao : Option Addr) (n cp : Nat) (lo : Option Addr) (lc : Nat) (w : World) :
    Calls Tryz.prog 13 #[PV lim iv sp fu ix orp ao n cp, .slice lo 0 lc] w fun e w' => e = .returned (.int .u32 lim) ∧ Below w.heap.size w w' := by
  go_enter Tryz.func13, Tryz.ntmps13
  go_wp2
  go_ret
  exact ⟨rfl, by (repeat (first | exact Below.refl _ _ | refine Below.drew ?_ | refine bl_drewN ?_ _ | (refine Below.alloc ?_ (by first | exact Nat.le_refl _ | (simp; done) | (simp; omega)) _)))⟩

set_option maxRecDepth 100000 in
set_option maxHeartbeats 2000000 in
theorem chain_any (lim iv sp fu ix orp : Int) (ao : Option Addr) (n cp : Nat) (hlim : 0 ≤ lim ∧ lim < 4294967296) (lo : Option Addr) (m lc : Nat) (hm : m ≤ 1000000) (X : Nat → List Value) (τ β : Nat → Int) (w : World) (hr : SRow w lo (m + 1) lc 68 X) (hX : Heads2 X (m + 1) τ β)
    (j : Nat) (hj : firstV ((m : Int) + 1) iv = (j : Int)) (hjm : j ≤ m) :
    Calls Tryz.prog 13 #[PV lim iv sp fu ix orp ao n cp, .slice lo (m + 1) lc] w fun e w' => e = .returned (.int .u32 (nextV lim iv sp fu ix orp n ((m : Int) + 1) (τ m) (β m) (τ j))) ∧ Below w.heap.size w w' := by
  obtain ⟨b, off, rfl⟩ := hr.addr (by decide) (by omega)
  have hblt := hr.lt (by decide) (by omega) _ rfl
  dsimp only at hblt
  obtain ⟨xs, hxs⟩ : ∃ xs, X j = xs := ⟨_, rfl⟩
  obtain ⟨ys, hys⟩ : ∃ ys, X m = ys := ⟨_, rfl⟩
  have hxl : xs.length = 68 := by rw [← hxs]; exact hr.len j (by omega)
  have hyl : ys.length = 68 := by rw [← hys]; exact hr.len m (by omega)
  obtain ⟨x65, x66, x1, xτ, xβ⟩ := hX j (by omega)
  obtain ⟨y65, y66, y1, yτ, yβ⟩ := hX m (by omega)
  rw [hxs] at x65 x66 x1
  rw [hys] at y65 y66 y1
  have hcx : w.rangeAt b (off + j * 68) xs := fun k v hk => by rw [Nat.add_assoc]; exact (hr.cells _ rfl j (by omega) k v (by rw [hxs]; exact hk)).2
  have hcy : w.rangeAt b (off + m * 68) ys := fun k v hk => by rw [Nat.add_assoc]; exact (hr.cells _ rfl m (by omega) k v (by rw [hys]; exact hk)).2
  have rl : ∀ {o : Nat} {zs : List Value} {x : World}, w.rangeAt b o zs → Below w.heap.size w x → x.rangeAt b o zs := fun h hb k v hk => (hb.cell (p := ⟨b, _, none⟩) hblt).trans (h k v hk)
  have HFi := Lib.hid (fun w => hj ▸ first_any ((m : Int) + 1) iv (by omega) w)
  have HNx := Lib.hid (fun w => next_any lim iv sp fu ix orp ao n cp hlim ((m : Int) + 1) ys.toArray (by simpa using hyl) (τ m) (β m) (τ j) (by simpa using y65) (by simpa using y66) yτ yβ xτ w)
  have HX := Lib.hid (show xs.length = 68 ∧ ys.length = 68 ∧ (∀ u ∈ xs, u.oneCell' = true) ∧ xs[65]? = some (.int .u32 (τ j)) from ⟨hxl, hyl, x1, x65⟩)
  have HR := Lib.hid (show (∀ x, Below w.heap.size w x → x.rangeAt b (off + j * 68) xs) ∧ (∀ x, Below w.heap.size w x → x.rangeAt b (off + m * 68) ys) from ⟨fun x h => rl hcx h, fun x h => rl hcy h⟩)
  have hne : ((m : Int) + 1 == 0) = false := by simp; omega
  have hjm' : (j : Int) < (m : Int) + 1 := by omega
  have hmm' : (m : Int) < (m : Int) + 1 := by omega
  have hw1 : IntKind.i64.wrap (m : Int) = (m : Int) := wrap_small _ (by omega) (by omega)
  clear hr hX hcx hcy hyl x65 x66 x1 xβ y65 y66 y1 yτ yβ hj hxs hys rl xτ hlim
  have HBL := Lib.hid hblt
  clear hblt
  go_enter Tryz.func13, Tryz.ntmps13
  go_wp2_with (first | (go_at_call 31; (with_reducible refine (HFi.out _).mono ?_); rintro e w1 ⟨rfl, hb⟩; have hb1 := bl_then (below_alloc w _) hb; have hMp := Mem.later hb (Mem.al (mem_nil w) _ _); have hz := zero_hdr w1; have hst := store_hdr w1 xs HX.out.1 HX.out.2.2.1; have hC := Lib.hid (HR.out.1 w1 hb1)) | (refine Go.wpList_load_mid rfl 30 (.tmp 18) rfl b (off + j * 68) rfl xs _ hC.out Tryz.underlying30 rfl (by rw [HX.out.1]; kernel_rfl) ?_))
  have hB2 : Below w.heap.size w ((w1.alloc (.cells zH 30)).setRow w1.heap.size xs.toArray) := below_setRow (hb1.alloc hb1.size _) hb1.size _
  have hbW : Below w1.heap.size w1 ((w1.alloc (.cells zH 30)).setRow w1.heap.size xs.toArray) := below_setRow ((Below.refl w1.heap.size w1).alloc (Nat.le_refl _) _) (Nat.le_refl _) _
  have hcW : ((w1.alloc (.cells zH 30)).setRow w1.heap.size xs.toArray).cell? ⟨w1.heap.size, 65, none⟩ = some (.int .u32 (τ j)) := by
    rw [cell_setRow_same _ _ _ _ _ _ _ (heap_alloc_new w1 _)]
    simpa using HX.out.2.2.2
  have hlW : w1.heap.size < ((w1.alloc (.cells zH 30)).setRow w1.heap.size xs.toArray).heap.size := World.block_lt_of_cell? _ _ hcW
  have hCh := Lib.hid (show ChS w.heap.size w1.heap.size b (off + m * 68) [.int .u32 lim, .int .i64 iv, .int .i64 sp, .int .i64 fu, .int .i64 ix, .int .i64 orp, .slice ao n cp] (τ j) ys ((w1.alloc (.cells zH 30)).setRow w1.heap.size xs.toArray) from
    ⟨Mem.later hbW hMp, ⟨hlW, hcW⟩, ⟨Nat.lt_of_lt_of_le HBL.out hB2.size, HR.out.2 _ hB2⟩⟩)
  clear hst hz hMp hC hlW hbW hcW
  generalize (w1.alloc (.cells zH 30)).setRow w1.heap.size xs.toArray = W at *
  refine wp_plan (fun x => Mem x [(w.heap.size, [.int .u32 lim, .int .i64 iv, .int .i64 sp, .int .i64 fu, .int .i64 ix, .int .i64 orp, .slice ao n cp])] ∧ (w1.heap.size < x.heap.size ∧ x.cell? ⟨w1.heap.size, 65, none⟩ = some (.int .u32 (τ j))) ∧ (b < x.heap.size ∧ x.rangeAt b (off + m * 68) ys)) [9] [0, 1, 2, 3, 4, 5, 6, 7, 8, 9, 10] (by kernel_rfl) (by kernel_rfl) (hCh.out.later (Below.refl _ _).drew) (fun hHeld => ?_)
  iterate 6 (refine wpT_take rfl (by rfl) (by rfl) (by intro w' hSw; (try dsimp only [Mem, cellsAt] at hSw); go_simp; (try with_reducible rfl)) (by assumption) ?_; (try simp only [Act.put, List.setIfInBounds_toArray, List.set_cons_zero, List.set_cons_succ]))
  (refine wpT_yield rfl (by rfl) (Go.yieldsIf_load_mid (by rfl) 30 (.tmp 25) rfl b (off + m * 68) rfl ys _ (fun w' h => h.2.2.2) Tryz.underlying30 rfl (by rw [HX.out.2.1]; kernel_rfl)) (by assumption) ?_; (try simp only [Act.put, List.setIfInBounds_toArray, List.set_cons_zero, List.set_cons_succ]))
  iterate 2 (refine wpT_take rfl (by rfl) (by rfl) (by intro w' hSw; (try dsimp only [Mem, cellsAt] at hSw); go_simp; (try with_reducible rfl)) (by assumption) ?_; (try simp only [Act.put, List.setIfInBounds_toArray, List.set_cons_zero, List.set_cons_succ]))
  (refine wpT_step rfl (by rfl) (fun K hK => ?_); go_simp)
  (refine (HNx.out _).mono ?_; rintro e w2 ⟨rfl, hb2⟩; have hCh2 := Lib.hid ((hCh.out.later (Below.refl _ _).drew).later hb2); (refine hK.out _ _ _ (fun _ h => h) (hCh2.out) (fun hHeld => ?_); clear hK; clear K; (try simp only [Act.put, List.setIfInBounds_toArray, List.set_cons_zero, List.set_cons_succ])))
  iterate 1 (refine wpT_take rfl (by rfl) (by rfl) (by intro w' hSw; (try dsimp only [Mem, cellsAt] at hSw); go_simp; (try with_reducible rfl)) (by assumption) ?_; (try simp only [Act.put, List.setIfInBounds_toArray, List.set_cons_zero, List.set_cons_succ]))
  (refine wpT_nil ?_)
  go_wp2
  go_ret
  exact ⟨rfl, bl_then hB2.drew hb2⟩
end Go.Proofs.YtlhdfmaekbnhaaaGreatDoor
