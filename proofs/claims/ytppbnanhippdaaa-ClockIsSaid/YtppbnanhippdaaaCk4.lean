/- Clock: awake. -/
import Derived.Test.YtppbnanhippdaaaCk3
namespace Go.Proofs.Ytppbnanhippdaaa
set_option linter.unusedVariables false
set_option linter.unusedSimpArgs false
open Go.RowKit

theorem bl_then {a w w' : World} (h : Below a.heap.size a w) (k : Below w.heap.size w w') : Below a.heap.size a w' := h.trans (k.mono h.size)

theorem u32_of_wf {n : Int} (h : (Lit.int .u32 n).wf = true) : 0 ≤ n ∧ n < 4294967296 := by
  simp only [Lit.wf, Bool.and_eq_true, decide_eq_true_eq] at h
  have h1 : IntKind.u32.min = 0 := by decide
  have h2 : IntKind.u32.max = 4294967295 := by decide
  omega
theorem c32_range (f : Nat → Int) (n : Nat) : c32 ((List.range n).map f) = (List.range n).map fun i => .int .u32 (f i) := by simp [c32]

theorem lit0 (w : World) : (w.alloc (.cells #[] 22)).ownsRow w.heap.size 22 1 (.slice (some ⟨w.heap.size, 0, none⟩) 0 0) 0 [] :=
  World.ownsRow_lit w #[] 0 (Nat.le_refl _) (by unfold maxLen; omega) (by simp)

theorem med_513 : med [5, 1, 3] = 3 := by
  rw [med_of_perm (b := [1, 3, 5]) (by decide) (by decide)]
  unfold med srt
  rw [List.mergeSort_of_pairwise (by decide)]
  rfl

set_option maxHeartbeats 400000 in
theorem awake_any (w : World) : Calls Try.prog 8 #[] w fun e w' => e = .returned (.bool true) ∧ Below w.heap.size w w' := by
  have HX := Lib.hid (show Row (w.alloc (.cells #[.int .u32 5, .int .u32 1, .int .u32 3] 22)) (some ⟨w.heap.size, 0, none⟩) 3 3 1 (c32 [5, 1, 3]) from row_new w #[.int .u32 5, .int .u32 1, .int .u32 3] 22 3 3 1 rfl (by omega) (by simp [Value.oneCell']))
  have HM := Lib.hid (fun w' (h : Below (w.alloc (.cells #[.int .u32 5, .int .u32 1, .int .u32 3] 22)).heap.size (w.alloc (.cells #[.int .u32 5, .int .u32 1, .int .u32 3] 22)) w') => by have := median_any _ 3 3 [5, 1, 3] w' (HX.out.later h) (by omega); rwa [med_513] at this)
  have HC := Lib.hid (fun w' (t r : Int) (ht : 0 ≤ t ∧ t < 100) (he : checkN t [5, 1, 3] 9 0 = r) (h : Below (w.alloc (.cells #[.int .u32 5, .int .u32 1, .int .u32 3] 22)).heap.size (w.alloc (.cells #[.int .u32 5, .int .u32 1, .int .u32 3] 22)) w') => by have := check_any t _ 3 3 [5, 1, 3] 9 0 w' (HX.out.later h) (by omega) (by omega); rwa [he] at this)
  have hB := Below.refl (w.alloc (.cells #[.int .u32 5, .int .u32 1, .int .u32 3] 22)).heap.size (w.alloc (.cells #[.int .u32 5, .int .u32 1, .int .u32 3] 22))
  have hB0 := below_alloc w (.cells #[.int .u32 5, .int .u32 1, .int .u32 3] 22)
  have E3 := Lib.hid (show checkN 3 [5, 1, 3] 9 0 = 8 by unfold checkN; rw [med_513]; decide)
  have E4 := Lib.hid (show checkN 4 [5, 1, 3] 9 0 = 0 by unfold checkN; rw [med_513]; decide)
  have E10 := Lib.hid (show checkN 10 [5, 1, 3] 9 0 = 8 by unfold checkN; rw [med_513]; decide)
  go_enter Try.func8, Try.ntmps8
  go_wp2_with (first | (go_at_call 12; (with_reducible refine (HM.out _ hB).mono ?_); rintro e w1 ⟨rfl, hb⟩; replace hB := bl_then hB hb; clear hb) | (go_at_call 14; (first | (with_reducible refine (HC.out _ _ _ (by omega) E3.out hB).mono ?_) | (with_reducible refine (HC.out _ _ _ (by omega) E4.out hB).mono ?_) | (with_reducible refine (HC.out _ _ _ (by omega) E10.out hB).mono ?_)); rintro e w1 ⟨rfl, hb⟩; replace hB := bl_then hB hb; clear hb))
  go_ret
  exact ⟨rfl, bl_then hB0 hB⟩
end Go.Proofs.Ytppbnanhippdaaa
