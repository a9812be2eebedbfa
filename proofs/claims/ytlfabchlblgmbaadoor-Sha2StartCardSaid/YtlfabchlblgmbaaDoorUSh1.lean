/- Package u256: numbers moved down, and two unlike. -/
import Derived.Test.YtlfabchlblgmbaaDoorUSh0
namespace Go.Proofs.YtlfabchlblgmbaaDoor
set_option linter.unusedVariables false
set_option linter.unusedSimpArgs false
open Go.RowKit

theorem down1 (a0 a1 a2 a3 : Int) (r e : Nat) (he : r + e = 64) (l0 l1 l2 l3 g0 g1 g2 g3 : Int) (b0 : 0 ≤ l0) (c0 : l0 < WI) (e0 : a0 * 2 ^ e = l0 + WI * g0) (e1 : a1 * 2 ^ e = l1 + WI * g1) (e2 : a2 * 2 ^ e = l2 + WI * g2) (e3 : a3 * 2 ^ e = l3 + WI * g3)
    : N4 a0 a1 a2 a3 / 2 ^ r = N4 (l1 + g0) (l2 + g1) (l3 + g2) g3 := by
  rw [down0 a0 a1 a2 a3 r e he l0 l1 l2 l3 g0 g1 g2 g3 b0 c0 e0 e1 e2 e3, Int.add_comm l1, Int.add_comm l2, Int.add_comm l3]
theorem or_zero (y : Int) (hy : 0 ≤ y ∧ y < WI) : bits .or .u64 0 y = y := by
  have h := or_add 0 64 y ⟨hy.1, by have := hy.2; rw [WI_eq] at this; exact this⟩ (by rw [Int.mul_zero]; exact ⟨Int.le_refl 0, by decide⟩) (Nat.le_refl _)
  rw [Int.mul_zero, Int.zero_add] at h
  exact h
theorem neq_n {a0 a1 a2 a3 b0 b1 b2 b3 : Int} (ha : B4 a0 a1 a2 a3) (hb : B4 b0 b1 b2 b3) (w : World) :
    (binOp .neq 52 (U4 a0 a1 a2 a3) (U4 b0 b1 b2 b3)).run Tryd.prog w = .ok (.bool (!decide (N4 a0 a1 a2 a3 = N4 b0 b1 b2 b3))) w := by
  have := neqArr Tryd.prog 4 52 25 .u64 Tryd.underlying52 Tryd.underlying25 (by kernel_rfl) [a0, a1, a2, a3] [b0, b1, b2, b3] rfl rfl w
  rw [show ([a0, a1, a2, a3] == [b0, b1, b2, b3]) = decide (N4 a0 a1 a2 a3 = N4 b0 b1 b2 b3) by
    by_cases h : N4 a0 a1 a2 a3 = N4 b0 b1 b2 b3
    · obtain ⟨rfl, rfl, rfl, rfl⟩ := ha.inj hb h
      simp
    · have : ¬ (a0 = b0 ∧ a1 = b1 ∧ a2 = b2 ∧ a3 = b3) := fun ⟨h0, h1, h2, h3⟩ => h (by rw [h0, h1, h2, h3])
      rw [decide_eq_false h]
      simpa using this] at this
  exact this
end Go.Proofs.YtlfabchlblgmbaaDoor
