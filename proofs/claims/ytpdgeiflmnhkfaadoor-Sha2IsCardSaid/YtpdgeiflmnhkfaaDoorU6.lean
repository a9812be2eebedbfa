/- Numbers of four parts: contracts in bulk. -/
import Derived.Test.YtpdgeiflmnhkfaaDoorU5
namespace Go.Proofs.YtpdgeiflmnhkfaaDoor
set_option linter.unusedVariables false
set_option linter.unusedSimpArgs false
open Go.RowKit

structure B4 (a0 a1 a2 a3 : Int) : Prop where
  h0 : 0 ≤ a0 ∧ a0 < WI
  h1 : 0 ≤ a1 ∧ a1 < WI
  h2 : 0 ≤ a2 ∧ a2 < WI
  h3 : 0 ≤ a3 ∧ a3 < WI
/-- four parts as a value -/
abbrev U4 (a0 a1 a2 a3 : Int) : Value := .agg #[.int .u64 a0, .int .u64 a1, .int .u64 a2, .int .u64 a3]
def WW : Int := WI * (WI * (WI * WI))

theorem B4.nn {a0 a1 a2 a3 : Int} (h : B4 a0 a1 a2 a3) : 0 ≤ N4 a0 a1 a2 a3 ∧ N4 a0 a1 a2 a3 < WW := by
  obtain ⟨h0, h1, h2, h3⟩ := h
  unfold N4 WW WI at *
  omega
theorem B4.inj {a0 a1 a2 a3 b0 b1 b2 b3 : Int} (ha : B4 a0 a1 a2 a3) (hb : B4 b0 b1 b2 b3) (h : N4 a0 a1 a2 a3 = N4 b0 b1 b2 b3) : a0 = b0 ∧ a1 = b1 ∧ a2 = b2 ∧ a3 = b3 :=
  n4_inj ha.h0 ha.h1 ha.h2 ha.h3 hb.h0 hb.h1 hb.h2 hb.h3 h
/-- every number below 2^256 has parts -/
theorem b4_of (n : Int) (h : 0 ≤ n ∧ n < WW) : ∃ a0 a1 a2 a3, B4 a0 a1 a2 a3 ∧ N4 a0 a1 a2 a3 = n := by
  refine ⟨n % WI, n / WI % WI, n / WI / WI % WI, n / WI / WI / WI, ⟨?_, ?_, ?_, ?_⟩, ?_⟩ <;> simp only [N4, WW, WI] at * <;> omega
theorem b4_zero : B4 0 0 0 0 := by constructor <;> (unfold WI; omega)
theorem n4_zero : N4 0 0 0 0 = 0 := by decide

/-- sum and difference, as parts -/
theorem add_ex {a0 a1 a2 a3 b0 b1 b2 b3 : Int} (ha : B4 a0 a1 a2 a3) (hb : B4 b0 b1 b2 b3) : ∃ s0 s1 s2 s3 c, B4 s0 s1 s2 s3 ∧ N4 a0 a1 a2 a3 + N4 b0 b1 b2 b3 = N4 s0 s1 s2 s3 + (if c = true then WW else 0) ∧ (c = decide (WW ≤ N4 a0 a1 a2 a3 + N4 b0 b1 b2 b3)) := by
  have hna := ha.nn
  have hnb := hb.nn
  by_cases h : WW ≤ N4 a0 a1 a2 a3 + N4 b0 b1 b2 b3
  · obtain ⟨s0, s1, s2, s3, hs, he⟩ := b4_of (N4 a0 a1 a2 a3 + N4 b0 b1 b2 b3 - WW) (by omega)
    exact ⟨s0, s1, s2, s3, true, hs, by simp; omega, by simp [h]⟩
  · obtain ⟨s0, s1, s2, s3, hs, he⟩ := b4_of (N4 a0 a1 a2 a3 + N4 b0 b1 b2 b3) (by omega)
    exact ⟨s0, s1, s2, s3, false, hs, by simp; omega, by simp [h]⟩
theorem sub_ex {a0 a1 a2 a3 b0 b1 b2 b3 : Int} (ha : B4 a0 a1 a2 a3) (hb : B4 b0 b1 b2 b3) : ∃ s0 s1 s2 s3 c, B4 s0 s1 s2 s3 ∧ N4 a0 a1 a2 a3 - N4 b0 b1 b2 b3 = N4 s0 s1 s2 s3 - (if c = true then WW else 0) ∧ (c = decide (N4 a0 a1 a2 a3 < N4 b0 b1 b2 b3)) := by
  have hna := ha.nn
  have hnb := hb.nn
  by_cases h : N4 a0 a1 a2 a3 < N4 b0 b1 b2 b3
  · obtain ⟨s0, s1, s2, s3, hs, he⟩ := b4_of (N4 a0 a1 a2 a3 - N4 b0 b1 b2 b3 + WW) (by omega)
    exact ⟨s0, s1, s2, s3, true, hs, by simp; omega, by simp [h]⟩
  · obtain ⟨s0, s1, s2, s3, hs, he⟩ := b4_of (N4 a0 a1 a2 a3 - N4 b0 b1 b2 b3) (by omega)
    exact ⟨s0, s1, s2, s3, false, hs, by simp; omega, by simp [h]⟩
theorem cmp_n {a0 a1 a2 a3 b0 b1 b2 b3 : Int} (ha : B4 a0 a1 a2 a3) (hb : B4 b0 b1 b2 b3) (w : World) :
    Calls Tryd.prog 40 #[U4 a0 a1 a2 a3, U4 b0 b1 b2 b3] w fun e w' => e = .returned (.int .i64 (cmpN (N4 a0 a1 a2 a3) (N4 b0 b1 b2 b3))) ∧ Below w.heap.size w w' :=
  cmp_parts a0 a1 a2 a3 b0 b1 b2 b3 w ha.h0 ha.h1 ha.h2 ha.h3 hb.h0 hb.h1 hb.h2 hb.h3
theorem b4_not {a0 a1 a2 a3 : Int} (h : B4 a0 a1 a2 a3) : B4 (WI - 1 - a0) (WI - 1 - a1) (WI - 1 - a2) (WI - 1 - a3) ∧ N4 (WI - 1 - a0) (WI - 1 - a1) (WI - 1 - a2) (WI - 1 - a3) = WW - 1 - N4 a0 a1 a2 a3 := by
  obtain ⟨h0, h1, h2, h3⟩ := h
  refine ⟨⟨?_, ?_, ?_, ?_⟩, ?_⟩ <;> simp only [N4, WW, WI] at * <;> omega
theorem len_n {a0 a1 a2 a3 : Int} (ha : B4 a0 a1 a2 a3) (w : World) :
    Calls Tryd.prog 113 #[U4 a0 a1 a2 a3] w fun e w' => e = .returned (.int .i64 (lenN a0 a1 a2 a3)) ∧ Below w.heap.size w w' :=
  len_parts a0 a1 a2 a3 w ha.h0 ha.h1 ha.h2 ha.h3
/-- == of numbers with parts -/
theorem eq_same (a0 a1 a2 a3 : Int) (w : World) : (binOp .eql 49 (U4 a0 a1 a2 a3) (U4 a0 a1 a2 a3)).run Tryd.prog w = .ok (.bool true) w := by
  have := eq_parts a0 a1 a2 a3 a0 a1 a2 a3 w
  rw [show ([a0, a1, a2, a3] == [a0, a1, a2, a3]) = true by simp] at this
  exact this
theorem eq_n {a0 a1 a2 a3 b0 b1 b2 b3 : Int} (ha : B4 a0 a1 a2 a3) (hb : B4 b0 b1 b2 b3) (w : World) :
    (binOp .eql 49 (U4 a0 a1 a2 a3) (U4 b0 b1 b2 b3)).run Tryd.prog w = .ok (.bool (decide (N4 a0 a1 a2 a3 = N4 b0 b1 b2 b3))) w := by
  have := eq_parts a0 a1 a2 a3 b0 b1 b2 b3 w
  rw [show ([a0, a1, a2, a3] == [b0, b1, b2, b3]) = decide (N4 a0 a1 a2 a3 = N4 b0 b1 b2 b3) by
    by_cases h : N4 a0 a1 a2 a3 = N4 b0 b1 b2 b3
    · obtain ⟨rfl, rfl, rfl, rfl⟩ := ha.inj hb h
      simp
    · have : ¬ (a0 = b0 ∧ a1 = b1 ∧ a2 = b2 ∧ a3 = b3) := fun ⟨h0, h1, h2, h3⟩ => h (by rw [h0, h1, h2, h3])
      rw [decide_eq_false h]
      simpa using this] at this
  exact this
end Go.Proofs.YtpdgeiflmnhkfaaDoor
