/- florinlaw02: theirs, Sha2Start; florinref02: Same, Start. (hM) -/
import Derived.Test.YtcaclbblldnnnaaDoorSs1
namespace Go.Proofs.YtcaclbblldnnnaaDoor
set_option linter.unusedVariables false
set_option linter.unusedSimpArgs false
open Go.RowKit

set_option maxRecDepth 100000 in
set_option maxHeartbeats 1000000 in
theorem theirs2_any (s : S8) (ao : Option Addr) (n c : Nat) (N : Int) (w : World) :
    Calls Tryd.prog 25 #[stV s (.slice ao n c) N] w fun e w' => e = .returned (stV s (.slice ao n c) N) ∧ Below w.heap.size w w' := by
  obtain ⟨a0, b0, c0, d0, e0, f0, g0, h0⟩ := s
  have hB1 := bl_al (bl_al (Below.refl w.heap.size w) (.cells #[.int .u32 a0, .int .u32 b0, .int .u32 c0, .int .u32 d0, .int .u32 e0, .int .u32 f0, .int .u32 g0, .int .u32 h0, .slice ao n c, .int .u64 N] 39)) (.cells #[.int .u32 a0, .int .u32 b0, .int .u32 c0, .int .u32 d0, .int .u32 e0, .int .u32 f0, .int .u32 g0, .int .u32 h0, .slice ao n c, .int .u64 N] 47)
  go_enter Tryd.func25, Tryd.ntmps25
  go_wp2
  refine bodyPost_ret (v := stV ⟨a0, b0, c0, d0, e0, f0, g0, h0⟩ (.slice ao n c) N) (by simp [results, Tryd.results25, go_sem]) rfl ⟨rfl, hB1⟩

set_option maxRecDepth 100000 in
set_option maxHeartbeats 1000000 in
theorem same2_any (s : S8) (a1 : Option Addr) (n c1 : Nat) (a2 : Option Addr) (c2 : Nat) (N : Int) (f : Nat → Int) (w : World) (h1 : Row w a1 n c1 1 (bcells f n)) (h2 : Row w a2 n c2 1 (bcells f n)) :
    Calls Tryd.prog 24 #[stV s (.slice a1 n c1) N, stV s (.slice a2 n c2) N] w fun e w' => e = .returned (.bool true) ∧ Below w.heap.size w w' := by
  obtain ⟨a0, b0, c0, d0, e0, f0, g0, h0⟩ := s
  have hB1 := bl_al (bl_al (Below.refl w.heap.size w) (.cells #[.int .u32 a0, .int .u32 b0, .int .u32 c0, .int .u32 d0, .int .u32 e0, .int .u32 f0, .int .u32 g0, .int .u32 h0, .slice a1 n c1, .int .u64 N] 47)) (.cells #[.int .u32 a0, .int .u32 b0, .int .u32 c0, .int .u32 d0, .int .u32 e0, .int .u32 f0, .int .u32 g0, .int .u32 h0, .slice a2 n c2, .int .u64 N] 47)
  have hEq : ∀ x : World, (binOp .eql 37 (arrS ⟨a0, b0, c0, d0, e0, f0, g0, h0⟩) (arrS ⟨a0, b0, c0, d0, e0, f0, g0, h0⟩)).run Tryd.prog x = .ok (.bool true) x := fun x => by
    have := eqlArr Tryd.prog 8 37 26 .u32 Tryd.underlying37 Tryd.underlying26 (by kernel_rfl) [a0, b0, c0, d0, e0, f0, g0, h0] [a0, b0, c0, d0, e0, f0, g0, h0] rfl rfl x
    simp only [beq_self_eq_true] at this
    exact this
  have hcv1 := row_string (P := Tryd.prog) (T := 36) (S := 9) (zs := bnums f n) _ Tryd.underlying36 Tryd.underlying5 Tryd.underlying9 (ao := a1) (n := n) (c := c1) (by rw [← bcells_nums]; exact (h1.later (bl_al (below_alloc w (.cells #[.int .u32 a0, .int .u32 b0, .int .u32 c0, .int .u32 d0, .int .u32 e0, .int .u32 f0, .int .u32 g0, .int .u32 h0, .slice a1 n c1, .int .u64 N] 47)) (.cells #[.int .u32 a0, .int .u32 b0, .int .u32 c0, .int .u32 d0, .int .u32 e0, .int .u32 f0, .int .u32 g0, .int .u32 h0, .slice a2 n c2, .int .u64 N] 47))))
  have hcv2 := row_string (P := Tryd.prog) (T := 36) (S := 9) (zs := bnums f n) _ Tryd.underlying36 Tryd.underlying5 Tryd.underlying9 (ao := a2) (n := n) (c := c2) (by rw [← bcells_nums]; exact (h2.later (bl_al (below_alloc w (.cells #[.int .u32 a0, .int .u32 b0, .int .u32 c0, .int .u32 d0, .int .u32 e0, .int .u32 f0, .int .u32 g0, .int .u32 h0, .slice a1 n c1, .int .u64 N] 47)) (.cells #[.int .u32 a0, .int .u32 b0, .int .u32 c0, .int .u32 d0, .int .u32 e0, .int .u32 f0, .int .u32 g0, .int .u32 h0, .slice a2 n c2, .int .u64 N] 47))))
  obtain ⟨z, hz⟩ : ∃ z, strOfNums (bnums f n) = z := ⟨_, rfl⟩
  rw [hz] at hcv1 hcv2
  clear h1 h2 hz
  go_enter Tryd.func24, Tryd.ntmps24
  go_wp2
  go_ret
  exact ⟨rfl, hB1⟩

end Go.Proofs.YtcaclbblldnnnaaDoor
