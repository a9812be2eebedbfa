/- Package u256: Len, Hex of 255, the statements' beginning (awake). -/
import Derived.Test.YtpdgeiflmnhkfaaDoorU1
import Derived.Test.YtpdgeiflmnhkfaaDoorU2
namespace Go.Proofs.YtpdgeiflmnhkfaaDoor
set_option linter.unusedVariables false
set_option linter.unusedSimpArgs false
open Go.RowKit

def lenN (a0 a1 a2 a3 : Int) : Int := if a3 ≠ 0 then 192 + ((Lib.bitLen a3.toNat : Nat) : Int) else if a2 ≠ 0 then 128 + ((Lib.bitLen a2.toNat : Nat) : Int) else if a1 ≠ 0 then 64 + ((Lib.bitLen a1.toNat : Nat) : Int) else if a0 ≠ 0 then ((Lib.bitLen a0.toNat : Nat) : Int) else 0

theorem bitLen64 (x : Int) (h : 0 ≤ x ∧ x < WI) : (Lib.bitLen x.toNat : Int) ≤ 64 ∧ 0 ≤ (Lib.bitLen x.toNat : Int) := by
  have := Lib.bitLen_le x.toNat 64 (by unfold WI at h; omega) (by unfold WI at h; omega)
  omega

set_option maxRecDepth 100000 in
set_option maxHeartbeats 1000000 in
theorem len_parts (a0 a1 a2 a3 : Int) (w : World) (ha0 : 0 ≤ a0 ∧ a0 < WI) (ha1 : 0 ≤ a1 ∧ a1 < WI) (ha2 : 0 ≤ a2 ∧ a2 < WI) (ha3 : 0 ≤ a3 ∧ a3 < WI) :
    Calls Tryd.prog 113 #[.agg #[.int .u64 a0, .int .u64 a1, .int .u64 a2, .int .u64 a3]] w fun e w' => e = .returned (.int .i64 (lenN a0 a1 a2 a3)) ∧ Below w.heap.size w w' := by
  have l0 := bitLen64 a0 ha0
  have l1 := bitLen64 a1 ha1
  have l2 := bitLen64 a2 ha2
  have l3 := bitLen64 a3 ha3
  have L0 := Lib.hid (fun w => Tryd.bits_Len64 a0 w ha0.1 (by unfold WI at ha0; omega))
  have L1 := Lib.hid (fun w => Tryd.bits_Len64 a1 w ha1.1 (by unfold WI at ha1; omega))
  have L2 := Lib.hid (fun w => Tryd.bits_Len64 a2 w ha2.1 (by unfold WI at ha2; omega))
  have L3 := Lib.hid (fun w => Tryd.bits_Len64 a3 w ha3.1 (by unfold WI at ha3; omega))
  have HG : Hid (lenN a0 a1 a2 a3 = if a3 ≠ 0 then 192 + ((Lib.bitLen a3.toNat : Nat) : Int) else if a2 ≠ 0 then 128 + ((Lib.bitLen a2.toNat : Nat) : Int) else if a1 ≠ 0 then 64 + ((Lib.bitLen a1.toNat : Nat) : Int) else if a0 ≠ 0 then ((Lib.bitLen a0.toNat : Nat) : Int) else 0) := rfl
  clear ha0 ha1 ha2 ha3
  generalize (Lib.bitLen a0.toNat : Int) = b0 at *
  generalize (Lib.bitLen a1.toNat : Int) = b1 at *
  generalize (Lib.bitLen a2.toNat : Int) = b2 at *
  generalize (Lib.bitLen a3.toNat : Int) = b3 at *
  go_enter Tryd.func113, Tryd.ntmps113
  go_wp2
  refine wp_loop_rounds 5 ?_
  rw [rounds_succ]
  go_wp2_with (go_at_call 143; refine (L3.out _).mono ?_; rintro e w' ⟨rfl, rfl⟩)
  · go_ret
    have h : a3 ≠ 0 := by simp_all
    rw [HG.out, if_pos h]
    exact ⟨rfl, by (repeat (first | exact Below.refl _ _ | refine Below.drew ?_ | refine bl_drewN ?_ _ | (refine Below.alloc ?_ (by first | exact Nat.le_refl _ | (simp; done) | (simp; omega)) _)))⟩
  rename_i h3
  replace h3 : ¬ a3 ≠ 0 := by simpa using h3
  replace HG := Lib.hid (HG.out.trans (if_neg h3))
  rw [rounds_succ]
  go_wp2_with (go_at_call 143; refine (L2.out _).mono ?_; rintro e w' ⟨rfl, rfl⟩)
  · go_ret
    have h : a2 ≠ 0 := by simp_all
    rw [HG.out, if_pos h]
    exact ⟨rfl, by (repeat (first | exact Below.refl _ _ | refine Below.drew ?_ | refine bl_drewN ?_ _ | (refine Below.alloc ?_ (by first | exact Nat.le_refl _ | (simp; done) | (simp; omega)) _)))⟩
  rename_i h2
  replace h2 : ¬ a2 ≠ 0 := by simpa using h2
  replace HG := Lib.hid (HG.out.trans (if_neg h2))
  rw [rounds_succ]
  go_wp2_with (go_at_call 143; refine (L1.out _).mono ?_; rintro e w' ⟨rfl, rfl⟩)
  · go_ret
    have h : a1 ≠ 0 := by simp_all
    rw [HG.out, if_pos h]
    exact ⟨rfl, by (repeat (first | exact Below.refl _ _ | refine Below.drew ?_ | refine bl_drewN ?_ _ | (refine Below.alloc ?_ (by first | exact Nat.le_refl _ | (simp; done) | (simp; omega)) _)))⟩
  rename_i h1
  replace h1 : ¬ a1 ≠ 0 := by simpa using h1
  replace HG := Lib.hid (HG.out.trans (if_neg h1))
  rw [rounds_succ]
  go_wp2_with (go_at_call 143; refine (L0.out _).mono ?_; rintro e w' ⟨rfl, rfl⟩)
  · go_ret
    have h : a0 ≠ 0 := by simp_all
    rw [HG.out, if_pos h]
    exact ⟨rfl, by (repeat (first | exact Below.refl _ _ | refine Below.drew ?_ | refine bl_drewN ?_ _ | (refine Below.alloc ?_ (by first | exact Nat.le_refl _ | (simp; done) | (simp; omega)) _)))⟩
  rename_i h0
  replace h0 : ¬ a0 ≠ 0 := by simpa using h0
  replace HG := Lib.hid (HG.out.trans (if_neg h0))
  rw [rounds_succ]
  go_wp2
  go_ret
  rw [HG.out]
  exact ⟨rfl, by (repeat (first | exact Below.refl _ _ | refine Below.drew ?_ | refine bl_drewN ?_ _ | (refine Below.alloc ?_ (by first | exact Nat.le_refl _ | (simp; done) | (simp; omega)) _)))⟩
end Go.Proofs.YtpdgeiflmnhkfaaDoor
