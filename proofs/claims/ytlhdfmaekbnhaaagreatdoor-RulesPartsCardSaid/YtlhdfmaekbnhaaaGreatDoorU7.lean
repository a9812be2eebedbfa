/- Package u256: Mul. -/
import Derived.Test.YtlhdfmaekbnhaaaGreatDoorU6
import Derived.Test.YtlhdfmaekbnhaaaGreatDoorMem
namespace Go.Proofs.YtlhdfmaekbnhaaaGreatDoor
set_option linter.unusedVariables false
set_option linter.unusedSimpArgs false
open Go.RowKit

/-- one part of a product -/
theorem mul_part (x k c : Int) (hx : 0 ≤ x ∧ x < WI) (hk : 0 ≤ k ∧ k < WI) (hc : 0 ≤ c ∧ c < WI) :
    ∃ hi lo s o : Int, Hid (∀ w : World, Calls Tryz.prog 97 #[.int .u64 x, .int .u64 k] w fun e w' => e = .returned (.tuple #[.int .u64 hi, .int .u64 lo]) ∧ w' = w) ∧
      (∀ w, (callFunc 98 #[.int .u64 lo, .int .u64 c, .int .u64 0]).run Tryz.prog w = .ok (.value (.tuple #[.int .u64 s, .int .u64 o])) w) ∧
      (0 ≤ hi ∧ hi + o < WI) ∧ (0 ≤ s ∧ s < WI) ∧ (0 ≤ o ∧ o ≤ 1) ∧ Hid (x * k + c = s + WI * (hi + o)) := by
  have hp0 : 0 ≤ x * k := Int.mul_nonneg hx.1 hk.1
  have hp1 : x * k ≤ (WI - 1) * (WI - 1) := Int.mul_le_mul (by omega) (by omega) hk.1 (by unfold WI; omega)
  have hlo : 0 ≤ x * k % WI ∧ x * k % WI < WI := by unfold WI; omega
  obtain ⟨s, o, hr, hs, ho, he⟩ := add64_run (x * k % WI) c 0 hlo hc (by omega)
  refine ⟨x * k / WI, x * k % WI, s, o, ?_, hr, ?_, hs, ho, ?_⟩
  · intro w
    obtain ⟨X, rfl⟩ := Int.eq_ofNat_of_zero_le hx.1
    obtain ⟨K, rfl⟩ := Int.eq_ofNat_of_zero_le hk.1
    have h := Tryz.bits_Mul64 X K (by unfold WI at hx; omega) (by unfold WI at hk; omega) w
    simp only [Int.natCast_ediv, Int.natCast_emod, Int.natCast_mul] at h
    exact h
  · generalize x * k = p at *
    unfold WI at *
    omega
  · show _ = _
    generalize x * k = p at *
    unfold WI at *
    omega

set_option maxRecDepth 100000 in
set_option maxHeartbeats 1000000 in
theorem mul_parts {a0 a1 a2 a3 : Int} (ha : B4 a0 a1 a2 a3) (k : Int) (hk : 0 ≤ k ∧ k < WI) (w : World) :
    Calls Tryz.prog 72 #[U4 a0 a1 a2 a3, .int .u64 k] w fun e w' =>
      ∃ s0 s1 s2 s3 c : Int, e = .returned (.tuple #[U4 s0 s1 s2 s3, .bool (c != 0)]) ∧ B4 s0 s1 s2 s3 ∧ 0 ≤ c ∧ N4 a0 a1 a2 a3 * k = N4 s0 s1 s2 s3 + WW * c ∧ Below w.heap.size w w' := by
  obtain ⟨h0, l0, s0, o0, M0, r0, b0, d0, q0, e0⟩ := mul_part a0 k 0 ha.h0 hk (by unfold WI; omega)
  obtain ⟨h1, l1, s1, o1, M1, r1, b1, d1, q1, e1⟩ := mul_part a1 k (h0 + o0) ha.h1 hk (by omega)
  obtain ⟨h2, l2, s2, o2, M2, r2, b2, d2, q2, e2⟩ := mul_part a2 k (h1 + o1) ha.h2 hk (by omega)
  obtain ⟨h3, l3, s3, o3, M3, r3, b3, d3, q3, e3⟩ := mul_part a3 k (h2 + o2) ha.h3 hk (by omega)
  have HE : Hid (N4 a0 a1 a2 a3 * k = N4 s0 s1 s2 s3 + WW * (h3 + o3)) := by
    have e0 := e0.out
    have e1 := e1.out
    have e2 := e2.out
    have e3 := e3.out
    show _ = _
    unfold N4
    have x : (a0 + WI * (a1 + WI * (a2 + WI * a3))) * k = a0 * k + WI * (a1 * k + WI * (a2 * k + WI * (a3 * k))) := by
      simp only [Int.add_mul, Int.mul_assoc]
    rw [x]
    generalize a0 * k = p0 at *
    generalize a1 * k = p1 at *
    generalize a2 * k = p2 at *
    generalize a3 * k = p3 at *
    unfold WW WI at *
    omega
  have HS : Hid (B4 s0 s1 s2 s3 ∧ 0 ≤ h3 + o3) := ⟨⟨d0, d1, d2, d3⟩, by omega⟩
  have c0 : 0 ≤ h0 + o0 ∧ h0 + o0 < 18446744073709551616 := by unfold WI at *; omega
  have c1 : 0 ≤ h1 + o1 ∧ h1 + o1 < 18446744073709551616 := by unfold WI at *; omega
  have c2 : 0 ≤ h2 + o2 ∧ h2 + o2 < 18446744073709551616 := by unfold WI at *; omega
  have c3 : 0 ≤ h3 + o3 ∧ h3 + o3 < 18446744073709551616 := by unfold WI at *; omega
  clear e0 e1 e2 e3 hk ha b0 b1 b2 b3 d0 d1 d2 d3 q0 q1 q2 q3
  go_enter Tryz.func72, Tryz.ntmps72
  go_wp2
  refine wp_loop_rounds 5 ?_
  rw [rounds_succ]
  go_wp2_with (go_at_call 97; (with_reducible refine (M0.out _).mono ?_); rintro e w1 ⟨rfl, rfl⟩)
  rw [rounds_succ]
  go_wp2_with (go_at_call 97; (with_reducible refine (M1.out _).mono ?_); rintro e w1 ⟨rfl, rfl⟩)
  rw [rounds_succ]
  go_wp2_with (go_at_call 97; (with_reducible refine (M2.out _).mono ?_); rintro e w1 ⟨rfl, rfl⟩)
  rw [rounds_succ]
  go_wp2_with (go_at_call 97; (with_reducible refine (M3.out _).mono ?_); rintro e w1 ⟨rfl, rfl⟩)
  rw [rounds_succ]
  go_wp2
  refine bodyPost_ret (v := .tuple #[U4 s0 s1 s2 s3, .bool (h3 + o3 != 0)]) (by simp [results, Tryz.results72, go_sem]) rfl ?_
  exact ⟨s0, s1, s2, s3, h3 + o3, rfl, HS.out.1, HS.out.2, HE.out, by (repeat (first | exact Below.refl _ _ | refine Below.drew ?_ | refine bl_drewN ?_ _ | (refine Below.alloc ?_ (by first | exact Nat.le_refl _ | (simp; done) | (simp; omega)) _)))⟩
end Go.Proofs.YtlhdfmaekbnhaaaGreatDoor
