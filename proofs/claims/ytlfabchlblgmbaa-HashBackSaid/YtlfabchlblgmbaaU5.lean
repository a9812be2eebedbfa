/- The statements' beginning: awake; ours and theirs. -/
import Derived.Test.YtlfabchlblgmbaaU4
namespace Go.Proofs.Ytlfabchlblgmbaa
set_option linter.unusedVariables false
set_option linter.unusedSimpArgs false
open Go.RowKit

theorem n4_inj {a0 a1 a2 a3 b0 b1 b2 b3 : Int} (ha0 : 0 ≤ a0 ∧ a0 < WI) (ha1 : 0 ≤ a1 ∧ a1 < WI) (ha2 : 0 ≤ a2 ∧ a2 < WI) (ha3 : 0 ≤ a3 ∧ a3 < WI)
    (hb0 : 0 ≤ b0 ∧ b0 < WI) (hb1 : 0 ≤ b1 ∧ b1 < WI) (hb2 : 0 ≤ b2 ∧ b2 < WI) (hb3 : 0 ≤ b3 ∧ b3 < WI) (h : N4 a0 a1 a2 a3 = N4 b0 b1 b2 b3) : a0 = b0 ∧ a1 = b1 ∧ a2 = b2 ∧ a3 = b3 := by
  unfold N4 WI at *
  omega

/-- == on the numbers' type -/
theorem eq_parts (a0 a1 a2 a3 b0 b1 b2 b3 : Int) (w : World) :
    (binOp .eql 26 (.agg #[.int .u64 a0, .int .u64 a1, .int .u64 a2, .int .u64 a3]) (.agg #[.int .u64 b0, .int .u64 b1, .int .u64 b2, .int .u64 b3])).run Try.prog w = .ok (.bool ([a0, a1, a2, a3] == [b0, b1, b2, b3])) w :=
  eqlArr Try.prog 4 26 22 .u64 Try.underlying26 Try.underlying22 (by kernel_rfl) [a0, a1, a2, a3] [b0, b1, b2, b3] rfl rfl w

theorem hex_255 (w : World) : Calls Try.prog 36 #[.agg #[.int .u64 255, .int .u64 0, .int .u64 0, .int .u64 0]] w fun e w' => e = .returned (.string { data := #[102, 102] }) ∧ Below w.heap.size w w' := by
  have h := hex_parts 255 0 0 0 w (by unfold WI; omega) (by unfold WI; omega) (by unfold WI; omega) (by unfold WI; omega) 2 (by decide +kernel) 8 (by decide +kernel) (by omega)
  have e : strOfNums (bnums (fun j => hexd (nibN 255 0 0 0 (2 - 1 - j))) 2) = { data := #[102, 102] } := by decide +kernel
  rw [e] at h
  exact h

set_option maxHeartbeats 1000000 in
theorem awake_any (w : World) : Calls Try.prog 7 #[] w fun e w' => e = .returned (.bool true) ∧ Below w.heap.size w w' := by
  have hEq := eq_parts 0 0 0 0 0 0 0 0
  have hb : ([(0:Int), 0, 0, 0] == [0, 0, 0, 0]) = true := rfl
  rw [hb] at hEq
  have hN : Hid (WI - 1 - 0 = 18446744073709551615) := show WI - 1 - 0 = 18446744073709551615 from by decide
  have hL : Hid (lenN 5 0 0 0 = 3) := show lenN 5 0 0 0 = 3 from by decide +kernel
  have hz : Hid ((0 : Int) ≤ 0 ∧ (0 : Int) < WI) := show _ ∧ _ from by unfold WI; omega
  have hm : Hid ((0 : Int) ≤ 18446744073709551615 ∧ (18446744073709551615 : Int) < WI) := show _ ∧ _ from by unfold WI; omega
  have h1 : Hid ((0 : Int) ≤ 1 ∧ (1 : Int) < WI) := show _ ∧ _ from by unfold WI; omega
  have h5 : Hid ((0 : Int) ≤ 5 ∧ (5 : Int) < WI) := show _ ∧ _ from by unfold WI; omega
  have hAdd : Hid (∀ w : World, Calls Try.prog 9 #[.agg #[.int .u64 18446744073709551615, .int .u64 18446744073709551615, .int .u64 18446744073709551615, .int .u64 18446744073709551615], .agg #[.int .u64 1, .int .u64 0, .int .u64 0, .int .u64 0]] w fun e w' =>
      e = .returned (.tuple #[.agg #[.int .u64 0, .int .u64 0, .int .u64 0, .int .u64 0], .bool true]) ∧ Below w.heap.size w w') := by
    intro w
    refine (add_parts _ _ _ _ _ _ _ _ w hm.out hm.out hm.out hm.out h1.out hz.out hz.out hz.out).mono ?_
    rintro e w' ⟨s0, s1, s2, s3, c, rfl, hs0, hs1, hs2, hs3, hc, hsum, hbl⟩
    have h : s0 = 0 ∧ s1 = 0 ∧ s2 = 0 ∧ s3 = 0 ∧ c = 1 := by
      unfold N4 WI at *
      omega
    obtain ⟨rfl, rfl, rfl, rfl, rfl⟩ := h
    exact ⟨rfl, hbl⟩
  have hB := Below.refl w.heap.size w
  go_enter Try.func7, Try.ntmps7
  go_wp2_with (first | (go_at_call 20; refine (not_parts 0 0 0 0 _ hz.out hz.out hz.out hz.out).mono ?_; rintro e w1 ⟨rfl, hb⟩; rw [hN.out]; have hB : Below w.heap.size w w1 := (by refine bl_then ?_ hb; (repeat (first | exact hB | refine bl_al ?_ _ | refine Below.setCell ?_ (by first | exact hgs | exact Nat.le_succ_of_le hgs | exact hgs2 | exact hgs3) _ | refine Below.drew ?_ | refine bl_drewN ?_ _)))) | (go_at_call 22; refine (of_any _ _).mono ?_; rintro e w1 ⟨rfl, hb⟩; have hB : Below w.heap.size w w1 := (by refine bl_then ?_ hb; (repeat (first | exact hB | refine bl_al ?_ _ | refine Below.setCell ?_ (by first | exact hgs | exact Nat.le_succ_of_le hgs | exact hgs2 | exact hgs3) _ | refine Below.drew ?_ | refine bl_drewN ?_ _)))) | (go_at_call 9; refine (hAdd.out _).mono ?_; rintro e w1 ⟨rfl, hb⟩; have hB : Below w.heap.size w w1 := (by refine bl_then ?_ hb; (repeat (first | exact hB | refine bl_al ?_ _ | refine Below.setCell ?_ (by first | exact hgs | exact Nat.le_succ_of_le hgs | exact hgs2 | exact hgs3) _ | refine Below.drew ?_ | refine bl_drewN ?_ _)))) | (go_at_call 18; refine (len_parts 5 0 0 0 _ h5.out hz.out hz.out hz.out).mono ?_; rintro e w1 ⟨rfl, hb⟩; rw [hL.out]; have hB : Below w.heap.size w w1 := (by refine bl_then ?_ hb; (repeat (first | exact hB | refine bl_al ?_ _ | refine Below.setCell ?_ (by first | exact hgs | exact Nat.le_succ_of_le hgs | exact hgs2 | exact hgs3) _ | refine Below.drew ?_ | refine bl_drewN ?_ _)))) | (go_at_call 36; refine (hex_255 _).mono ?_; rintro e w1 ⟨rfl, hb⟩; have hB : Below w.heap.size w w1 := (by refine bl_then ?_ hb; (repeat (first | exact hB | refine bl_al ?_ _ | refine Below.setCell ?_ (by first | exact hgs | exact Nat.le_succ_of_le hgs | exact hgs2 | exact hgs3) _ | refine Below.drew ?_ | refine bl_drewN ?_ _)))))
  go_ret
  exact ⟨rfl, by (repeat (first | exact hB | refine bl_al ?_ _ | refine Below.setCell ?_ (by first | exact hgs | exact Nat.le_succ_of_le hgs | exact hgs2 | exact hgs3) _ | refine Below.drew ?_ | refine bl_drewN ?_ _))⟩

set_option maxHeartbeats 1000000 in
theorem ours_any (a0 a1 a2 a3 : Int) (w : World) : Calls Try.prog 8 #[.agg #[.int .u64 a0, .int .u64 a1, .int .u64 a2, .int .u64 a3]] w fun e w' => e = .returned (.agg #[.int .u64 a0, .int .u64 a1, .int .u64 a2, .int .u64 a3]) ∧ Below w.heap.size w w' := by
  go_enter Try.func8, Try.ntmps8
  go_wp2
  exact bodyPost_ret (v := .agg #[.int .u64 a0, .int .u64 a1, .int .u64 a2, .int .u64 a3]) (by simp [results, Try.results8, go_sem]) rfl ⟨rfl, by (repeat (first | exact Below.refl _ _ | refine Below.drew ?_ | refine bl_drewN ?_ _ | (refine Below.alloc ?_ (by first | exact Nat.le_refl _ | (simp; done) | (simp; omega)) _)))⟩
set_option maxHeartbeats 1000000 in
theorem theirs_any (a0 a1 a2 a3 : Int) (w : World) : Calls Try.prog 15 #[.agg #[.int .u64 a0, .int .u64 a1, .int .u64 a2, .int .u64 a3]] w fun e w' => e = .returned (.agg #[.int .u64 a0, .int .u64 a1, .int .u64 a2, .int .u64 a3]) ∧ Below w.heap.size w w' := by
  go_enter Try.func15, Try.ntmps15
  go_wp2
  exact bodyPost_ret (v := .agg #[.int .u64 a0, .int .u64 a1, .int .u64 a2, .int .u64 a3]) (by simp [results, Try.results15, go_sem]) rfl ⟨rfl, by (repeat (first | exact Below.refl _ _ | refine Below.drew ?_ | refine bl_drewN ?_ _ | (refine Below.alloc ?_ (by first | exact Nat.le_refl _ | (simp; done) | (simp; omega)) _)))⟩
end Go.Proofs.Ytlfabchlblgmbaa
