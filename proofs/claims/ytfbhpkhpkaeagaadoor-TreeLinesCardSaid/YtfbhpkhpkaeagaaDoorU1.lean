/- Package u256: the words (numbers as four parts), the library's Add64, Sub64, and contracts of Of, Add, Sub. -/
import Derived.Test.YtfbhpkhpkaeagaaDoorUnd
import Derived.LoopN
import Derived.Test.YtfbhpkhpkaeagaaDoorShelf
namespace Go.Proofs.YtfbhpkhpkaeagaaDoor
set_option linter.unusedVariables false
set_option linter.unusedSimpArgs false
open Go.RowKit

/-- 2^64, behind a name -/
def WI : Int := 18446744073709551616
theorem WI_eq : WI = 18446744073709551616 := rfl

theorem add64_run (x y c : Int) (hx : 0 ≤ x ∧ x < WI) (hy : 0 ≤ y ∧ y < WI) (hc : 0 ≤ c ∧ c ≤ 1) :
    ∃ s d : Int, (∀ w, (callFunc 27 #[.int .u64 x, .int .u64 y, .int .u64 c]).run Tryd.prog w = .ok (.value (.tuple #[.int .u64 s, .int .u64 d])) w) ∧ (0 ≤ s ∧ s < WI) ∧ (0 ≤ d ∧ d ≤ 1) ∧ x + y + c = s + WI * d := by
  refine ⟨(x + y + c) % WI, (x + y + c) / WI, fun w => ?_, ?_, ?_, ?_⟩
  · rw [run_callFunc_extern (fn := Tryd.f27) (e := add64Entry) (by kernel_rfl) (by kernel_rfl) (by kernel_rfl) (by kernel_rfl) (by kernel_rfl)]
    rw [run_add64 x y c hx.1 hy.1 hc.1 hc.2]
    rfl
  · unfold WI at *; omega
  · unfold WI at *; omega
  · unfold WI at *; omega

def sub64Entry : Array Value → Sem Value := fun args => do
  let (x, y, b) ← Extern.MathBitsCarry.three "Sub64" args
  pure (Extern.MathBitsCarry.pair ((x + Extern.MathBitsCarry.m64 - y - b) % Extern.MathBitsCarry.m64) (if x < y + b then 1 else 0))

theorem sub64_run (x y c : Int) (hx : 0 ≤ x ∧ x < WI) (hy : 0 ≤ y ∧ y < WI) (hc : 0 ≤ c ∧ c ≤ 1) :
    ∃ s d : Int, (∀ w, (callFunc 42 #[.int .u64 x, .int .u64 y, .int .u64 c]).run Tryd.prog w = .ok (.value (.tuple #[.int .u64 s, .int .u64 d])) w) ∧ (0 ≤ s ∧ s < WI) ∧ (0 ≤ d ∧ d ≤ 1) ∧ x - y - c = s - WI * d := by
  obtain ⟨X, rfl⟩ := Int.eq_ofNat_of_zero_le hx.1
  obtain ⟨Y, rfl⟩ := Int.eq_ofNat_of_zero_le hy.1
  obtain ⟨C, rfl⟩ := Int.eq_ofNat_of_zero_le hc.1
  refine ⟨((X + 18446744073709551616 - Y - C) % 18446744073709551616 : Nat), ((if X < Y + C then 1 else 0 : Nat) : Int), fun w => ?_, ?_, ?_, ?_⟩
  · rw [run_callFunc_extern (fn := Tryd.f42) (e := sub64Entry) (by kernel_rfl) (by kernel_rfl) (by kernel_rfl) (by kernel_rfl) (by kernel_rfl)]
    have key : ∀ k : Nat, k ≤ 1 → (sub64Entry #[.int .u64 (X : Int), .int .u64 (Y : Int), .int .u64 (k : Int)]).run Tryd.prog w =
        .ok (Extern.MathBitsCarry.pair ((X + Extern.MathBitsCarry.m64 - Y - k) % Extern.MathBitsCarry.m64) (if X < Y + k then 1 else 0)) w := by
      intro k hk
      have : k = 0 ∨ k = 1 := by omega
      rcases this with rfl | rfl <;> rfl
    rw [key C (by omega)]
    rfl
  · unfold WI at *; omega
  · split <;> omega
  · unfold WI at *; split <;> omega

/-- the number that four parts tell -/
def N4 (a0 a1 a2 a3 : Int) : Int := a0 + WI * (a1 + WI * (a2 + WI * a3))

set_option maxHeartbeats 400000 in
theorem of_any (n : Int) (w : World) :
    Calls Tryd.prog 29 #[.int .u64 n] w fun e w' => e = .returned (.agg #[.int .u64 n, .int .u64 0, .int .u64 0, .int .u64 0]) ∧ Below w.heap.size w w' := by
  go_enter Tryd.func29, Tryd.ntmps29
  go_wp2
  exact bodyPost_ret (v := .agg #[.int .u64 n, .int .u64 0, .int .u64 0, .int .u64 0]) (by simp [results, Tryd.results29, go_sem]) rfl ⟨rfl, (Below.refl _ _).alloc (Nat.le_refl _) _⟩

set_option maxRecDepth 100000 in
set_option maxHeartbeats 1000000 in
theorem add_parts (a0 a1 a2 a3 b0 b1 b2 b3 : Int) (w : World) (ha0 : 0 ≤ a0 ∧ a0 < WI) (ha1 : 0 ≤ a1 ∧ a1 < WI) (ha2 : 0 ≤ a2 ∧ a2 < WI) (ha3 : 0 ≤ a3 ∧ a3 < WI)
    (hb0 : 0 ≤ b0 ∧ b0 < WI) (hb1 : 0 ≤ b1 ∧ b1 < WI) (hb2 : 0 ≤ b2 ∧ b2 < WI) (hb3 : 0 ≤ b3 ∧ b3 < WI) :
    Calls Tryd.prog 19 #[.agg #[.int .u64 a0, .int .u64 a1, .int .u64 a2, .int .u64 a3], .agg #[.int .u64 b0, .int .u64 b1, .int .u64 b2, .int .u64 b3]] w fun e w' =>
      ∃ s0 s1 s2 s3 c : Int, e = .returned (.tuple #[.agg #[.int .u64 s0, .int .u64 s1, .int .u64 s2, .int .u64 s3], .bool (c != 0)]) ∧ (0 ≤ s0 ∧ s0 < WI) ∧ (0 ≤ s1 ∧ s1 < WI) ∧ (0 ≤ s2 ∧ s2 < WI) ∧ (0 ≤ s3 ∧ s3 < WI) ∧ (0 ≤ c ∧ c ≤ 1) ∧
        N4 a0 a1 a2 a3 + N4 b0 b1 b2 b3 = N4 s0 s1 s2 s3 + WI * (WI * (WI * (WI * c))) ∧ Below w.heap.size w w' := by
  obtain ⟨s0, c1, r0, hs0, hc1, e0⟩ := add64_run a0 b0 0 ha0 hb0 (by omega)
  obtain ⟨s1, c2, r1, hs1, hc2, e1⟩ := add64_run a1 b1 c1 ha1 hb1 hc1
  obtain ⟨s2, c3, r2, hs2, hc3, e2⟩ := add64_run a2 b2 c2 ha2 hb2 hc2
  obtain ⟨s3, c4, r3, hs3, hc4, e3⟩ := add64_run a3 b3 c3 ha3 hb3 hc3
  have HE : Hid (N4 a0 a1 a2 a3 + N4 b0 b1 b2 b3 = N4 s0 s1 s2 s3 + WI * (WI * (WI * (WI * c4)))) := by
    show N4 a0 a1 a2 a3 + N4 b0 b1 b2 b3 = N4 s0 s1 s2 s3 + WI * (WI * (WI * (WI * c4)))
    unfold N4 WI at *
    omega
  have HB := Lib.hid (show (0 ≤ s0 ∧ s0 < WI) ∧ (0 ≤ s1 ∧ s1 < WI) ∧ (0 ≤ s2 ∧ s2 < WI) ∧ (0 ≤ s3 ∧ s3 < WI) ∧ (0 ≤ c4 ∧ c4 ≤ 1) from ⟨hs0, hs1, hs2, hs3, hc4⟩)
  clear e0 e1 e2 e3 ha0 ha1 ha2 ha3 hb0 hb1 hb2 hb3 hs0 hs1 hs2 hs3 hc1 hc2 hc3 hc4
  go_enter Tryd.func19, Tryd.ntmps19
  go_wp2
  refine wp_loop_rounds 5 ?_
  rw [rounds_succ]
  go_wp2
  go_region_held3 (fun w' => w'.cell? ⟨w.heap.size, 0, none⟩ = some (.int .u64 a0) ∧ w'.cell? ⟨w.heap.size + 1, 0, none⟩ = some (.int .u64 b0)) (go_keep) (fail)
  go_wp2
  rw [rounds_succ]
  go_wp2
  go_region_held3 (fun w' => w'.cell? ⟨w.heap.size, 1, none⟩ = some (.int .u64 a1) ∧ w'.cell? ⟨w.heap.size + 1, 1, none⟩ = some (.int .u64 b1)) (go_keep) (fail)
  go_wp2
  rw [rounds_succ]
  go_wp2
  go_region_held3 (fun w' => w'.cell? ⟨w.heap.size, 2, none⟩ = some (.int .u64 a2) ∧ w'.cell? ⟨w.heap.size + 1, 2, none⟩ = some (.int .u64 b2)) (go_keep) (fail)
  go_wp2
  rw [rounds_succ]
  go_wp2
  go_region_held3 (fun w' => w'.cell? ⟨w.heap.size, 3, none⟩ = some (.int .u64 a3) ∧ w'.cell? ⟨w.heap.size + 1, 3, none⟩ = some (.int .u64 b3)) (go_keep) (fail)
  go_wp2
  rw [rounds_succ]
  go_wp2
  refine bodyPost_ret (v := .tuple #[.agg #[.int .u64 s0, .int .u64 s1, .int .u64 s2, .int .u64 s3], .bool (c4 != 0)]) (by simp [results, Tryd.results19, go_sem]) rfl ?_
  obtain ⟨h0, h1, h2, h3, h4⟩ := HB.out
  exact ⟨s0, s1, s2, s3, c4, rfl, h0, h1, h2, h3, h4, HE.out, by (repeat (first | exact Below.refl _ _ | refine Below.drew ?_ | refine bl_drewN ?_ _ | (refine Below.alloc ?_ (by first | exact Nat.le_refl _ | (simp; done) | (simp; omega)) _)))⟩
set_option maxRecDepth 100000 in
set_option maxHeartbeats 1000000 in
theorem sub_parts (a0 a1 a2 a3 b0 b1 b2 b3 : Int) (w : World) (ha0 : 0 ≤ a0 ∧ a0 < WI) (ha1 : 0 ≤ a1 ∧ a1 < WI) (ha2 : 0 ≤ a2 ∧ a2 < WI) (ha3 : 0 ≤ a3 ∧ a3 < WI)
    (hb0 : 0 ≤ b0 ∧ b0 < WI) (hb1 : 0 ≤ b1 ∧ b1 < WI) (hb2 : 0 ≤ b2 ∧ b2 < WI) (hb3 : 0 ≤ b3 ∧ b3 < WI) :
    Calls Tryd.prog 37 #[.agg #[.int .u64 a0, .int .u64 a1, .int .u64 a2, .int .u64 a3], .agg #[.int .u64 b0, .int .u64 b1, .int .u64 b2, .int .u64 b3]] w fun e w' =>
      ∃ s0 s1 s2 s3 c : Int, e = .returned (.tuple #[.agg #[.int .u64 s0, .int .u64 s1, .int .u64 s2, .int .u64 s3], .bool (c != 0)]) ∧ (0 ≤ s0 ∧ s0 < WI) ∧ (0 ≤ s1 ∧ s1 < WI) ∧ (0 ≤ s2 ∧ s2 < WI) ∧ (0 ≤ s3 ∧ s3 < WI) ∧ (0 ≤ c ∧ c ≤ 1) ∧
        N4 a0 a1 a2 a3 - N4 b0 b1 b2 b3 = N4 s0 s1 s2 s3 - WI * (WI * (WI * (WI * c))) ∧ Below w.heap.size w w' := by
  obtain ⟨s0, c1, r0, hs0, hc1, e0⟩ := sub64_run a0 b0 0 ha0 hb0 (by omega)
  obtain ⟨s1, c2, r1, hs1, hc2, e1⟩ := sub64_run a1 b1 c1 ha1 hb1 hc1
  obtain ⟨s2, c3, r2, hs2, hc3, e2⟩ := sub64_run a2 b2 c2 ha2 hb2 hc2
  obtain ⟨s3, c4, r3, hs3, hc4, e3⟩ := sub64_run a3 b3 c3 ha3 hb3 hc3
  have HE : Hid (N4 a0 a1 a2 a3 - N4 b0 b1 b2 b3 = N4 s0 s1 s2 s3 - WI * (WI * (WI * (WI * c4)))) := by
    show N4 a0 a1 a2 a3 - N4 b0 b1 b2 b3 = N4 s0 s1 s2 s3 - WI * (WI * (WI * (WI * c4)))
    unfold N4 WI at *
    omega
  have HB := Lib.hid (show (0 ≤ s0 ∧ s0 < WI) ∧ (0 ≤ s1 ∧ s1 < WI) ∧ (0 ≤ s2 ∧ s2 < WI) ∧ (0 ≤ s3 ∧ s3 < WI) ∧ (0 ≤ c4 ∧ c4 ≤ 1) from ⟨hs0, hs1, hs2, hs3, hc4⟩)
  clear e0 e1 e2 e3 ha0 ha1 ha2 ha3 hb0 hb1 hb2 hb3 hs0 hs1 hs2 hs3 hc1 hc2 hc3 hc4
  go_enter Tryd.func37, Tryd.ntmps37
  go_wp2
  refine wp_loop_rounds 5 ?_
  rw [rounds_succ]
  go_wp2
  go_region_held3 (fun w' => w'.cell? ⟨w.heap.size, 0, none⟩ = some (.int .u64 a0) ∧ w'.cell? ⟨w.heap.size + 1, 0, none⟩ = some (.int .u64 b0)) (go_keep) (fail)
  go_wp2
  rw [rounds_succ]
  go_wp2
  go_region_held3 (fun w' => w'.cell? ⟨w.heap.size, 1, none⟩ = some (.int .u64 a1) ∧ w'.cell? ⟨w.heap.size + 1, 1, none⟩ = some (.int .u64 b1)) (go_keep) (fail)
  go_wp2
  rw [rounds_succ]
  go_wp2
  go_region_held3 (fun w' => w'.cell? ⟨w.heap.size, 2, none⟩ = some (.int .u64 a2) ∧ w'.cell? ⟨w.heap.size + 1, 2, none⟩ = some (.int .u64 b2)) (go_keep) (fail)
  go_wp2
  rw [rounds_succ]
  go_wp2
  go_region_held3 (fun w' => w'.cell? ⟨w.heap.size, 3, none⟩ = some (.int .u64 a3) ∧ w'.cell? ⟨w.heap.size + 1, 3, none⟩ = some (.int .u64 b3)) (go_keep) (fail)
  go_wp2
  rw [rounds_succ]
  go_wp2
  refine bodyPost_ret (v := .tuple #[.agg #[.int .u64 s0, .int .u64 s1, .int .u64 s2, .int .u64 s3], .bool (c4 != 0)]) (by simp [results, Tryd.results37, go_sem]) rfl ?_
  obtain ⟨h0, h1, h2, h3, h4⟩ := HB.out
  exact ⟨s0, s1, s2, s3, c4, rfl, h0, h1, h2, h3, h4, HE.out, by (repeat (first | exact Below.refl _ _ | refine Below.drew ?_ | refine bl_drewN ?_ _ | (refine Below.alloc ?_ (by first | exact Nat.le_refl _ | (simp; done) | (simp; omega)) _)))⟩

theorem nat_xor_max (a : Nat) (h : a < 18446744073709551616) : 18446744073709551615 ^^^ a = 18446744073709551615 - a := by
  have h1 : (BitVec.allOnes 64 ^^^ BitVec.ofNat 64 a).toNat = (~~~ BitVec.ofNat 64 a).toNat := by rw [BitVec.xor_comm, BitVec.xor_allOnes]
  rw [BitVec.toNat_xor, BitVec.toNat_allOnes, BitVec.toNat_not, BitVec.toNat_ofNat, Nat.mod_eq_of_lt (by simpa using h)] at h1
  exact h1
theorem xor_max (a : Int) (h : 0 ≤ a ∧ a < WI) : bits .xor .u64 IntKind.u64.max a = WI - 1 - a := by
  unfold WI at *
  obtain ⟨A, rfl⟩ := Int.eq_ofNat_of_zero_le h.1
  have e := u64_xor_nat 18446744073709551615 A (by decide) (by omega)
  rw [nat_xor_max A (by omega)] at e
  have e2 : IntKind.u64.max = ((18446744073709551615 : Nat) : Int) := by decide
  rw [e2, e]
  omega

set_option maxRecDepth 100000 in
set_option maxHeartbeats 1000000 in
theorem not_parts (a0 a1 a2 a3 : Int) (w : World) (ha0 : 0 ≤ a0 ∧ a0 < WI) (ha1 : 0 ≤ a1 ∧ a1 < WI) (ha2 : 0 ≤ a2 ∧ a2 < WI) (ha3 : 0 ≤ a3 ∧ a3 < WI) :
    Calls Tryd.prog 31 #[.agg #[.int .u64 a0, .int .u64 a1, .int .u64 a2, .int .u64 a3]] w fun e w' => e = .returned (.agg #[.int .u64 (WI - 1 - a0), .int .u64 (WI - 1 - a1), .int .u64 (WI - 1 - a2), .int .u64 (WI - 1 - a3)]) ∧ Below w.heap.size w w' := by
  have hsg : IntKind.u64.signed = false := rfl
  have x0 := xor_max a0 ha0
  have x1 := xor_max a1 ha1
  have x2 := xor_max a2 ha2
  have x3 := xor_max a3 ha3
  clear ha0 ha1 ha2 ha3
  generalize WI - 1 - a0 = n0 at *
  generalize WI - 1 - a1 = n1 at *
  generalize WI - 1 - a2 = n2 at *
  generalize WI - 1 - a3 = n3 at *
  go_enter Tryd.func31, Tryd.ntmps31
  go_wp2
  refine wp_loop_rounds 5 ?_
  rw [rounds_succ]
  go_wp2
  rw [rounds_succ]
  go_wp2
  rw [rounds_succ]
  go_wp2
  rw [rounds_succ]
  go_wp2
  rw [rounds_succ]
  go_wp2
  exact bodyPost_ret (v := .agg #[.int .u64 n0, .int .u64 n1, .int .u64 n2, .int .u64 n3]) (by simp [results, Tryd.results31, go_sem]) rfl ⟨rfl, by (repeat (first | exact Below.refl _ _ | refine Below.drew ?_ | refine bl_drewN ?_ _ | (refine Below.alloc ?_ (by first | exact Nat.le_refl _ | (simp; done) | (simp; omega)) _)))⟩

/-- -1, 0, 1 -/
def cmpN (a b : Int) : Int := if a < b then -1 else if b < a then 1 else 0

set_option maxRecDepth 100000 in
set_option maxHeartbeats 1000000 in
theorem cmp_parts (a0 a1 a2 a3 b0 b1 b2 b3 : Int) (w : World) (ha0 : 0 ≤ a0 ∧ a0 < WI) (ha1 : 0 ≤ a1 ∧ a1 < WI) (ha2 : 0 ≤ a2 ∧ a2 < WI) (ha3 : 0 ≤ a3 ∧ a3 < WI)
    (hb0 : 0 ≤ b0 ∧ b0 < WI) (hb1 : 0 ≤ b1 ∧ b1 < WI) (hb2 : 0 ≤ b2 ∧ b2 < WI) (hb3 : 0 ≤ b3 ∧ b3 < WI) :
    Calls Tryd.prog 21 #[.agg #[.int .u64 a0, .int .u64 a1, .int .u64 a2, .int .u64 a3], .agg #[.int .u64 b0, .int .u64 b1, .int .u64 b2, .int .u64 b3]] w fun e w' =>
      e = .returned (.int .i64 (cmpN (N4 a0 a1 a2 a3) (N4 b0 b1 b2 b3))) ∧ Below w.heap.size w w' := by
  have HC : Hid (cmpN (N4 a0 a1 a2 a3) (N4 b0 b1 b2 b3) = if a3 < b3 then -1 else if b3 < a3 then 1 else if a2 < b2 then -1 else if b2 < a2 then 1 else if a1 < b1 then -1 else if b1 < a1 then 1 else if a0 < b0 then -1 else if b0 < a0 then 1 else 0) := by
    show _ = _
    unfold cmpN N4 WI at *
    omega
  go_enter Tryd.func21, Tryd.ntmps21
  go_wp2
  refine wp_loop_rounds 5 ?_
  rw [rounds_succ]
  go_wp2
  go_quiet (fail)
  go_wp2
  · go_ret
    rw [HC.out, if_pos (show a3 < b3 by assumption)]
    exact ⟨rfl, by (repeat (first | exact Below.refl _ _ | refine Below.drew ?_ | refine bl_drewN ?_ _ | (refine Below.alloc ?_ (by first | exact Nat.le_refl _ | (simp; done) | (simp; omega)) _)))⟩
  · go_quiet (fail)
    go_wp2
    · go_ret
      rw [HC.out, if_neg (show ¬ a3 < b3 by omega), if_pos (show b3 < a3 by assumption)]
      exact ⟨rfl, by (repeat (first | exact Below.refl _ _ | refine Below.drew ?_ | refine bl_drewN ?_ _ | (refine Below.alloc ?_ (by first | exact Nat.le_refl _ | (simp; done) | (simp; omega)) _)))⟩
    · rw [rounds_succ]
      go_wp2
      go_quiet (fail)
      go_wp2
      · go_ret
        rw [HC.out, if_neg (show ¬ a3 < b3 by omega), if_neg (show ¬ b3 < a3 by omega), if_pos (show a2 < b2 by assumption)]
        exact ⟨rfl, by (repeat (first | exact Below.refl _ _ | refine Below.drew ?_ | refine bl_drewN ?_ _ | (refine Below.alloc ?_ (by first | exact Nat.le_refl _ | (simp; done) | (simp; omega)) _)))⟩
      · go_quiet (fail)
        go_wp2
        · go_ret
          rw [HC.out, if_neg (show ¬ a3 < b3 by omega), if_neg (show ¬ b3 < a3 by omega), if_neg (show ¬ a2 < b2 by omega), if_pos (show b2 < a2 by assumption)]
          exact ⟨rfl, by (repeat (first | exact Below.refl _ _ | refine Below.drew ?_ | refine bl_drewN ?_ _ | (refine Below.alloc ?_ (by first | exact Nat.le_refl _ | (simp; done) | (simp; omega)) _)))⟩
        · rw [rounds_succ]
          go_wp2
          go_quiet (fail)
          go_wp2
          · go_ret
            rw [HC.out, if_neg (show ¬ a3 < b3 by omega), if_neg (show ¬ b3 < a3 by omega), if_neg (show ¬ a2 < b2 by omega), if_neg (show ¬ b2 < a2 by omega), if_pos (show a1 < b1 by assumption)]
            exact ⟨rfl, by (repeat (first | exact Below.refl _ _ | refine Below.drew ?_ | refine bl_drewN ?_ _ | (refine Below.alloc ?_ (by first | exact Nat.le_refl _ | (simp; done) | (simp; omega)) _)))⟩
          · go_quiet (fail)
            go_wp2
            · go_ret
              rw [HC.out, if_neg (show ¬ a3 < b3 by omega), if_neg (show ¬ b3 < a3 by omega), if_neg (show ¬ a2 < b2 by omega), if_neg (show ¬ b2 < a2 by omega), if_neg (show ¬ a1 < b1 by omega), if_pos (show b1 < a1 by assumption)]
              exact ⟨rfl, by (repeat (first | exact Below.refl _ _ | refine Below.drew ?_ | refine bl_drewN ?_ _ | (refine Below.alloc ?_ (by first | exact Nat.le_refl _ | (simp; done) | (simp; omega)) _)))⟩
            · rw [rounds_succ]
              go_wp2
              go_quiet (fail)
              go_wp2
              · go_ret
                rw [HC.out, if_neg (show ¬ a3 < b3 by omega), if_neg (show ¬ b3 < a3 by omega), if_neg (show ¬ a2 < b2 by omega), if_neg (show ¬ b2 < a2 by omega), if_neg (show ¬ a1 < b1 by omega), if_neg (show ¬ b1 < a1 by omega), if_pos (show a0 < b0 by assumption)]
                exact ⟨rfl, by (repeat (first | exact Below.refl _ _ | refine Below.drew ?_ | refine bl_drewN ?_ _ | (refine Below.alloc ?_ (by first | exact Nat.le_refl _ | (simp; done) | (simp; omega)) _)))⟩
              · go_quiet (fail)
                go_wp2
                · go_ret
                  rw [HC.out, if_neg (show ¬ a3 < b3 by omega), if_neg (show ¬ b3 < a3 by omega), if_neg (show ¬ a2 < b2 by omega), if_neg (show ¬ b2 < a2 by omega), if_neg (show ¬ a1 < b1 by omega), if_neg (show ¬ b1 < a1 by omega), if_neg (show ¬ a0 < b0 by omega), if_pos (show b0 < a0 by assumption)]
                  exact ⟨rfl, by (repeat (first | exact Below.refl _ _ | refine Below.drew ?_ | refine bl_drewN ?_ _ | (refine Below.alloc ?_ (by first | exact Nat.le_refl _ | (simp; done) | (simp; omega)) _)))⟩
                · rw [rounds_succ]
                  go_wp2
                  go_ret
                  rw [HC.out, if_neg (show ¬ a3 < b3 by omega), if_neg (show ¬ b3 < a3 by omega), if_neg (show ¬ a2 < b2 by omega), if_neg (show ¬ b2 < a2 by omega), if_neg (show ¬ a1 < b1 by omega), if_neg (show ¬ b1 < a1 by omega), if_neg (show ¬ a0 < b0 by omega), if_neg (show ¬ b0 < a0 by omega)]
                  exact ⟨rfl, by (repeat (first | exact Below.refl _ _ | refine Below.drew ?_ | refine bl_drewN ?_ _ | (refine Below.alloc ?_ (by first | exact Nat.le_refl _ | (simp; done) | (simp; omega)) _)))⟩
end Go.Proofs.YtfbhpkhpkaeagaaDoor
