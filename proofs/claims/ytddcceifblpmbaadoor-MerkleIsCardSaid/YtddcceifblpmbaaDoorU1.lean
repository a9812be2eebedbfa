/- Package u256: the words (numbers as four parts), the library's Add64, Sub64, and contracts of Of, Add, Sub. -/
import Derived.Test.YtddcceifblpmbaaDoorUnd
import Derived.LoopN
import Derived.Test.YtddcceifblpmbaaDoorShelf
namespace Go.Proofs.YtddcceifblpmbaaDoor
set_option linter.unusedVariables false
set_option linter.unusedSimpArgs false
open Go.RowKit

/-- 2^64, behind a name -/
def WI : Int := 18446744073709551616
theorem WI_eq : WI = 18446744073709551616 := rfl

def sub64Entry : Array Value → Sem Value := fun args => do
  let (x, y, b) ← Extern.MathBitsCarry.three "Sub64" args
  pure (Extern.MathBitsCarry.pair ((x + Extern.MathBitsCarry.m64 - y - b) % Extern.MathBitsCarry.m64) (if x < y + b then 1 else 0))

/-- the number that four parts tell -/
def N4 (a0 a1 a2 a3 : Int) : Int := a0 + WI * (a1 + WI * (a2 + WI * a3))

set_option maxHeartbeats 400000 in
theorem of_any (n : Int) (w : World) :
    Calls Tryd.prog 58 #[.int .u64 n] w fun e w' => e = .returned (.agg #[.int .u64 n, .int .u64 0, .int .u64 0, .int .u64 0]) ∧ Below w.heap.size w w' := by
  go_enter Tryd.func58, Tryd.ntmps58
  go_wp2
  exact bodyPost_ret (v := .agg #[.int .u64 n, .int .u64 0, .int .u64 0, .int .u64 0]) (by simp [results, Tryd.results58, go_sem]) rfl ⟨rfl, (Below.refl _ _).alloc (Nat.le_refl _) _⟩

theorem nat_xor_max (a : Nat) (h : a < 18446744073709551616) : 18446744073709551615 ^^^ a = 18446744073709551615 - a := by
  have h1 : (BitVec.allOnes 64 ^^^ BitVec.ofNat 64 a).toNat = (~~~ BitVec.ofNat 64 a).toNat := by rw [BitVec.xor_comm, BitVec.xor_allOnes]
  rw [BitVec.toNat_xor, BitVec.toNat_allOnes, BitVec.toNat_not, BitVec.toNat_ofNat, Nat.mod_eq_of_lt (by simpa using h)] at h1
  exact h1
theorem xor_max (a : Int) (h : 0 ≤ a ∧ a < WI) : bits .xor .u64 IntKind.u64.max a = WI - 1 - a := by
  unfold WI at *
  obtain ⟨A, rfl⟩ := Int.eq_ofNat_of_zero_le h.1
  have e := u64_xor_nat 18446744073709551615 A (by decide) (by omega)
  rw [nat_xor_max A (by omega)] at e
  have e2 : IntKind.u64.max = ((18446744073709551615 : Nat) : Int) := by decide
  rw [e2, e]
  omega

/-- -1, 0, 1 -/
def cmpN (a b : Int) : Int := if a < b then -1 else if b < a then 1 else 0

set_option maxRecDepth 100000 in
set_option maxHeartbeats 1000000 in
theorem cmp_parts (a0 a1 a2 a3 b0 b1 b2 b3 : Int) (w : World) (ha0 : 0 ≤ a0 ∧ a0 < WI) (ha1 : 0 ≤ a1 ∧ a1 < WI) (ha2 : 0 ≤ a2 ∧ a2 < WI) (ha3 : 0 ≤ a3 ∧ a3 < WI)
    (hb0 : 0 ≤ b0 ∧ b0 < WI) (hb1 : 0 ≤ b1 ∧ b1 < WI) (hb2 : 0 ≤ b2 ∧ b2 < WI) (hb3 : 0 ≤ b3 ∧ b3 < WI) :
    Calls Tryd.prog 66 #[.agg #[.int .u64 a0, .int .u64 a1, .int .u64 a2, .int .u64 a3], .agg #[.int .u64 b0, .int .u64 b1, .int .u64 b2, .int .u64 b3]] w fun e w' =>
      e = .returned (.int .i64 (cmpN (N4 a0 a1 a2 a3) (N4 b0 b1 b2 b3))) ∧ Below w.heap.size w w' := by
  have HC : Hid (cmpN (N4 a0 a1 a2 a3) (N4 b0 b1 b2 b3) = if a3 < b3 then -1 else if b3 < a3 then 1 else if a2 < b2 then -1 else if b2 < a2 then 1 else if a1 < b1 then -1 else if b1 < a1 then 1 else if a0 < b0 then -1 else if b0 < a0 then 1 else 0) := by
    show _ = _
    unfold cmpN N4 WI at *
    omega
  go_enter Tryd.func66, Tryd.ntmps66
  go_wp2
  refine wp_loop_rounds 5 ?_
  rw [rounds_succ]
  go_wp2
  go_quiet (fail)
  go_wp2
  · go_ret
    rw [HC.out, if_pos (show a3 < b3 by assumption)]
    exact ⟨rfl, by (repeat (first | exact Below.refl _ _ | refine Below.drew ?_ | refine bl_drewN ?_ _ | (refine Below.alloc ?_ (by first | exact Nat.le_refl _ | (simp; done) | (simp; omega)) _)))⟩
  · go_quiet (fail)
    go_wp2
    · go_ret
      rw [HC.out, if_neg (show ¬ a3 < b3 by omega), if_pos (show b3 < a3 by assumption)]
      exact ⟨rfl, by (repeat (first | exact Below.refl _ _ | refine Below.drew ?_ | refine bl_drewN ?_ _ | (refine Below.alloc ?_ (by first | exact Nat.le_refl _ | (simp; done) | (simp; omega)) _)))⟩
    · rw [rounds_succ]
      go_wp2
      go_quiet (fail)
      go_wp2
      · go_ret
        rw [HC.out, if_neg (show ¬ a3 < b3 by omega), if_neg (show ¬ b3 < a3 by omega), if_pos (show a2 < b2 by assumption)]
        exact ⟨rfl, by (repeat (first | exact Below.refl _ _ | refine Below.drew ?_ | refine bl_drewN ?_ _ | (refine Below.alloc ?_ (by first | exact Nat.le_refl _ | (simp; done) | (simp; omega)) _)))⟩
      · go_quiet (fail)
        go_wp2
        · go_ret
          rw [HC.out, if_neg (show ¬ a3 < b3 by omega), if_neg (show ¬ b3 < a3 by omega), if_neg (show ¬ a2 < b2 by omega), if_pos (show b2 < a2 by assumption)]
          exact ⟨rfl, by (repeat (first | exact Below.refl _ _ | refine Below.drew ?_ | refine bl_drewN ?_ _ | (refine Below.alloc ?_ (by first | exact Nat.le_refl _ | (simp; done) | (simp; omega)) _)))⟩
        · rw [rounds_succ]
          go_wp2
          go_quiet (fail)
          go_wp2
          · go_ret
            rw [HC.out, if_neg (show ¬ a3 < b3 by omega), if_neg (show ¬ b3 < a3 by omega), if_neg (show ¬ a2 < b2 by omega), if_neg (show ¬ b2 < a2 by omega), if_pos (show a1 < b1 by assumption)]
            exact ⟨rfl, by (repeat (first | exact Below.refl _ _ | refine Below.drew ?_ | refine bl_drewN ?_ _ | (refine Below.alloc ?_ (by first | exact Nat.le_refl _ | (simp; done) | (simp; omega)) _)))⟩
          · go_quiet (fail)
            go_wp2
            · go_ret
              rw [HC.out, if_neg (show ¬ a3 < b3 by omega), if_neg (show ¬ b3 < a3 by omega), if_neg (show ¬ a2 < b2 by omega), if_neg (show ¬ b2 < a2 by omega), if_neg (show ¬ a1 < b1 by omega), if_pos (show b1 < a1 by assumption)]
              exact ⟨rfl, by (repeat (first | exact Below.refl _ _ | refine Below.drew ?_ | refine bl_drewN ?_ _ | (refine Below.alloc ?_ (by first | exact Nat.le_refl _ | (simp; done) | (simp; omega)) _)))⟩
            · rw [rounds_succ]
              go_wp2
              go_quiet (fail)
              go_wp2
              · go_ret
                rw [HC.out, if_neg (show ¬ a3 < b3 by omega), if_neg (show ¬ b3 < a3 by omega), if_neg (show ¬ a2 < b2 by omega), if_neg (show ¬ b2 < a2 by omega), if_neg (show ¬ a1 < b1 by omega), if_neg (show ¬ b1 < a1 by omega), if_pos (show a0 < b0 by assumption)]
                exact ⟨rfl, by (repeat (first | exact Below.refl _ _ | refine Below.drew ?_ | refine bl_drewN ?_ _ | (refine Below.alloc ?_ (by first | exact Nat.le_refl _ | (simp; done) | (simp; omega)) _)))⟩
              · go_quiet (fail)
                go_wp2
                · go_ret
                  rw [HC.out, if_neg (show ¬ a3 < b3 by omega), if_neg (show ¬ b3 < a3 by omega), if_neg (show ¬ a2 < b2 by omega), if_neg (show ¬ b2 < a2 by omega), if_neg (show ¬ a1 < b1 by omega), if_neg (show ¬ b1 < a1 by omega), if_neg (show ¬ a0 < b0 by omega), if_pos (show b0 < a0 by assumption)]
                  exact ⟨rfl, by (repeat (first | exact Below.refl _ _ | refine Below.drew ?_ | refine bl_drewN ?_ _ | (refine Below.alloc ?_ (by first | exact Nat.le_refl _ | (simp; done) | (simp; omega)) _)))⟩
                · rw [rounds_succ]
                  go_wp2
                  go_ret
                  rw [HC.out, if_neg (show ¬ a3 < b3 by omega), if_neg (show ¬ b3 < a3 by omega), if_neg (show ¬ a2 < b2 by omega), if_neg (show ¬ b2 < a2 by omega), if_neg (show ¬ a1 < b1 by omega), if_neg (show ¬ b1 < a1 by omega), if_neg (show ¬ a0 < b0 by omega), if_neg (show ¬ b0 < a0 by omega)]
                  exact ⟨rfl, by (repeat (first | exact Below.refl _ _ | refine Below.drew ?_ | refine bl_drewN ?_ _ | (refine Below.alloc ?_ (by first | exact Nat.le_refl _ | (simp; done) | (simp; omega)) _)))⟩
end Go.Proofs.YtddcceifblpmbaaDoor
