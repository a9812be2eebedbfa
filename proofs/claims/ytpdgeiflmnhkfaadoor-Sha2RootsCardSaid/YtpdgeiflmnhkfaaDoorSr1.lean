/- florinlaw02: prime. (hM) -/
import Derived.Test.YtpdgeiflmnhkfaaDoorBase
namespace Go.Proofs.YtpdgeiflmnhkfaaDoor
set_option linter.unusedVariables false
set_option linter.unusedSimpArgs false
open Go.RowKit

def dloop (m : Nat) : Nat → Nat → Bool → Bool
  | 0, _, b => b
  | f + 1, e, b => if e * e ≤ m then dloop m f (e + 1) (b && (m % e != 0)) else b
def isPB (m : Nat) : Bool := dloop m 25 2 true
def ploop (i : Nat) : Nat → Nat → Nat → Nat
  | 0, m, _ => m
  | f + 1, m, k => if ((isPB m && (k == i)) || decide (400 < m)) = true then m else ploop i f (m + 1) (if isPB m = true then k + 1 else k)
/-- the i-th prime number -/
def prF (i : Nat) : Nat := ploop i 400 2 0
def PdRel (m : Nat) (w : World) (is d : Value) (wr : World) : Prop :=
  ∃ (e : Nat) (b : Bool), 2 ≤ e ∧ e ≤ 21 ∧ is = .bool b ∧ d = .int .u64 (e : Int) ∧ dloop m (27 - e) e b = isPB m ∧ w = wr
def PkRel (i : Nat) (w : World) (n k : Value) (wr : World) : Prop :=
  ∃ (m q : Nat), 2 ≤ m ∧ m ≤ 401 ∧ q ≤ m ∧ n = .int .u64 (m : Int) ∧ k = .int .i64 (q : Int) ∧ ploop i (402 - m) m q = prF i ∧ w = wr

set_option maxRecDepth 100000 in
set_option maxHeartbeats 4000000 in
theorem prime_any (i : Nat) (hi : i < 64) (w : World) : Calls Tryd.prog 36 #[.int .i64 (i : Int)] w fun e w' => e = .returned (.int .u64 ((prF i : Nat) : Int)) ∧ w = w' := by
  go_enter Tryd.func36, Tryd.ntmps36
  go_wp2
  go_loopw [3, 4] (fun n k wr => PkRel i w n k wr) (fun n _ _ => 402 - (intOf n).toNat)
  case atStart => exact ⟨2, 0, by omega, by omega, by omega, rfl, rfl, rfl, rfl⟩
  case round =>
    obtain ⟨m, q, hm2, hm4, hqm, rfl, rfl, hpl, hW⟩ := hrel
    subst hW
    rename World => W
    have HPL := Lib.hid hpl
    have HI := Lib.hid hi
    clear hpl hi
    go_wp2
    go_loopw [5, 6] (fun is d wr => PdRel m W is d wr) (fun _ d _ => 27 - (intOf d).toNat)
    case atStart => exact ⟨2, true, by omega, by omega, rfl, rfl, rfl, rfl⟩
    case round =>
      obtain ⟨e, b, he2, he21, rfl, rfl, hdl, hW2⟩ := hrel
      subst hW2
      rename World => W2
      have HDL := Lib.hid hdl
      clear hdl
      obtain ⟨ee, hee⟩ : ∃ ee : Nat, e * e = ee := ⟨_, rfl⟩
      have hle : ee ≤ 441 := by rw [← hee]; exact Nat.le_trans (Nat.mul_le_mul he21 he21) (by omega)
      have hmul : (e : Int) * (e : Int) = (ee : Int) := by rw [← hee]; exact (Int.natCast_mul e e).symm
      have hwr : IntKind.u64.wrap (ee : Int) = (ee : Int) := by rw [IntKind.wrap_u64]; omega
      by_cases hlt : ee ≤ m
      · have hli : (ee : Int) ≤ (m : Int) := by omega
        have he20 : e ≤ 20 := by
          rcases Nat.lt_or_ge e 21 with h | h
          · omega
          · have : 21 * 21 ≤ e * e := Nat.mul_le_mul h h
            omega
        obtain ⟨r, hr⟩ : ∃ r : Nat, m % e = r := ⟨_, rfl⟩
        have hrm : (m : Int).tmod (e : Int) = (r : Int) := by rw [Int.tmod_eq_emod_of_nonneg (by omega), ← hr]; exact (Int.natCast_emod m e).symm
        have he0 : ¬ (e : Int) = 0 := by omega
        have hw1 : IntKind.u64.wrap ((e : Int) + 1) = ((e + 1 : Nat) : Int) := by rw [IntKind.wrap_u64]; omega
        have HD2 : Hid (dloop m (27 - (e + 1)) (e + 1) (b && (r != 0)) = isPB m) := by
          have h := HDL.out
          rw [show 27 - e = 27 - (e + 1) + 1 by omega] at h
          unfold dloop at h
          rw [if_pos (by rw [hee]; exact hlt), hr] at h
          exact h
        have HR := Lib.hid hr
        have HE := Lib.hid hee
        clear hr hee
        cases b with
        | true =>
          go_wp2
          have hbn : ((r : Int) != 0) = (r != 0) := by
            by_cases h : r = 0
            · subst h; rfl
            · have h1 : ((r : Int) != 0) = true := by simp; omega
              have h2 : (r != 0) = true := by simp; omega
              rw [h1, h2]
          refine ⟨⟨e + 1, r != 0, by omega, by omega, by rw [hbn], by first | rfl | go_num, by have h := HD2.out; simpa using h, rfl⟩, by simp [intOf]; omega⟩
        | false =>
          go_wp2
          refine ⟨⟨e + 1, false, by omega, by omega, rfl, by first | rfl | go_num, by have h := HD2.out; simpa using h, rfl⟩, by simp [intOf]; omega⟩
      · have hli : ¬ (ee : Int) ≤ (m : Int) := by omega
        have HB : Hid (b = isPB m) := by
          have h := HDL.out
          rw [show 27 - e = 26 - e + 1 by omega] at h
          unfold dloop at h
          rw [if_neg (by rw [hee]; exact hlt)] at h
          exact h
        have hnx : ¬ (((isPB m && (q == i)) || decide (400 < m)) = true) → ploop i (402 - (m + 1)) (m + 1) (if isPB m = true then q + 1 else q) = prF i := by
          intro hn
          have h := HPL.out
          have h400 : ¬ 400 < m := by
            intro h4
            apply hn
            simp [h4]
          rw [show 402 - m = 402 - (m + 1) + 1 by omega] at h
          unfold ploop at h
          rw [if_neg hn] at h
          exact h
        have hst : (((isPB m && (q == i)) || decide (400 < m)) = true) → prF i = m := by
          intro hn
          have h := HPL.out
          rw [show 402 - m = 401 - m + 1 by omega] at h
          unfold ploop at h
          rw [if_pos hn] at h
          exact h.symm
        rw [← HB.out] at hnx hst
        have hw2 : IntKind.u64.wrap ((m : Int) + 1) = ((m + 1 : Nat) : Int) := by rw [IntKind.wrap_u64]; omega
        have hw3 : IntKind.i64.wrap ((q : Int) + 1) = ((q + 1 : Nat) : Int) := by rw [IntKind.wrap_i64]; omega
        clear HB hee
        by_cases h4 : 400 < m
        · have hres : prF i = m := hst (by simp [h4])
          have h4i : 400 < (m : Int) := by omega
          have HRes := Lib.hid hres
          clear hres hst hnx
          cases b with
          | true =>
            by_cases hqi : q = i
            · have hqb : ((q : Int) == (i : Int)) = true := by simp; omega
              go_wp2
              go_ret
              exact ⟨by rw [HRes.out]; rfl, rfl⟩
            · have hqb : ((q : Int) == (i : Int)) = false := by simp; omega
              go_wp2
              go_ret
              exact ⟨by rw [HRes.out]; rfl, rfl⟩
          | false =>
            go_wp2
            go_ret
            exact ⟨by rw [HRes.out]; rfl, rfl⟩
        · have h4i : ¬ 400 < (m : Int) := by omega
          cases b with
          | true =>
            by_cases hqi : q = i
            · have hres : prF i = m := hst (by simp [hqi])
              have hqb : ((q : Int) == (i : Int)) = true := by simp; omega
              have HRes := Lib.hid hres
              clear hres hst hnx
              go_wp2
              go_ret
              exact ⟨by rw [HRes.out]; rfl, rfl⟩
            · have hn := hnx (by simp [hqi, h4])
              rw [if_pos rfl] at hn
              have hqb : ((q : Int) == (i : Int)) = false := by simp; omega
              have HN := Lib.hid hn
              clear hn hst hnx
              go_wp2
              refine ⟨⟨m + 1, q + 1, by omega, by omega, by omega, by first | rfl | go_num, by first | rfl | go_num, HN.out, rfl⟩, by simp [intOf]; omega⟩
          | false =>
            have hn := hnx (by simp [h4])
            rw [if_neg (by simp)] at hn
            have HN := Lib.hid hn
            clear hn hst hnx
            go_wp2
            refine ⟨⟨m + 1, q, by omega, by omega, by omega, by first | rfl | go_num, rfl, HN.out, rfl⟩, by simp [intOf]; omega⟩
end Go.Proofs.YtpdgeiflmnhkfaaDoor
