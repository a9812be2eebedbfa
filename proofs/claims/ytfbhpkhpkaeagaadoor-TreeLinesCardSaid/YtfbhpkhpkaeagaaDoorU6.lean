/- Package u256: Len, Hex of 255, the statements' beginning (awake). Merged: U3, U4, U5, U6. -/
import Derived.Test.YtfbhpkhpkaeagaaDoorU1
import Derived.Test.YtfbhpkhpkaeagaaDoorU2
import Derived.Test.YtfbhpkhpkaeagaaDoorBuf
/- Package u256: Len, Hex of 255, the statements' beginning (awake). -/
namespace Go.Proofs.YtfbhpkhpkaeagaaDoor
set_option linter.unusedVariables false
set_option linter.unusedSimpArgs false
open Go.RowKit

def lenN (a0 a1 a2 a3 : Int) : Int := if a3 ≠ 0 then 192 + ((Lib.bitLen a3.toNat : Nat) : Int) else if a2 ≠ 0 then 128 + ((Lib.bitLen a2.toNat : Nat) : Int) else if a1 ≠ 0 then 64 + ((Lib.bitLen a1.toNat : Nat) : Int) else if a0 ≠ 0 then ((Lib.bitLen a0.toNat : Nat) : Int) else 0

theorem bitLen64 (x : Int) (h : 0 ≤ x ∧ x < WI) : (Lib.bitLen x.toNat : Int) ≤ 64 ∧ 0 ≤ (Lib.bitLen x.toNat : Int) := by
  have := Lib.bitLen_le x.toNat 64 (by unfold WI at h; omega) (by unfold WI at h; omega)
  omega

set_option maxRecDepth 100000 in
set_option maxHeartbeats 1000000 in
theorem len_parts (a0 a1 a2 a3 : Int) (w : World) (ha0 : 0 ≤ a0 ∧ a0 < WI) (ha1 : 0 ≤ a1 ∧ a1 < WI) (ha2 : 0 ≤ a2 ∧ a2 < WI) (ha3 : 0 ≤ a3 ∧ a3 < WI) :
    Calls Tryd.prog 36 #[.agg #[.int .u64 a0, .int .u64 a1, .int .u64 a2, .int .u64 a3]] w fun e w' => e = .returned (.int .i64 (lenN a0 a1 a2 a3)) ∧ Below w.heap.size w w' := by
  have l0 := bitLen64 a0 ha0
  have l1 := bitLen64 a1 ha1
  have l2 := bitLen64 a2 ha2
  have l3 := bitLen64 a3 ha3
  have L0 := Lib.hid (fun w => Tryd.bits_Len64 a0 w ha0.1 (by unfold WI at ha0; omega))
  have L1 := Lib.hid (fun w => Tryd.bits_Len64 a1 w ha1.1 (by unfold WI at ha1; omega))
  have L2 := Lib.hid (fun w => Tryd.bits_Len64 a2 w ha2.1 (by unfold WI at ha2; omega))
  have L3 := Lib.hid (fun w => Tryd.bits_Len64 a3 w ha3.1 (by unfold WI at ha3; omega))
  have HG : Hid (lenN a0 a1 a2 a3 = if a3 ≠ 0 then 192 + ((Lib.bitLen a3.toNat : Nat) : Int) else if a2 ≠ 0 then 128 + ((Lib.bitLen a2.toNat : Nat) : Int) else if a1 ≠ 0 then 64 + ((Lib.bitLen a1.toNat : Nat) : Int) else if a0 ≠ 0 then ((Lib.bitLen a0.toNat : Nat) : Int) else 0) := rfl
  clear ha0 ha1 ha2 ha3
  generalize (Lib.bitLen a0.toNat : Int) = b0 at *
  generalize (Lib.bitLen a1.toNat : Int) = b1 at *
  generalize (Lib.bitLen a2.toNat : Int) = b2 at *
  generalize (Lib.bitLen a3.toNat : Int) = b3 at *
  go_enter Tryd.func36, Tryd.ntmps36
  go_wp2
  refine wp_loop_rounds 5 ?_
  rw [rounds_succ]
  go_wp2_with (go_at_call 41; refine (L3.out _).mono ?_; rintro e w' ⟨rfl, rfl⟩)
  · go_ret
    have h : a3 ≠ 0 := by simp_all
    rw [HG.out, if_pos h]
    exact ⟨rfl, by (repeat (first | exact Below.refl _ _ | refine Below.drew ?_ | refine bl_drewN ?_ _ | (refine Below.alloc ?_ (by first | exact Nat.le_refl _ | (simp; done) | (simp; omega)) _)))⟩
  rename_i h3
  replace h3 : ¬ a3 ≠ 0 := by simpa using h3
  replace HG := Lib.hid (HG.out.trans (if_neg h3))
  rw [rounds_succ]
  go_wp2_with (go_at_call 41; refine (L2.out _).mono ?_; rintro e w' ⟨rfl, rfl⟩)
  · go_ret
    have h : a2 ≠ 0 := by simp_all
    rw [HG.out, if_pos h]
    exact ⟨rfl, by (repeat (first | exact Below.refl _ _ | refine Below.drew ?_ | refine bl_drewN ?_ _ | (refine Below.alloc ?_ (by first | exact Nat.le_refl _ | (simp; done) | (simp; omega)) _)))⟩
  rename_i h2
  replace h2 : ¬ a2 ≠ 0 := by simpa using h2
  replace HG := Lib.hid (HG.out.trans (if_neg h2))
  rw [rounds_succ]
  go_wp2_with (go_at_call 41; refine (L1.out _).mono ?_; rintro e w' ⟨rfl, rfl⟩)
  · go_ret
    have h : a1 ≠ 0 := by simp_all
    rw [HG.out, if_pos h]
    exact ⟨rfl, by (repeat (first | exact Below.refl _ _ | refine Below.drew ?_ | refine bl_drewN ?_ _ | (refine Below.alloc ?_ (by first | exact Nat.le_refl _ | (simp; done) | (simp; omega)) _)))⟩
  rename_i h1
  replace h1 : ¬ a1 ≠ 0 := by simpa using h1
  replace HG := Lib.hid (HG.out.trans (if_neg h1))
  rw [rounds_succ]
  go_wp2_with (go_at_call 41; refine (L0.out _).mono ?_; rintro e w' ⟨rfl, rfl⟩)
  · go_ret
    have h : a0 ≠ 0 := by simp_all
    rw [HG.out, if_pos h]
    exact ⟨rfl, by (repeat (first | exact Below.refl _ _ | refine Below.drew ?_ | refine bl_drewN ?_ _ | (refine Below.alloc ?_ (by first | exact Nat.le_refl _ | (simp; done) | (simp; omega)) _)))⟩
  rename_i h0
  replace h0 : ¬ a0 ≠ 0 := by simpa using h0
  replace HG := Lib.hid (HG.out.trans (if_neg h0))
  rw [rounds_succ]
  go_wp2
  go_ret
  rw [HG.out]
  exact ⟨rfl, by (repeat (first | exact Below.refl _ _ | refine Below.drew ?_ | refine bl_drewN ?_ _ | (refine Below.alloc ?_ (by first | exact Nat.le_refl _ | (simp; done) | (simp; omega)) _)))⟩
end Go.Proofs.YtfbhpkhpkaeagaaDoor

/- Package u256: Hex. -/
namespace Go.Proofs.YtfbhpkhpkaeagaaDoor
set_option linter.unusedVariables false
set_option linter.unusedSimpArgs false
open Go.RowKit

def limbN (a0 a1 a2 a3 : Int) (k : Nat) : Int := match k with | 0 => a0 | 1 => a1 | 2 => a2 | _ => a3
/-- the i-th digit of sixteen, the lowest first -/
def nibN (a0 a1 a2 a3 : Int) (i : Nat) : Int := limbN a0 a1 a2 a3 (i / 16) / 2 ^ (i % 16 * 4) % 16
def hexd (d : Int) : Int := if d < 10 then 48 + d else 87 + d
def hexLenN (L : Int) : Int := max ((L + 3) / 4) 1

theorem u64_and15 (x : Int) (h : 0 ≤ x ∧ x < WI) : bits .and .u64 x 15 = x % 16 := by
  obtain ⟨X, rfl⟩ := Int.eq_ofNat_of_zero_le h.1
  have e := u64_and_nat X 15 (by unfold WI at h; omega) (by decide)
  have e2 : X &&& 15 = X % 16 := Nat.and_two_pow_sub_one_eq_mod X 4
  rw [e2] at e
  exact e

theorem eltU8 : Elt Tryd.prog 65 5 (.int .u8 0) 1 1 := ⟨Tryd.underlying65, by kernel_rfl, rfl, by decide, by decide⟩
theorem limb_le {a0 a1 a2 a3 : Int} (h : 0 ≤ a0 ∧ a0 < WI ∧ 0 ≤ a1 ∧ a1 < WI ∧ 0 ≤ a2 ∧ a2 < WI ∧ 0 ≤ a3 ∧ a3 < WI) (k : Nat) : 0 ≤ limbN a0 a1 a2 a3 k ∧ limbN a0 a1 a2 a3 k < WI := by
  obtain ⟨h0, h1, h2, h3, h4, h5, h6, h7⟩ := h
  unfold limbN
  split <;> constructor <;> assumption
theorem div_le {x : Int} (h : 0 ≤ x ∧ x < WI) (k : Nat) : 0 ≤ x / 2 ^ k ∧ x / 2 ^ k < WI := by
  have hp : (0 : Int) < 2 ^ k := Int.pow_pos (by decide)
  exact ⟨Int.ediv_nonneg h.1 (by omega), Int.lt_of_le_of_lt (Int.ediv_le_self _ h.1) h.2⟩
theorem hex_tab16 : ∀ d : Fin 16, ((({ data := #[48, 49, 50, 51, 52, 53, 54, 55, 56, 57, 97, 98, 99, 100, 101, 102] } : ByteArray)[d.val]'(by have := d.isLt; exact this)).toNat : Int) = hexd (d.val : Int) := by decide +kernel
theorem hex_tab (d : Int) (h : 0 ≤ d ∧ d < 16) (h' : d.toNat < ({ data := #[48, 49, 50, 51, 52, 53, 54, 55, 56, 57, 97, 98, 99, 100, 101, 102] } : ByteArray).size) :
    ((({ data := #[48, 49, 50, 51, 52, 53, 54, 55, 56, 57, 97, 98, 99, 100, 101, 102] } : ByteArray)[d.toNat]'h').toNat : Int) = hexd d := by
  have := hex_tab16 ⟨d.toNat, by omega⟩
  simp only [Int.toNat_of_nonneg h.1] at this
  exact this
/-- the relation of Hex's loop -/
def HexRel (w : World) (a0 a1 a2 a3 : Int) (g m cap : Nat) (i : Value) (wr : World) : Prop :=
  ∃ (j : Nat) (f : Nat → Int), j ≤ m ∧ i = .int .i64 j ∧ Own wr w.heap.size 5 g m cap f ∧ (∀ k, k < j → f (m - 1 - k) = hexd (nibN a0 a1 a2 a3 k)) ∧ Below w.heap.size w wr ∧ (∀ k, k < 4 → wr.cell? ⟨w.heap.size, k, none⟩ = some (.int .u64 (limbN a0 a1 a2 a3 k))) ∧ w.heap.size < g

end Go.Proofs.YtfbhpkhpkaeagaaDoor

/- The statements' beginning: awake; ours and theirs. -/
namespace Go.Proofs.YtfbhpkhpkaeagaaDoor
set_option linter.unusedVariables false
set_option linter.unusedSimpArgs false
open Go.RowKit

theorem n4_inj {a0 a1 a2 a3 b0 b1 b2 b3 : Int} (ha0 : 0 ≤ a0 ∧ a0 < WI) (ha1 : 0 ≤ a1 ∧ a1 < WI) (ha2 : 0 ≤ a2 ∧ a2 < WI) (ha3 : 0 ≤ a3 ∧ a3 < WI)
    (hb0 : 0 ≤ b0 ∧ b0 < WI) (hb1 : 0 ≤ b1 ∧ b1 < WI) (hb2 : 0 ≤ b2 ∧ b2 < WI) (hb3 : 0 ≤ b3 ∧ b3 < WI) (h : N4 a0 a1 a2 a3 = N4 b0 b1 b2 b3) : a0 = b0 ∧ a1 = b1 ∧ a2 = b2 ∧ a3 = b3 := by
  unfold N4 WI at *
  omega

/-- == on the numbers' type -/
theorem eq_parts (a0 a1 a2 a3 b0 b1 b2 b3 : Int) (w : World) :
    (binOp .eql 42 (.agg #[.int .u64 a0, .int .u64 a1, .int .u64 a2, .int .u64 a3]) (.agg #[.int .u64 b0, .int .u64 b1, .int .u64 b2, .int .u64 b3])).run Tryd.prog w = .ok (.bool ([a0, a1, a2, a3] == [b0, b1, b2, b3])) w :=
  eqlArr Tryd.prog 4 42 40 .u64 Tryd.underlying42 Tryd.underlying40 (by kernel_rfl) [a0, a1, a2, a3] [b0, b1, b2, b3] rfl rfl w

end Go.Proofs.YtfbhpkhpkaeagaaDoor

/- Numbers of four parts: contracts in bulk. -/
namespace Go.Proofs.YtfbhpkhpkaeagaaDoor
set_option linter.unusedVariables false
set_option linter.unusedSimpArgs false
open Go.RowKit

structure B4 (a0 a1 a2 a3 : Int) : Prop where
  h0 : 0 ≤ a0 ∧ a0 < WI
  h1 : 0 ≤ a1 ∧ a1 < WI
  h2 : 0 ≤ a2 ∧ a2 < WI
  h3 : 0 ≤ a3 ∧ a3 < WI
/-- four parts as a value -/
abbrev U4 (a0 a1 a2 a3 : Int) : Value := .agg #[.int .u64 a0, .int .u64 a1, .int .u64 a2, .int .u64 a3]
def WW : Int := WI * (WI * (WI * WI))

theorem B4.nn {a0 a1 a2 a3 : Int} (h : B4 a0 a1 a2 a3) : 0 ≤ N4 a0 a1 a2 a3 ∧ N4 a0 a1 a2 a3 < WW := by
  obtain ⟨h0, h1, h2, h3⟩ := h
  unfold N4 WW WI at *
  omega
theorem B4.inj {a0 a1 a2 a3 b0 b1 b2 b3 : Int} (ha : B4 a0 a1 a2 a3) (hb : B4 b0 b1 b2 b3) (h : N4 a0 a1 a2 a3 = N4 b0 b1 b2 b3) : a0 = b0 ∧ a1 = b1 ∧ a2 = b2 ∧ a3 = b3 :=
  n4_inj ha.h0 ha.h1 ha.h2 ha.h3 hb.h0 hb.h1 hb.h2 hb.h3 h
/-- every number below 2^256 has parts -/
theorem b4_of (n : Int) (h : 0 ≤ n ∧ n < WW) : ∃ a0 a1 a2 a3, B4 a0 a1 a2 a3 ∧ N4 a0 a1 a2 a3 = n := by
  refine ⟨n % WI, n / WI % WI, n / WI / WI % WI, n / WI / WI / WI, ⟨?_, ?_, ?_, ?_⟩, ?_⟩ <;> simp only [N4, WW, WI] at * <;> omega
theorem b4_zero : B4 0 0 0 0 := by constructor <;> (unfold WI; omega)
theorem n4_zero : N4 0 0 0 0 = 0 := by decide

theorem add_n {a0 a1 a2 a3 b0 b1 b2 b3 s0 s1 s2 s3 : Int} (ha : B4 a0 a1 a2 a3) (hb : B4 b0 b1 b2 b3) (hs : B4 s0 s1 s2 s3) (c : Bool) (h : N4 a0 a1 a2 a3 + N4 b0 b1 b2 b3 = N4 s0 s1 s2 s3 + (if c then WW else 0)) (w : World) :
    Calls Tryd.prog 19 #[U4 a0 a1 a2 a3, U4 b0 b1 b2 b3] w fun e w' => e = .returned (.tuple #[U4 s0 s1 s2 s3, .bool c]) ∧ Below w.heap.size w w' := by
  refine (add_parts a0 a1 a2 a3 b0 b1 b2 b3 w ha.h0 ha.h1 ha.h2 ha.h3 hb.h0 hb.h1 hb.h2 hb.h3).mono ?_
  rintro e w' ⟨t0, t1, t2, t3, d, rfl, h0, h1, h2, h3, hd, hsum, hbl⟩
  have ht : B4 t0 t1 t2 t3 := ⟨h0, h1, h2, h3⟩
  have hsn := hs.nn
  have htn := ht.nn
  have e4 : WI * (WI * (WI * (WI * d))) = WW * d := by unfold WW; simp only [Int.mul_assoc]
  rw [e4] at hsum
  have hdc : N4 t0 t1 t2 t3 = N4 s0 s1 s2 s3 ∧ (d != 0) = c := by
    have : d = 0 ∨ d = 1 := by omega
    unfold WW WI at *
    rcases this with rfl | rfl <;> cases c <;> simp at h <;> simp <;> omega
  obtain ⟨rfl, rfl, rfl, rfl⟩ := ht.inj hs hdc.1
  exact ⟨by rw [hdc.2], hbl⟩
theorem sub_n {a0 a1 a2 a3 b0 b1 b2 b3 s0 s1 s2 s3 : Int} (ha : B4 a0 a1 a2 a3) (hb : B4 b0 b1 b2 b3) (hs : B4 s0 s1 s2 s3) (c : Bool) (h : N4 a0 a1 a2 a3 - N4 b0 b1 b2 b3 = N4 s0 s1 s2 s3 - (if c then WW else 0)) (w : World) :
    Calls Tryd.prog 37 #[U4 a0 a1 a2 a3, U4 b0 b1 b2 b3] w fun e w' => e = .returned (.tuple #[U4 s0 s1 s2 s3, .bool c]) ∧ Below w.heap.size w w' := by
  refine (sub_parts a0 a1 a2 a3 b0 b1 b2 b3 w ha.h0 ha.h1 ha.h2 ha.h3 hb.h0 hb.h1 hb.h2 hb.h3).mono ?_
  rintro e w' ⟨t0, t1, t2, t3, d, rfl, h0, h1, h2, h3, hd, hsum, hbl⟩
  have ht : B4 t0 t1 t2 t3 := ⟨h0, h1, h2, h3⟩
  have hsn := hs.nn
  have htn := ht.nn
  have e4 : WI * (WI * (WI * (WI * d))) = WW * d := by unfold WW; simp only [Int.mul_assoc]
  rw [e4] at hsum
  have hdc : N4 t0 t1 t2 t3 = N4 s0 s1 s2 s3 ∧ (d != 0) = c := by
    have : d = 0 ∨ d = 1 := by omega
    unfold WW WI at *
    rcases this with rfl | rfl <;> cases c <;> simp at h <;> simp <;> omega
  obtain ⟨rfl, rfl, rfl, rfl⟩ := ht.inj hs hdc.1
  exact ⟨by rw [hdc.2], hbl⟩
/-- sum and difference, as parts -/
theorem add_ex {a0 a1 a2 a3 b0 b1 b2 b3 : Int} (ha : B4 a0 a1 a2 a3) (hb : B4 b0 b1 b2 b3) : ∃ s0 s1 s2 s3 c, B4 s0 s1 s2 s3 ∧ N4 a0 a1 a2 a3 + N4 b0 b1 b2 b3 = N4 s0 s1 s2 s3 + (if c = true then WW else 0) ∧ (c = decide (WW ≤ N4 a0 a1 a2 a3 + N4 b0 b1 b2 b3)) := by
  have hna := ha.nn
  have hnb := hb.nn
  by_cases h : WW ≤ N4 a0 a1 a2 a3 + N4 b0 b1 b2 b3
  · obtain ⟨s0, s1, s2, s3, hs, he⟩ := b4_of (N4 a0 a1 a2 a3 + N4 b0 b1 b2 b3 - WW) (by omega)
    exact ⟨s0, s1, s2, s3, true, hs, by simp; omega, by simp [h]⟩
  · obtain ⟨s0, s1, s2, s3, hs, he⟩ := b4_of (N4 a0 a1 a2 a3 + N4 b0 b1 b2 b3) (by omega)
    exact ⟨s0, s1, s2, s3, false, hs, by simp; omega, by simp [h]⟩
theorem sub_ex {a0 a1 a2 a3 b0 b1 b2 b3 : Int} (ha : B4 a0 a1 a2 a3) (hb : B4 b0 b1 b2 b3) : ∃ s0 s1 s2 s3 c, B4 s0 s1 s2 s3 ∧ N4 a0 a1 a2 a3 - N4 b0 b1 b2 b3 = N4 s0 s1 s2 s3 - (if c = true then WW else 0) ∧ (c = decide (N4 a0 a1 a2 a3 < N4 b0 b1 b2 b3)) := by
  have hna := ha.nn
  have hnb := hb.nn
  by_cases h : N4 a0 a1 a2 a3 < N4 b0 b1 b2 b3
  · obtain ⟨s0, s1, s2, s3, hs, he⟩ := b4_of (N4 a0 a1 a2 a3 - N4 b0 b1 b2 b3 + WW) (by omega)
    exact ⟨s0, s1, s2, s3, true, hs, by simp; omega, by simp [h]⟩
  · obtain ⟨s0, s1, s2, s3, hs, he⟩ := b4_of (N4 a0 a1 a2 a3 - N4 b0 b1 b2 b3) (by omega)
    exact ⟨s0, s1, s2, s3, false, hs, by simp; omega, by simp [h]⟩
theorem cmp_n {a0 a1 a2 a3 b0 b1 b2 b3 : Int} (ha : B4 a0 a1 a2 a3) (hb : B4 b0 b1 b2 b3) (w : World) :
    Calls Tryd.prog 21 #[U4 a0 a1 a2 a3, U4 b0 b1 b2 b3] w fun e w' => e = .returned (.int .i64 (cmpN (N4 a0 a1 a2 a3) (N4 b0 b1 b2 b3))) ∧ Below w.heap.size w w' :=
  cmp_parts a0 a1 a2 a3 b0 b1 b2 b3 w ha.h0 ha.h1 ha.h2 ha.h3 hb.h0 hb.h1 hb.h2 hb.h3
theorem b4_not {a0 a1 a2 a3 : Int} (h : B4 a0 a1 a2 a3) : B4 (WI - 1 - a0) (WI - 1 - a1) (WI - 1 - a2) (WI - 1 - a3) ∧ N4 (WI - 1 - a0) (WI - 1 - a1) (WI - 1 - a2) (WI - 1 - a3) = WW - 1 - N4 a0 a1 a2 a3 := by
  obtain ⟨h0, h1, h2, h3⟩ := h
  refine ⟨⟨?_, ?_, ?_, ?_⟩, ?_⟩ <;> simp only [N4, WW, WI] at * <;> omega
theorem not_n {a0 a1 a2 a3 : Int} (ha : B4 a0 a1 a2 a3) (w : World) :
    Calls Tryd.prog 31 #[U4 a0 a1 a2 a3] w fun e w' => e = .returned (U4 (WI - 1 - a0) (WI - 1 - a1) (WI - 1 - a2) (WI - 1 - a3)) ∧ Below w.heap.size w w' :=
  not_parts a0 a1 a2 a3 w ha.h0 ha.h1 ha.h2 ha.h3
theorem len_n {a0 a1 a2 a3 : Int} (ha : B4 a0 a1 a2 a3) (w : World) :
    Calls Tryd.prog 36 #[U4 a0 a1 a2 a3] w fun e w' => e = .returned (.int .i64 (lenN a0 a1 a2 a3)) ∧ Below w.heap.size w w' :=
  len_parts a0 a1 a2 a3 w ha.h0 ha.h1 ha.h2 ha.h3
/-- == of numbers with parts -/
theorem eq_same (a0 a1 a2 a3 : Int) (w : World) : (binOp .eql 42 (U4 a0 a1 a2 a3) (U4 a0 a1 a2 a3)).run Tryd.prog w = .ok (.bool true) w := by
  have := eq_parts a0 a1 a2 a3 a0 a1 a2 a3 w
  rw [show ([a0, a1, a2, a3] == [a0, a1, a2, a3]) = true by simp] at this
  exact this
theorem eq_n {a0 a1 a2 a3 b0 b1 b2 b3 : Int} (ha : B4 a0 a1 a2 a3) (hb : B4 b0 b1 b2 b3) (w : World) :
    (binOp .eql 42 (U4 a0 a1 a2 a3) (U4 b0 b1 b2 b3)).run Tryd.prog w = .ok (.bool (decide (N4 a0 a1 a2 a3 = N4 b0 b1 b2 b3))) w := by
  have := eq_parts a0 a1 a2 a3 b0 b1 b2 b3 w
  rw [show ([a0, a1, a2, a3] == [b0, b1, b2, b3]) = decide (N4 a0 a1 a2 a3 = N4 b0 b1 b2 b3) by
    by_cases h : N4 a0 a1 a2 a3 = N4 b0 b1 b2 b3
    · obtain ⟨rfl, rfl, rfl, rfl⟩ := ha.inj hb h
      simp
    · have : ¬ (a0 = b0 ∧ a1 = b1 ∧ a2 = b2 ∧ a3 = b3) := fun ⟨h0, h1, h2, h3⟩ => h (by rw [h0, h1, h2, h3])
      rw [decide_eq_false h]
      simpa using this] at this
  exact this
end Go.Proofs.YtfbhpkhpkaeagaaDoor
