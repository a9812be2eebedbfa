/- Package target: Shrink (made by gen_tg.py). (hM) -/
import Derived.Test.YtkjlnloionbdbaaTg1
namespace Go.Proofs.Ytkjlnloionbdbaa
set_option linter.unusedVariables false
set_option linter.unusedSimpArgs false
open Go.RowKit

/-- the upper three bytes -/
def upV (A : Int) (s : Nat) : Int := A * 2 ^ (8 * (3 - (s : Int))).toNat / 2 ^ (8 * ((s : Int) - 3)).toNat
/-- a target's bits, from the number and its length in digits of two -/
def shrV (A : Int) (L : Nat) : Int := if upV A ((L + 7) / 8) / 8388608 % 2 = 1 then (((L + 7) / 8 : Nat) + 1) * 16777216 + upV A ((L + 7) / 8) / 256 else ((L + 7) / 8 : Nat) * 16777216 + upV A ((L + 7) / 8)

theorem up_small (A : Int) (L : Nat) (h0 : 0 ≤ A) (h1 : A < 2 ^ L) : 0 ≤ upV A ((L + 7) / 8) ∧ upV A ((L + 7) / 8) < 16777216 := by
  obtain ⟨s, hs⟩ : ∃ s, (L + 7) / 8 = s := ⟨_, rfl⟩
  rw [hs]
  unfold upV
  have hA : A < 2 ^ (8 * s) := Int.lt_of_lt_of_le h1 (pow2_le (by omega))
  refine ⟨Int.ediv_nonneg (Int.mul_nonneg h0 (Int.le_of_lt (two_pow_pos _))) (Int.le_of_lt (two_pow_pos _)), ?_⟩
  rw [Int.ediv_lt_iff_lt_mul (two_pow_pos _), show (16777216 : Int) = 2 ^ 24 by decide, ← Int.pow_add]
  have h2 := Int.mul_lt_mul_of_pos_right hA (two_pow_pos (8 * (3 - (s : Int))).toNat)
  rw [← Int.pow_add] at h2
  refine Int.lt_of_lt_of_le h2 (pow2_le (by omega))
theorem or32 (s m : Int) (hs : 0 ≤ s ∧ s < 256) (hm : 0 ≤ m ∧ m < 16777216) : bits .or .u32 (s * 16777216) m = s * 16777216 + m := by
  obtain ⟨S, rfl⟩ := Int.eq_ofNat_of_zero_le hs.1
  obtain ⟨M, rfl⟩ := Int.eq_ofNat_of_zero_le hm.1
  have e : (S : Int) * 16777216 = ((S * 16777216 : Nat) : Int) := by simp
  rw [e, u32_or_nat (S * 16777216) M (by omega) (by omega), nat_join 24 _ _ (by omega) (by omega)]
  simp

set_option maxRecDepth 100000 in
set_option maxHeartbeats 2000000 in
theorem shrink_any {a0 a1 a2 a3 : Int} (ha : B4 a0 a1 a2 a3) (L : Nat) (hL : lenN a0 a1 a2 a3 = (L : Int)) (w : World) :
    Calls Try.prog 32 #[U4 a0 a1 a2 a3] w fun e w' => e = .returned (.int .u32 (shrV (N4 a0 a1 a2 a3) L)) ∧ Below w.heap.size w w' := by
  obtain ⟨L', hL', hL1, hL2, hL3⟩ := len_holds ha
  have hLL : L' = L := by omega
  subst hLL
  have HLen := Lib.hid (fun w => hL ▸ len_n ha w)
  obtain ⟨sz, hsz⟩ : ∃ sz, (L' + 7) / 8 = sz := ⟨_, rfl⟩
  have hna := ha.nn
  obtain ⟨hu0, hu1⟩ := up_small _ _ hna.1 hL2
  obtain ⟨u1, e1⟩ : ∃ u, 8 * (3 - (sz : Int)) = u := ⟨_, rfl⟩
  obtain ⟨u2, e2⟩ : ∃ u, 8 * ((sz : Int) - 3) = u := ⟨_, rfl⟩
  have hA : N4 a0 a1 a2 a3 < 2 ^ (8 * sz) := Int.lt_of_lt_of_le hL2 (pow2_le (by omega))
  have hno : N4 a0 a1 a2 a3 * 2 ^ u1.toNat < WW := by
    have h2 := Int.mul_lt_mul_of_pos_right hA (two_pow_pos u1.toNat)
    rw [← Int.pow_add] at h2
    rw [ww_pow]
    exact Int.lt_of_lt_of_le h2 (pow2_le (by omega))
  have hn0 : 0 ≤ N4 a0 a1 a2 a3 * 2 ^ u1.toNat := Int.mul_nonneg hna.1 (Int.le_of_lt (two_pow_pos _))
  obtain ⟨s0, s1, s2, s3, hs, hsn⟩ := b4_of _ ⟨hn0, hno⟩
  obtain ⟨v0, v1, v2, v3, hv, hvn⟩ := shr_ex hs u2.toNat
  have hup : N4 v0 v1 v2 v3 = upV (N4 a0 a1 a2 a3) sz := by rw [hvn, hsn]; unfold upV; rw [e1, e2]
  rw [hsz] at hu0 hu1
  obtain ⟨M, hM0⟩ : ∃ M, upV (N4 a0 a1 a2 a3) sz = M := ⟨_, rfl⟩
  have hres : shrV (N4 a0 a1 a2 a3) L' = if M / 8388608 % 2 = 1 then ((sz : Int) + 1) * 16777216 + M / 256 else (sz : Int) * 16777216 + M := by
    unfold shrV
    rw [hsz, hM0]
  rw [hres]
  rw [hM0] at hu0 hu1 hup
  have hv0 : v0 = M := by
    have h0 := hv.h0; have h1 := hv.h1; have h2 := hv.h2; have h3 := hv.h3
    unfold N4 WI at *
    omega
  subst hv0
  have HShl := Lib.hid (fun w => shl_n ha hs u1 (by rw [hsn]; exact (Int.emod_eq_of_lt hn0 hno).symm) false (decide_eq_false (by omega)) w)
  have HShr := Lib.hid (fun w => shr_n hs hv u2 hvn w)
  have hw1 : IntKind.i64.wrap ((L' : Int) + 7) = (L' : Int) + 7 := by rw [IntKind.wrap_i64]; omega
  have hw2 : ((L' : Int) + 7).tdiv 8 = (sz : Int) := by rw [Int.tdiv_eq_ediv_of_nonneg (by omega)]; omega
  have hw3 : IntKind.i64.wrap (sz : Int) = (sz : Int) := by rw [IntKind.wrap_i64]; omega
  have hw4 : IntKind.i64.wrap (3 - (sz : Int)) = 3 - (sz : Int) := by rw [IntKind.wrap_i64]; omega
  have hw5 : IntKind.i64.wrap ((sz : Int) - 3) = (sz : Int) - 3 := by rw [IntKind.wrap_i64]; omega
  have hw6 : IntKind.i64.wrap u1 = u1 := by rw [IntKind.wrap_i64]; omega
  have hw7 : IntKind.i64.wrap u2 = u2 := by rw [IntKind.wrap_i64]; omega
  have hw8 : IntKind.u32.wrap v0 = v0 := by rw [IntKind.wrap_u32']; omega
  have hw9 : IntKind.i64.wrap ((sz : Int) + 1) = (sz : Int) + 1 := by rw [IntKind.wrap_i64]; omega
  have hx1 : IntKind.u32.wrap (sz : Int) = (sz : Int) := by rw [IntKind.wrap_u32']; omega
  have hx2 : IntKind.u32.wrap ((sz : Int) + 1) = (sz : Int) + 1 := by rw [IntKind.wrap_u32']; omega
  have hx3 : IntKind.u32.wrap ((sz : Int) * 16777216) = (sz : Int) * 16777216 := by rw [IntKind.wrap_u32']; omega
  have hx4 : IntKind.u32.wrap (((sz : Int) + 1) * 16777216) = ((sz : Int) + 1) * 16777216 := by rw [IntKind.wrap_u32']; omega
  have hsg := sign_bit v0 ⟨hu0, by omega⟩
  have ho1 := or32 (sz : Int) v0 (by omega) ⟨hu0, hu1⟩
  have ho2 := or32 ((sz : Int) + 1) (v0 / 256) (by omega) (by omega)
  have hB := Below.refl w.heap.size w
  have hM := Lib.hid (mem_nil w)
  have hF : True := trivial
  have hb01 : v0 / 8388608 % 2 = 1 ∨ v0 / 8388608 % 2 = 0 := by omega
  clear ha hna hA hno hn0 hs hsn hv hvn hup hM0 hres hL hL2 hL3 hsz
  have hif : ∀ (x : Int) (p q : Int), (x = 1 → (if x = 1 then p else q) = p) ∧ (x = 0 → (if x = 1 then p else q) = q) := fun x p q => ⟨fun h => if_pos h, fun h => if_neg (by omega)⟩
  rcases hb01 with h | h
  all_goals
    rw [h] at hsg
    first | rw [(hif _ _ _).1 h] | rw [(hif _ _ _).2 h]
    clear h hif
    go_enter Try.func32, Try.ntmps32
    go_wp2_with (first | (go_at_call 29; (with_reducible refine (HLen.out _).mono ?_); rintro e w1 ⟨rfl, hb⟩; have hB : Below w.heap.size w w1 := (by refine bl_then ?_ hb; (repeat (first | exact hB | refine bl_al ?_ _ | refine Below.setCell ?_ (by first | exact hgs | exact Nat.le_succ_of_le hgs | exact hgs2 | exact hgs3) _ | refine Below.drew ?_ | refine bl_drewN ?_ _))); (first | with_reducible have hM2 := Mem.later hb (hM.out) | with_reducible have hM2 := Mem.later hb (Mem.al (hM.out) _ _) | with_reducible have hM2 := Mem.later hb (Mem.al (Mem.al (hM.out) _ _) _ _) | with_reducible have hM2 := Mem.later hb (Mem.al (Mem.al (Mem.al (hM.out) _ _) _ _) _ _) | with_reducible have hM2 := Mem.later hb (Mem.al (Mem.al (Mem.al (Mem.al (hM.out) _ _) _ _) _ _) _ _) | with_reducible have hM2 := Mem.later hb (Mem.drew (hM.out)) | with_reducible have hM2 := Mem.later hb (Mem.drew (Mem.al (hM.out) _ _)) | with_reducible have hM2 := Mem.later hb (Mem.al (Mem.drew (hM.out)) _ _) | with_reducible have hM2 := Mem.later hb (Mem.al (Mem.drew (Mem.al (hM.out) _ _)) _ _) | with_reducible have hM2 := Mem.later hb (Mem.drew (Mem.al (Mem.al (hM.out) _ _) _ _)) | with_reducible have hM2 := Mem.later hb (Mem.al (Mem.al (Mem.drew (hM.out)) _ _) _ _) | with_reducible have hM2 := Mem.later hb (Mem.drew (Mem.drew (hM.out))) | with_reducible have hM2 := Mem.later hb (Mem.drew (Mem.al (Mem.drew (hM.out)) _ _)) | with_reducible have hM2 := Mem.later hb (Mem.drew (Mem.al (Mem.al (Mem.al (hM.out) _ _) _ _) _ _)) | with_reducible have hM2 := Mem.later hb (Mem.al (Mem.al (Mem.drew (Mem.al (hM.out) _ _)) _ _) _ _) | with_reducible have hM2 := Mem.later hb (Mem.drew (Mem.al (Mem.drew (Mem.al (hM.out) _ _)) _ _)) | with_reducible have hM2 := Mem.later hb (Mem.al (Mem.al (Mem.al (Mem.al (Mem.al (hM.out) _ _) _ _) _ _) _ _) _ _) | with_reducible have hM2 := Mem.later hb (Mem.al (Mem.al (Mem.al (Mem.al (Mem.al (Mem.al (hM.out) _ _) _ _) _ _) _ _) _ _) _ _) | with_reducible have hM2 := Mem.later hb (Mem.al (Mem.al (Mem.al (Mem.al (Mem.al (Mem.al (Mem.al (hM.out) _ _) _ _) _ _) _ _) _ _) _ _) _ _) | with_reducible have hM2 := Mem.later hb (Mem.al (Mem.al (Mem.al (Mem.al (Mem.al (Mem.al (Mem.al (Mem.al (hM.out) _ _) _ _) _ _) _ _) _ _) _ _) _ _) _ _)); (try simp only [World.size_alloc, size_drew] at hM2); clear hM; have hM := Lib.hid hM2; clear hF; have hF := hM2; (try simp only [Mem, cellsAt, World.size_alloc, Nat.zero_add, Nat.reduceAdd, and_true] at hF); clear hM2; clear hb) | (go_at_call 27; (with_reducible refine (HShl.out _).mono ?_); rintro e w1 ⟨rfl, hb⟩; have hB : Below w.heap.size w w1 := (by refine bl_then ?_ hb; (repeat (first | exact hB | refine bl_al ?_ _ | refine Below.setCell ?_ (by first | exact hgs | exact Nat.le_succ_of_le hgs | exact hgs2 | exact hgs3) _ | refine Below.drew ?_ | refine bl_drewN ?_ _))); (first | with_reducible have hM2 := Mem.later hb (hM.out) | with_reducible have hM2 := Mem.later hb (Mem.al (hM.out) _ _) | with_reducible have hM2 := Mem.later hb (Mem.al (Mem.al (hM.out) _ _) _ _) | with_reducible have hM2 := Mem.later hb (Mem.al (Mem.al (Mem.al (hM.out) _ _) _ _) _ _) | with_reducible have hM2 := Mem.later hb (Mem.al (Mem.al (Mem.al (Mem.al (hM.out) _ _) _ _) _ _) _ _) | with_reducible have hM2 := Mem.later hb (Mem.drew (hM.out)) | with_reducible have hM2 := Mem.later hb (Mem.drew (Mem.al (hM.out) _ _)) | with_reducible have hM2 := Mem.later hb (Mem.al (Mem.drew (hM.out)) _ _) | with_reducible have hM2 := Mem.later hb (Mem.al (Mem.drew (Mem.al (hM.out) _ _)) _ _) | with_reducible have hM2 := Mem.later hb (Mem.drew (Mem.al (Mem.al (hM.out) _ _) _ _)) | with_reducible have hM2 := Mem.later hb (Mem.al (Mem.al (Mem.drew (hM.out)) _ _) _ _) | with_reducible have hM2 := Mem.later hb (Mem.drew (Mem.drew (hM.out))) | with_reducible have hM2 := Mem.later hb (Mem.drew (Mem.al (Mem.drew (hM.out)) _ _)) | with_reducible have hM2 := Mem.later hb (Mem.drew (Mem.al (Mem.al (Mem.al (hM.out) _ _) _ _) _ _)) | with_reducible have hM2 := Mem.later hb (Mem.al (Mem.al (Mem.drew (Mem.al (hM.out) _ _)) _ _) _ _) | with_reducible have hM2 := Mem.later hb (Mem.drew (Mem.al (Mem.drew (Mem.al (hM.out) _ _)) _ _)) | with_reducible have hM2 := Mem.later hb (Mem.al (Mem.al (Mem.al (Mem.al (Mem.al (hM.out) _ _) _ _) _ _) _ _) _ _) | with_reducible have hM2 := Mem.later hb (Mem.al (Mem.al (Mem.al (Mem.al (Mem.al (Mem.al (hM.out) _ _) _ _) _ _) _ _) _ _) _ _) | with_reducible have hM2 := Mem.later hb (Mem.al (Mem.al (Mem.al (Mem.al (Mem.al (Mem.al (Mem.al (hM.out) _ _) _ _) _ _) _ _) _ _) _ _) _ _) | with_reducible have hM2 := Mem.later hb (Mem.al (Mem.al (Mem.al (Mem.al (Mem.al (Mem.al (Mem.al (Mem.al (hM.out) _ _) _ _) _ _) _ _) _ _) _ _) _ _) _ _)); (try simp only [World.size_alloc, size_drew] at hM2); clear hM; have hM := Lib.hid hM2; clear hF; have hF := hM2; (try simp only [Mem, cellsAt, World.size_alloc, Nat.zero_add, Nat.reduceAdd, and_true] at hF); clear hM2; clear hb) | (go_at_call 28; (with_reducible refine (HShr.out _).mono ?_); rintro e w1 ⟨rfl, hb⟩; have hB : Below w.heap.size w w1 := (by refine bl_then ?_ hb; (repeat (first | exact hB | refine bl_al ?_ _ | refine Below.setCell ?_ (by first | exact hgs | exact Nat.le_succ_of_le hgs | exact hgs2 | exact hgs3) _ | refine Below.drew ?_ | refine bl_drewN ?_ _))); (first | with_reducible have hM2 := Mem.later hb (hM.out) | with_reducible have hM2 := Mem.later hb (Mem.al (hM.out) _ _) | with_reducible have hM2 := Mem.later hb (Mem.al (Mem.al (hM.out) _ _) _ _) | with_reducible have hM2 := Mem.later hb (Mem.al (Mem.al (Mem.al (hM.out) _ _) _ _) _ _) | with_reducible have hM2 := Mem.later hb (Mem.al (Mem.al (Mem.al (Mem.al (hM.out) _ _) _ _) _ _) _ _) | with_reducible have hM2 := Mem.later hb (Mem.drew (hM.out)) | with_reducible have hM2 := Mem.later hb (Mem.drew (Mem.al (hM.out) _ _)) | with_reducible have hM2 := Mem.later hb (Mem.al (Mem.drew (hM.out)) _ _) | with_reducible have hM2 := Mem.later hb (Mem.al (Mem.drew (Mem.al (hM.out) _ _)) _ _) | with_reducible have hM2 := Mem.later hb (Mem.drew (Mem.al (Mem.al (hM.out) _ _) _ _)) | with_reducible have hM2 := Mem.later hb (Mem.al (Mem.al (Mem.drew (hM.out)) _ _) _ _) | with_reducible have hM2 := Mem.later hb (Mem.drew (Mem.drew (hM.out))) | with_reducible have hM2 := Mem.later hb (Mem.drew (Mem.al (Mem.drew (hM.out)) _ _)) | with_reducible have hM2 := Mem.later hb (Mem.drew (Mem.al (Mem.al (Mem.al (hM.out) _ _) _ _) _ _)) | with_reducible have hM2 := Mem.later hb (Mem.al (Mem.al (Mem.drew (Mem.al (hM.out) _ _)) _ _) _ _) | with_reducible have hM2 := Mem.later hb (Mem.drew (Mem.al (Mem.drew (Mem.al (hM.out) _ _)) _ _)) | with_reducible have hM2 := Mem.later hb (Mem.al (Mem.al (Mem.al (Mem.al (Mem.al (hM.out) _ _) _ _) _ _) _ _) _ _) | with_reducible have hM2 := Mem.later hb (Mem.al (Mem.al (Mem.al (Mem.al (Mem.al (Mem.al (hM.out) _ _) _ _) _ _) _ _) _ _) _ _) | with_reducible have hM2 := Mem.later hb (Mem.al (Mem.al (Mem.al (Mem.al (Mem.al (Mem.al (Mem.al (hM.out) _ _) _ _) _ _) _ _) _ _) _ _) _ _) | with_reducible have hM2 := Mem.later hb (Mem.al (Mem.al (Mem.al (Mem.al (Mem.al (Mem.al (Mem.al (Mem.al (hM.out) _ _) _ _) _ _) _ _) _ _) _ _) _ _) _ _)); (try simp only [World.size_alloc, size_drew] at hM2); clear hM; have hM := Lib.hid hM2; clear hF; have hF := hM2; (try simp only [Mem, cellsAt, World.size_alloc, Nat.zero_add, Nat.reduceAdd, and_true] at hF); clear hM2; clear hb))
    go_ret
    exact ⟨rfl, by repeat (first | exact hB | refine Below.setCell ?_ (Below.size (by assumption)) _)⟩
end Go.Proofs.Ytkjlnloionbdbaa
