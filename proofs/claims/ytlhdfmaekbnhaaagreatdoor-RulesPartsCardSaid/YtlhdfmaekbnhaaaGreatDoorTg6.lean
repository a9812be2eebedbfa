/- Package target: Work (made by gen_tg.py). (hM) Merged: Tg2, Tg3, Tg4, UDvs, Tg5, Tg6, TgB0. -/
import Derived.Test.YtlhdfmaekbnhaaaGreatDoorTgE
import Derived.Test.YtlhdfmaekbnhaaaGreatDoorFlt
/- Package target: Work (made by gen_tg.py). (hM) -/
namespace Go.Proofs.YtlhdfmaekbnhaaaGreatDoor
set_option linter.unusedVariables false
set_option linter.unusedSimpArgs false
open Go.RowKit

/-- how much a hash is worth -/
def workV (b : Int) : Int := if expOk b = true then WW / (expV b + 1) else 0

end Go.Proofs.YtlhdfmaekbnhaaaGreatDoor

/- Package target: Shrink (made by gen_tg.py). (hM) -/
namespace Go.Proofs.YtlhdfmaekbnhaaaGreatDoor
set_option linter.unusedVariables false
set_option linter.unusedSimpArgs false
open Go.RowKit

/-- the upper three bytes -/
def upV (A : Int) (s : Nat) : Int := A * 2 ^ (8 * (3 - (s : Int))).toNat / 2 ^ (8 * ((s : Int) - 3)).toNat
/-- a target's bits, from the number and its length in digits of two -/
def shrV (A : Int) (L : Nat) : Int := if upV A ((L + 7) / 8) / 8388608 % 2 = 1 then (((L + 7) / 8 : Nat) + 1) * 16777216 + upV A ((L + 7) / 8) / 256 else ((L + 7) / 8 : Nat) * 16777216 + upV A ((L + 7) / 8)

theorem up_small (A : Int) (L : Nat) (h0 : 0 ≤ A) (h1 : A < 2 ^ L) : 0 ≤ upV A ((L + 7) / 8) ∧ upV A ((L + 7) / 8) < 16777216 := by
  obtain ⟨s, hs⟩ : ∃ s, (L + 7) / 8 = s := ⟨_, rfl⟩
  rw [hs]
  unfold upV
  have hA : A < 2 ^ (8 * s) := Int.lt_of_lt_of_le h1 (pow2_le (by omega))
  refine ⟨Int.ediv_nonneg (Int.mul_nonneg h0 (Int.le_of_lt (two_pow_pos _))) (Int.le_of_lt (two_pow_pos _)), ?_⟩
  rw [Int.ediv_lt_iff_lt_mul (two_pow_pos _), show (16777216 : Int) = 2 ^ 24 by decide, ← Int.pow_add]
  have h2 := Int.mul_lt_mul_of_pos_right hA (two_pow_pos (8 * (3 - (s : Int))).toNat)
  rw [← Int.pow_add] at h2
  refine Int.lt_of_lt_of_le h2 (pow2_le (by omega))
theorem or32 (s m : Int) (hs : 0 ≤ s ∧ s < 256) (hm : 0 ≤ m ∧ m < 16777216) : bits .or .u32 (s * 16777216) m = s * 16777216 + m := by
  obtain ⟨S, rfl⟩ := Int.eq_ofNat_of_zero_le hs.1
  obtain ⟨M, rfl⟩ := Int.eq_ofNat_of_zero_le hm.1
  have e : (S : Int) * 16777216 = ((S * 16777216 : Nat) : Int) := by simp
  rw [e, u32_or_nat (S * 16777216) M (by omega) (by omega), nat_join 24 _ _ (by omega) (by omega)]
  simp

set_option maxRecDepth 100000 in
set_option maxHeartbeats 2000000 in
theorem shrink_any {a0 a1 a2 a3 : Int} (ha : B4 a0 a1 a2 a3) (L : Nat) (hL : lenN a0 a1 a2 a3 = (L : Int)) (w : World) :
    Calls Tryz.prog 57 #[U4 a0 a1 a2 a3] w fun e w' => e = .returned (.int .u32 (shrV (N4 a0 a1 a2 a3) L)) ∧ Below w.heap.size w w' := by
  obtain ⟨L', hL', hL1, hL2, hL3⟩ := len_holds ha
  have hLL : L' = L := by omega
  subst hLL
  have HLen := Lib.hid (fun w => hL ▸ len_n ha w)
  obtain ⟨sz, hsz⟩ : ∃ sz, (L' + 7) / 8 = sz := ⟨_, rfl⟩
  have hna := ha.nn
  obtain ⟨hu0, hu1⟩ := up_small _ _ hna.1 hL2
  obtain ⟨u1, e1⟩ : ∃ u, 8 * (3 - (sz : Int)) = u := ⟨_, rfl⟩
  obtain ⟨u2, e2⟩ : ∃ u, 8 * ((sz : Int) - 3) = u := ⟨_, rfl⟩
  have hA : N4 a0 a1 a2 a3 < 2 ^ (8 * sz) := Int.lt_of_lt_of_le hL2 (pow2_le (by omega))
  have hno : N4 a0 a1 a2 a3 * 2 ^ u1.toNat < WW := by
    have h2 := Int.mul_lt_mul_of_pos_right hA (two_pow_pos u1.toNat)
    rw [← Int.pow_add] at h2
    rw [ww_pow]
    exact Int.lt_of_lt_of_le h2 (pow2_le (by omega))
  have hn0 : 0 ≤ N4 a0 a1 a2 a3 * 2 ^ u1.toNat := Int.mul_nonneg hna.1 (Int.le_of_lt (two_pow_pos _))
  obtain ⟨s0, s1, s2, s3, hs, hsn⟩ := b4_of _ ⟨hn0, hno⟩
  obtain ⟨v0, v1, v2, v3, hv, hvn⟩ := shr_ex hs u2.toNat
  have hup : N4 v0 v1 v2 v3 = upV (N4 a0 a1 a2 a3) sz := by rw [hvn, hsn]; unfold upV; rw [e1, e2]
  rw [hsz] at hu0 hu1
  obtain ⟨M, hM0⟩ : ∃ M, upV (N4 a0 a1 a2 a3) sz = M := ⟨_, rfl⟩
  have hres : shrV (N4 a0 a1 a2 a3) L' = if M / 8388608 % 2 = 1 then ((sz : Int) + 1) * 16777216 + M / 256 else (sz : Int) * 16777216 + M := by
    unfold shrV
    rw [hsz, hM0]
  rw [hres]
  rw [hM0] at hu0 hu1 hup
  have hv0 : v0 = M := by
    have h0 := hv.h0; have h1 := hv.h1; have h2 := hv.h2; have h3 := hv.h3
    unfold N4 WI at *
    omega
  subst hv0
  have HShl := Lib.hid (fun w => shl_n ha hs u1 (by rw [hsn]; exact (Int.emod_eq_of_lt hn0 hno).symm) false (decide_eq_false (by omega)) w)
  have HShr := Lib.hid (fun w => shr_n hs hv u2 hvn w)
  have hw1 : IntKind.i64.wrap ((L' : Int) + 7) = (L' : Int) + 7 := by rw [IntKind.wrap_i64]; omega
  have hw2 : ((L' : Int) + 7).tdiv 8 = (sz : Int) := by rw [Int.tdiv_eq_ediv_of_nonneg (by omega)]; omega
  have hw3 : IntKind.i64.wrap (sz : Int) = (sz : Int) := by rw [IntKind.wrap_i64]; omega
  have hw4 : IntKind.i64.wrap (3 - (sz : Int)) = 3 - (sz : Int) := by rw [IntKind.wrap_i64]; omega
  have hw5 : IntKind.i64.wrap ((sz : Int) - 3) = (sz : Int) - 3 := by rw [IntKind.wrap_i64]; omega
  have hw6 : IntKind.i64.wrap u1 = u1 := by rw [IntKind.wrap_i64]; omega
  have hw7 : IntKind.i64.wrap u2 = u2 := by rw [IntKind.wrap_i64]; omega
  have hw8 : IntKind.u32.wrap v0 = v0 := by rw [IntKind.wrap_u32']; omega
  have hw9 : IntKind.i64.wrap ((sz : Int) + 1) = (sz : Int) + 1 := by rw [IntKind.wrap_i64]; omega
  have hx1 : IntKind.u32.wrap (sz : Int) = (sz : Int) := by rw [IntKind.wrap_u32']; omega
  have hx2 : IntKind.u32.wrap ((sz : Int) + 1) = (sz : Int) + 1 := by rw [IntKind.wrap_u32']; omega
  have hx3 : IntKind.u32.wrap ((sz : Int) * 16777216) = (sz : Int) * 16777216 := by rw [IntKind.wrap_u32']; omega
  have hx4 : IntKind.u32.wrap (((sz : Int) + 1) * 16777216) = ((sz : Int) + 1) * 16777216 := by rw [IntKind.wrap_u32']; omega
  have hsg := sign_bit v0 ⟨hu0, by omega⟩
  have ho1 := or32 (sz : Int) v0 (by omega) ⟨hu0, hu1⟩
  have ho2 := or32 ((sz : Int) + 1) (v0 / 256) (by omega) (by omega)
  have hB := Below.refl w.heap.size w
  have hM := Lib.hid (mem_nil w)
  have hF : True := trivial
  have hb01 : v0 / 8388608 % 2 = 1 ∨ v0 / 8388608 % 2 = 0 := by omega
  clear ha hna hA hno hn0 hs hsn hv hvn hup hM0 hres hL hL2 hL3 hsz
  have hif : ∀ (x : Int) (p q : Int), (x = 1 → (if x = 1 then p else q) = p) ∧ (x = 0 → (if x = 1 then p else q) = q) := fun x p q => ⟨fun h => if_pos h, fun h => if_neg (by omega)⟩
  rcases hb01 with h | h
  all_goals
    rw [h] at hsg
    first | rw [(hif _ _ _).1 h] | rw [(hif _ _ _).2 h]
    clear h hif
    go_enter Tryz.func57, Tryz.ntmps57
    go_wp2_with (first | (go_at_call 50; (with_reducible refine (HLen.out _).mono ?_); rintro e w1 ⟨rfl, hb⟩; have hB : Below w.heap.size w w1 := (by refine bl_then ?_ hb; (repeat (first | exact hB | refine bl_al ?_ _ | refine Below.setCell ?_ (by first | exact hgs | exact Nat.le_succ_of_le hgs | exact hgs2 | exact hgs3) _ | refine Below.drew ?_ | refine bl_drewN ?_ _))); (first | with_reducible have hM2 := Mem.later hb (hM.out) | with_reducible have hM2 := Mem.later hb (Mem.al (hM.out) _ _) | with_reducible have hM2 := Mem.later hb (Mem.al (Mem.al (hM.out) _ _) _ _) | with_reducible have hM2 := Mem.later hb (Mem.al (Mem.al (Mem.al (hM.out) _ _) _ _) _ _) | with_reducible have hM2 := Mem.later hb (Mem.al (Mem.al (Mem.al (Mem.al (hM.out) _ _) _ _) _ _) _ _) | with_reducible have hM2 := Mem.later hb (Mem.drew (hM.out)) | with_reducible have hM2 := Mem.later hb (Mem.drew (Mem.al (hM.out) _ _)) | with_reducible have hM2 := Mem.later hb (Mem.al (Mem.drew (hM.out)) _ _) | with_reducible have hM2 := Mem.later hb (Mem.al (Mem.drew (Mem.al (hM.out) _ _)) _ _) | with_reducible have hM2 := Mem.later hb (Mem.drew (Mem.al (Mem.al (hM.out) _ _) _ _)) | with_reducible have hM2 := Mem.later hb (Mem.al (Mem.al (Mem.drew (hM.out)) _ _) _ _) | with_reducible have hM2 := Mem.later hb (Mem.drew (Mem.drew (hM.out))) | with_reducible have hM2 := Mem.later hb (Mem.drew (Mem.al (Mem.drew (hM.out)) _ _)) | with_reducible have hM2 := Mem.later hb (Mem.drew (Mem.al (Mem.al (Mem.al (hM.out) _ _) _ _) _ _)) | with_reducible have hM2 := Mem.later hb (Mem.al (Mem.al (Mem.drew (Mem.al (hM.out) _ _)) _ _) _ _) | with_reducible have hM2 := Mem.later hb (Mem.drew (Mem.al (Mem.drew (Mem.al (hM.out) _ _)) _ _)) | with_reducible have hM2 := Mem.later hb (Mem.al (Mem.al (Mem.al (Mem.al (Mem.al (hM.out) _ _) _ _) _ _) _ _) _ _) | with_reducible have hM2 := Mem.later hb (Mem.al (Mem.al (Mem.al (Mem.al (Mem.al (Mem.al (hM.out) _ _) _ _) _ _) _ _) _ _) _ _) | with_reducible have hM2 := Mem.later hb (Mem.al (Mem.al (Mem.al (Mem.al (Mem.al (Mem.al (Mem.al (hM.out) _ _) _ _) _ _) _ _) _ _) _ _) _ _) | with_reducible have hM2 := Mem.later hb (Mem.al (Mem.al (Mem.al (Mem.al (Mem.al (Mem.al (Mem.al (Mem.al (hM.out) _ _) _ _) _ _) _ _) _ _) _ _) _ _) _ _)); (try simp only [World.size_alloc, size_drew] at hM2); clear hM; have hM := Lib.hid hM2; clear hF; have hF := hM2; (try simp only [Mem, cellsAt, World.size_alloc, Nat.zero_add, Nat.reduceAdd, and_true] at hF); clear hM2; clear hb) | (go_at_call 39; (with_reducible refine (HShl.out _).mono ?_); rintro e w1 ⟨rfl, hb⟩; have hB : Below w.heap.size w w1 := (by refine bl_then ?_ hb; (repeat (first | exact hB | refine bl_al ?_ _ | refine Below.setCell ?_ (by first | exact hgs | exact Nat.le_succ_of_le hgs | exact hgs2 | exact hgs3) _ | refine Below.drew ?_ | refine bl_drewN ?_ _))); (first | with_reducible have hM2 := Mem.later hb (hM.out) | with_reducible have hM2 := Mem.later hb (Mem.al (hM.out) _ _) | with_reducible have hM2 := Mem.later hb (Mem.al (Mem.al (hM.out) _ _) _ _) | with_reducible have hM2 := Mem.later hb (Mem.al (Mem.al (Mem.al (hM.out) _ _) _ _) _ _) | with_reducible have hM2 := Mem.later hb (Mem.al (Mem.al (Mem.al (Mem.al (hM.out) _ _) _ _) _ _) _ _) | with_reducible have hM2 := Mem.later hb (Mem.drew (hM.out)) | with_reducible have hM2 := Mem.later hb (Mem.drew (Mem.al (hM.out) _ _)) | with_reducible have hM2 := Mem.later hb (Mem.al (Mem.drew (hM.out)) _ _) | with_reducible have hM2 := Mem.later hb (Mem.al (Mem.drew (Mem.al (hM.out) _ _)) _ _) | with_reducible have hM2 := Mem.later hb (Mem.drew (Mem.al (Mem.al (hM.out) _ _) _ _)) | with_reducible have hM2 := Mem.later hb (Mem.al (Mem.al (Mem.drew (hM.out)) _ _) _ _) | with_reducible have hM2 := Mem.later hb (Mem.drew (Mem.drew (hM.out))) | with_reducible have hM2 := Mem.later hb (Mem.drew (Mem.al (Mem.drew (hM.out)) _ _)) | with_reducible have hM2 := Mem.later hb (Mem.drew (Mem.al (Mem.al (Mem.al (hM.out) _ _) _ _) _ _)) | with_reducible have hM2 := Mem.later hb (Mem.al (Mem.al (Mem.drew (Mem.al (hM.out) _ _)) _ _) _ _) | with_reducible have hM2 := Mem.later hb (Mem.drew (Mem.al (Mem.drew (Mem.al (hM.out) _ _)) _ _)) | with_reducible have hM2 := Mem.later hb (Mem.al (Mem.al (Mem.al (Mem.al (Mem.al (hM.out) _ _) _ _) _ _) _ _) _ _) | with_reducible have hM2 := Mem.later hb (Mem.al (Mem.al (Mem.al (Mem.al (Mem.al (Mem.al (hM.out) _ _) _ _) _ _) _ _) _ _) _ _) | with_reducible have hM2 := Mem.later hb (Mem.al (Mem.al (Mem.al (Mem.al (Mem.al (Mem.al (Mem.al (hM.out) _ _) _ _) _ _) _ _) _ _) _ _) _ _) | with_reducible have hM2 := Mem.later hb (Mem.al (Mem.al (Mem.al (Mem.al (Mem.al (Mem.al (Mem.al (Mem.al (hM.out) _ _) _ _) _ _) _ _) _ _) _ _) _ _) _ _)); (try simp only [World.size_alloc, size_drew] at hM2); clear hM; have hM := Lib.hid hM2; clear hF; have hF := hM2; (try simp only [Mem, cellsAt, World.size_alloc, Nat.zero_add, Nat.reduceAdd, and_true] at hF); clear hM2; clear hb) | (go_at_call 37; (with_reducible refine (HShr.out _).mono ?_); rintro e w1 ⟨rfl, hb⟩; have hB : Below w.heap.size w w1 := (by refine bl_then ?_ hb; (repeat (first | exact hB | refine bl_al ?_ _ | refine Below.setCell ?_ (by first | exact hgs | exact Nat.le_succ_of_le hgs | exact hgs2 | exact hgs3) _ | refine Below.drew ?_ | refine bl_drewN ?_ _))); (first | with_reducible have hM2 := Mem.later hb (hM.out) | with_reducible have hM2 := Mem.later hb (Mem.al (hM.out) _ _) | with_reducible have hM2 := Mem.later hb (Mem.al (Mem.al (hM.out) _ _) _ _) | with_reducible have hM2 := Mem.later hb (Mem.al (Mem.al (Mem.al (hM.out) _ _) _ _) _ _) | with_reducible have hM2 := Mem.later hb (Mem.al (Mem.al (Mem.al (Mem.al (hM.out) _ _) _ _) _ _) _ _) | with_reducible have hM2 := Mem.later hb (Mem.drew (hM.out)) | with_reducible have hM2 := Mem.later hb (Mem.drew (Mem.al (hM.out) _ _)) | with_reducible have hM2 := Mem.later hb (Mem.al (Mem.drew (hM.out)) _ _) | with_reducible have hM2 := Mem.later hb (Mem.al (Mem.drew (Mem.al (hM.out) _ _)) _ _) | with_reducible have hM2 := Mem.later hb (Mem.drew (Mem.al (Mem.al (hM.out) _ _) _ _)) | with_reducible have hM2 := Mem.later hb (Mem.al (Mem.al (Mem.drew (hM.out)) _ _) _ _) | with_reducible have hM2 := Mem.later hb (Mem.drew (Mem.drew (hM.out))) | with_reducible have hM2 := Mem.later hb (Mem.drew (Mem.al (Mem.drew (hM.out)) _ _)) | with_reducible have hM2 := Mem.later hb (Mem.drew (Mem.al (Mem.al (Mem.al (hM.out) _ _) _ _) _ _)) | with_reducible have hM2 := Mem.later hb (Mem.al (Mem.al (Mem.drew (Mem.al (hM.out) _ _)) _ _) _ _) | with_reducible have hM2 := Mem.later hb (Mem.drew (Mem.al (Mem.drew (Mem.al (hM.out) _ _)) _ _)) | with_reducible have hM2 := Mem.later hb (Mem.al (Mem.al (Mem.al (Mem.al (Mem.al (hM.out) _ _) _ _) _ _) _ _) _ _) | with_reducible have hM2 := Mem.later hb (Mem.al (Mem.al (Mem.al (Mem.al (Mem.al (Mem.al (hM.out) _ _) _ _) _ _) _ _) _ _) _ _) | with_reducible have hM2 := Mem.later hb (Mem.al (Mem.al (Mem.al (Mem.al (Mem.al (Mem.al (Mem.al (hM.out) _ _) _ _) _ _) _ _) _ _) _ _) _ _) | with_reducible have hM2 := Mem.later hb (Mem.al (Mem.al (Mem.al (Mem.al (Mem.al (Mem.al (Mem.al (Mem.al (hM.out) _ _) _ _) _ _) _ _) _ _) _ _) _ _) _ _)); (try simp only [World.size_alloc, size_drew] at hM2); clear hM; have hM := Lib.hid hM2; clear hF; have hF := hM2; (try simp only [Mem, cellsAt, World.size_alloc, Nat.zero_add, Nat.reduceAdd, and_true] at hF); clear hM2; clear hb))
    go_ret
    exact ⟨rfl, by repeat (first | exact hB | refine Below.setCell ?_ (Below.size (by assumption)) _)⟩
end Go.Proofs.YtlhdfmaekbnhaaaGreatDoor

/- Stage 5's beginning (made by gen_tg2.py). (hM) -/
namespace Go.Proofs.YtlhdfmaekbnhaaaGreatDoor
set_option linter.unusedVariables false
set_option linter.unusedSimpArgs false
open Go.RowKit

theorem u32_wf5 {n : Int} (h : (Lit.int .u32 n).wf = true) : 0 ≤ n ∧ n < 4294967296 := by
  simp only [Lit.wf, Bool.and_eq_true, decide_eq_true_eq] at h
  have h1 : IntKind.u32.min = 0 := by decide
  have h2 : IntKind.u32.max = 4294967295 := by decide
  omega
theorem neq_self (a0 a1 a2 a3 : Int) (w : World) : (binOp .neq 51 (U4 a0 a1 a2 a3) (U4 a0 a1 a2 a3)).run Tryz.prog w = .ok (.bool false) w := by
  have := neqArr Tryz.prog 4 51 49 .u64 Tryz.underlying51 Tryz.underlying49 (by kernel_rfl) [a0, a1, a2, a3] [a0, a1, a2, a3] rfl rfl w
  rw [show (!([a0, a1, a2, a3] == [a0, a1, a2, a3])) = false by simp] at this
  exact this
theorem work_ex (b : Int) (hb : 0 ≤ b ∧ b < 4294967296) : ∃ v0 v1 v2 v3 : Int, B4 v0 v1 v2 v3 ∧ N4 v0 v1 v2 v3 = workV b := by
  refine b4_of _ ?_
  unfold workV
  split
  · rename_i h
    have hs := exp_small b hb h
    refine ⟨Int.ediv_nonneg (by decide) (by omega), ?_⟩
    rw [Int.ediv_lt_iff_lt_mul (by omega)]
    have : WW * 2 ≤ WW * (expV b + 1) := Int.mul_le_mul_of_nonneg_left (by omega) (by decide)
    have : 0 < WW := by decide
    omega
  · exact ⟨Int.le_refl 0, by decide⟩

end Go.Proofs.YtlhdfmaekbnhaaaGreatDoor

/- U256Divides: the walk of the law (made by gen_dvs.py). -/
namespace Go.Proofs.YtlhdfmaekbnhaaaGreatDoor
set_option linter.unusedVariables false
set_option linter.unusedSimpArgs false
open Go.RowKit

theorem mul_ex {a0 a1 a2 a3 : Int} (ha : B4 a0 a1 a2 a3) (k : Int) (hk : 0 ≤ k) : ∃ s0 s1 s2 s3 c : Int, B4 s0 s1 s2 s3 ∧ 0 ≤ c ∧ N4 a0 a1 a2 a3 * k = N4 s0 s1 s2 s3 + WW * c := by
  have hn := ha.nn
  have hp : 0 ≤ N4 a0 a1 a2 a3 * k := Int.mul_nonneg hn.1 hk
  obtain ⟨s0, s1, s2, s3, hs, he⟩ := b4_of (N4 a0 a1 a2 a3 * k % WW) ⟨Int.emod_nonneg _ (by decide), Int.emod_lt_of_pos _ (by decide)⟩
  refine ⟨s0, s1, s2, s3, N4 a0 a1 a2 a3 * k / WW, hs, Int.ediv_nonneg hp (by decide), ?_⟩
  rw [he]
  have := Int.mul_ediv_add_emod (N4 a0 a1 a2 a3 * k) WW
  omega
theorem mul_is {a0 a1 a2 a3 s0 s1 s2 s3 : Int} (ha : B4 a0 a1 a2 a3) (hs : B4 s0 s1 s2 s3) (k c : Int) (hk : 0 ≤ k ∧ k < WI) (h : N4 a0 a1 a2 a3 * k = N4 s0 s1 s2 s3 + WW * c) (lost : Bool) (hl : (c != 0) = lost) (w : World) :
    Calls Tryz.prog 72 #[U4 a0 a1 a2 a3, .int .u64 k] w fun e w' => e = .returned (.tuple #[U4 s0 s1 s2 s3, .bool lost]) ∧ Below w.heap.size w w' := by
  refine (mul_parts ha k hk w).mono ?_
  rintro e w' ⟨t0, t1, t2, t3, d, rfl, ht, hd, he, hbl⟩
  have h1 := ht.nn
  have h2 := hs.nn
  rw [h] at he
  have hdc : d = c ∧ N4 t0 t1 t2 t3 = N4 s0 s1 s2 s3 := by
    unfold WW WI at *
    omega
  obtain ⟨rfl, h3⟩ := hdc
  obtain ⟨rfl, rfl, rfl, rfl⟩ := ht.inj hs h3
  exact ⟨by rw [hl], hbl⟩
theorem neq_same (a0 a1 a2 a3 : Int) (w : World) : (binOp .neq 51 (U4 a0 a1 a2 a3) (U4 a0 a1 a2 a3)).run Tryz.prog w = .ok (.bool false) w := by
  have := neqArr Tryz.prog 4 51 49 .u64 Tryz.underlying51 Tryz.underlying49 (by kernel_rfl) [a0, a1, a2, a3] [a0, a1, a2, a3] rfl rfl w
  rw [show (!([a0, a1, a2, a3] == [a0, a1, a2, a3])) = false by simp] at this
  exact this
end Go.Proofs.YtlhdfmaekbnhaaaGreatDoor

/- Package target: ratio (made by gen_tg5.py). (hM) -/
namespace Go.Proofs.YtlhdfmaekbnhaaaGreatDoor
set_option linter.unusedVariables false
set_option linter.unusedSimpArgs false
open Go.RowKit

set_option maxRecDepth 100000 in
set_option maxHeartbeats 4000000 in
theorem ratio_any {t0 t1 t2 t3 : Int} (ht : B4 t0 t1 t2 t3) (num den : Int) (hnum : 0 ≤ num ∧ num < WI) (hden : 0 < den ∧ den < WI) {s0 s1 s2 s3 : Int} (hs : B4 s0 s1 s2 s3) (h : N4 s0 s1 s2 s3 = N4 t0 t1 t2 t3 * num / den % WW)
    (ov : Bool) (hov : decide (WW ≤ N4 t0 t1 t2 t3 * num / den) = ov) (w : World) :
    Calls Tryz.prog 56 #[U4 t0 t1 t2 t3, .int .u64 num, .int .u64 den] w fun e w' => e = .returned (.tuple #[U4 s0 s1 s2 s3, .bool ov]) ∧ Below w.heap.size w w' := by
  have hdB := b4_small den ⟨by omega, hden.2⟩
  have htn := ht.nn
  have hr0 := Int.emod_nonneg (N4 t0 t1 t2 t3) (show den ≠ 0 by omega)
  have hr1 := Int.emod_lt_of_pos (N4 t0 t1 t2 t3) hden.1
  have hq0 := Int.ediv_nonneg htn.1 (show 0 ≤ den by omega)
  have hq1 := Int.ediv_le_self den htn.1
  have heq := Int.mul_ediv_add_emod (N4 t0 t1 t2 t3) den
  obtain ⟨q0, q1, q2, q3, hq, hqn⟩ := b4_of (N4 t0 t1 t2 t3 / den) ⟨hq0, by omega⟩
  obtain ⟨r0, r1, r2, r3, hr, hrn⟩ := b4_of (N4 t0 t1 t2 t3 % den) ⟨hr0, by unfold WW WI at *; omega⟩
  obtain ⟨m0, m1, m2, m3, c, hm, hc, hme⟩ := mul_ex hq num hnum.1
  obtain ⟨lost, hlost⟩ : ∃ z, (c != 0) = z := ⟨_, rfl⟩
  have hrnum : 0 ≤ N4 t0 t1 t2 t3 % den * num ∧ N4 t0 t1 t2 t3 % den * num < WW := by
    refine ⟨Int.mul_nonneg hr0 hnum.1, ?_⟩
    have := Int.mul_le_mul (show N4 t0 t1 t2 t3 % den ≤ WI by omega) (show num ≤ WI by omega) hnum.1 (by unfold WI; omega)
    refine Int.lt_of_le_of_lt this (by decide)
  obtain ⟨l0, l1, l2, l3, hl, hln⟩ := b4_of _ hrnum
  have hz0 := Int.ediv_nonneg hrnum.1 (show 0 ≤ den by omega)
  have hz1 := Int.ediv_le_self den hrnum.1
  obtain ⟨y0, y1, y2, y3, hy, hyn⟩ := b4_of (N4 t0 t1 t2 t3 % den * num / den) ⟨hz0, by omega⟩
  have hu0 := Int.emod_nonneg (N4 t0 t1 t2 t3 % den * num) (show den ≠ 0 by omega)
  have hu1 := Int.emod_lt_of_pos (N4 t0 t1 t2 t3 % den * num) hden.1
  obtain ⟨u0, u1, u2, u3, hu, hun⟩ := b4_of (N4 t0 t1 t2 t3 % den * num % den) ⟨hu0, by unfold WW WI at *; omega⟩
  obtain ⟨x0, x1, x2, x3, over, hx, hxe, hxo⟩ := add_ex hm hy
  have hR : N4 t0 t1 t2 t3 * num / den = N4 q0 q1 q2 q3 * num + N4 t0 t1 t2 t3 % den * num / den := by
    rw [hqn, Int.add_comm, ← Int.add_mul_ediv_right _ _ (show den ≠ 0 by omega)]
    congr 1
    have h1 : N4 t0 t1 t2 t3 * num = (den * (N4 t0 t1 t2 t3 / den) + N4 t0 t1 t2 t3 % den) * num := by rw [heq]
    rw [h1, Int.add_mul]
    have h2 : den * (N4 t0 t1 t2 t3 / den) * num = N4 t0 t1 t2 t3 / den * num * den := by ac_rfl
    omega
  have hxn := hx.nn
  have hres : (x0 = s0 ∧ x1 = s1 ∧ x2 = s2 ∧ x3 = s3) ∧ (lost || over) = ov := by
    have e1 : N4 t0 t1 t2 t3 * num / den = N4 x0 x1 x2 x3 + WW * (c + if over = true then 1 else 0) := by
      rw [hR, hme, ← hyn]
      cases over <;> simp at hxe ⊢ <;> (try rw [Int.mul_add]) <;> omega
    refine ⟨hx.inj hs ?_, ?_⟩
    · rw [h, e1, Int.add_mul_emod_self_left, Int.emod_eq_of_lt hxn.1 hxn.2]
    · rw [← hov, ← hlost, e1]
      have hW : 0 < WW := by decide
      cases over
      · simp only [Bool.or_false, Bool.false_eq_true, if_false, Int.add_zero]
        by_cases hc0 : c = 0
        · subst hc0
          rw [Int.mul_zero, Int.add_zero, decide_eq_false (by omega)]
          rfl
        · have : WW * 1 ≤ WW * c := Int.mul_le_mul_of_nonneg_left (by omega) (by omega)
          rw [decide_eq_true (by omega)]
          simpa using hc0
      · simp only [Bool.or_true, if_true]
        have : WW * 1 ≤ WW * (c + 1) := Int.mul_le_mul_of_nonneg_left (by omega) (by omega)
        rw [decide_eq_true (by omega)]
  obtain ⟨⟨rfl, rfl, rfl, rfl⟩, hov2⟩ := hres
  have HOf := Lib.hid (fun w => of_any den w)
  have HDiv1 := Lib.hid (fun w => div_is ht hdB.1 hq hr true (.inl ⟨rfl, by omega, by rw [hdB.2]; exact hqn, by rw [hdB.2]; exact hrn⟩) w)
  have HMul1 := Lib.hid (fun w => mul_is hq hm num c hnum hme lost hlost w)
  have HMul2 := Lib.hid (fun w => mul_is hr hl num 0 hnum (by rw [hrn, hln]; simp) false rfl w)
  have HDiv2 := Lib.hid (fun w => div_is hl hdB.1 hy hu true (.inl ⟨rfl, by omega, by rw [hdB.2, hln]; exact hyn, by rw [hdB.2, hln]; exact hun⟩) w)
  have HAdd := Lib.hid (fun w => add_n hm hy hx over hxe w)
  have hB := Below.refl w.heap.size w
  have hM := Lib.hid (mem_nil w)
  have hF : True := trivial
  clear ht htn hr0 hr1 hq0 hq1 heq hq hqn hr hrn hm hc hme hlost hrnum hl hln hz0 hz1 hy hyn hu0 hu1 hu hun hx hxe hxo hR hxn h hov hs hdB hnum hden
  go_enter Tryz.func56, Tryz.ntmps56
  go_wp2
  have hMq := (Mem.al (Mem.al hM.out [.int .u64 t0, .int .u64 t1, .int .u64 t2, .int .u64 t3] 51) [.int .u64 0, .int .u64 0, .int .u64 0, .int .u64 0] 51)
  (try simp only [World.size_alloc] at hMq)
  have hBq := (bl_al (bl_al hB (.cells #[.int .u64 t0, .int .u64 t1, .int .u64 t2, .int .u64 t3] 51)) (.cells #[.int .u64 0, .int .u64 0, .int .u64 0, .int .u64 0] 51))
  have hBs := hBq.size
  obtain ⟨LL, HLL, hMl⟩ := mem_name hMq
  have hLt := Lib.hid (Mem.lt hMl)
  refine wp_float (MB w LL) (fun _ => .cells #[.int .u64 0, .int .u64 0, .int .u64 0, .int .u64 0] 51) [0, 1, 2, 3, 4, 5, 6, 7] [8, 9] [10, 11, 12] [6, 7] (by kernel_rfl) (by kernel_rfl) ?_ MB.later ⟨hMl, hBq⟩ ?_
  · intro k hk
    simp only [List.mem_cons, List.not_mem_nil, or_false] at hk
    rcases hk with rfl | rfl <;> exact ⟨_, rfl, rfl, fun a w => by go_simp; rfl⟩
  have hLL := HLL.out
  subst hLL
  clear HLL hMq hM hF hB hBq hMl
  iterate 2 (refine wpG_take rfl (by rfl) (by intro w' hSw; (try dsimp only [MB, Mem, cellsAt] at hSw); go_simp; (try with_reducible rfl)) ?_; (try simp only [Act.put, List.setIfInBounds_toArray, List.set_cons_zero, List.set_cons_succ]))
  (refine wpG_call MB.later (HOf.out) rfl (by rfl) (by intro w' hSw; (try dsimp only [MB, Mem, cellsAt] at hSw); go_simp; (try with_reducible rfl)) ?_; (try simp only [Act.put, List.setIfInBounds_toArray, List.set_cons_zero, List.set_cons_succ]))
  (refine wpG_call MB.later (HDiv1.out) rfl (by rfl) (by intro w' hSw; (try dsimp only [MB, Mem, cellsAt] at hSw); go_simp; (try with_reducible rfl)) ?_; (try simp only [Act.put, List.setIfInBounds_toArray, List.set_cons_zero, List.set_cons_succ]))
  iterate 4 (refine wpG_take rfl (by rfl) (by intro w' hSw; (try dsimp only [MB, Mem, cellsAt] at hSw); go_simp; (try with_reducible rfl)) ?_; (try simp only [Act.put, List.setIfInBounds_toArray, List.set_cons_zero, List.set_cons_succ]))
  (refine wpG_nil ?_)
  intro G w2 hG hSw hbx hsz
  obtain ⟨g, g', eg, eg', hlg, hlg', hne, hbm⟩ := box_two hG hbx (by decide) (vs := [.int .u64 0, .int .u64 0, .int .u64 0, .int .u64 0]) (us := [.int .u64 0, .int .u64 0, .int .u64 0, .int .u64 0]) rfl rfl
  simp only [putAll, eg, eg', dstOf, ptrOf, List.getElem?_toArray, List.getElem?_cons_zero, List.getElem?_cons_succ, Option.bind_some, Act.put, List.setIfInBounds_toArray, List.set_cons_zero, List.set_cons_succ]
  obtain ⟨n1, n2⟩ := set_two hLt.out hlg hlg' hne hbm hSw.1 q0 q1 q2 q3 r0 r1 r2 r3
  have hSw0 := hBs
  have hB := bl_set4 r0 r1 r2 r3 (Nat.le_trans hSw0 hlg') (bl_set4 q0 q1 q2 q3 (Nat.le_trans hSw0 hlg) hSw.2)
  have hF := hbm
  simp only [Mem, cellsAt, wset4, Nat.zero_add, Nat.reduceAdd, and_true] at hF
  (refine wpOps_go rfl ?_; go_simp)
  clear hF
  have hF := n1
  simp only [Mem, cellsAt, wset4, Nat.zero_add, Nat.reduceAdd, and_true] at hF
  (refine wpOps_go rfl ?_; go_simp)
  have HNE := Lib.hid (And.intro hne (And.intro hlg (And.intro hlg' (And.intro hBs hLt.out))))
  change wpOps _ _ _ _ _ (wset4 (wset4 w2 g q0 q1 q2 q3) g' r0 r1 r2 r3)
  clear hF hSw hbx hG hsz hSw0 hLt hBs eg eg' hlg hlg' hne hbm n1
  generalize wset4 (wset4 w2 g q0 q1 q2 q3) g' r0 r1 r2 r3 = w3 at *
  (refine wpOps_go rfl ?_; go_simp)
  refine wpOps_none ?_
  have hM := Lib.hid n2
  have hF := n2
  simp only [Mem, cellsAt, Nat.zero_add, Nat.reduceAdd, and_true] at hF
  clear n2
  have hne1 := HNE.out.1
  have hne2 := HNE.out.1.symm
  have hg1 : w.heap.size ≤ g := Nat.le_trans HNE.out.2.2.2.1 HNE.out.2.1
  have hg2 : w.heap.size ≤ g' := Nat.le_trans HNE.out.2.2.2.1 HNE.out.2.2.1
  have HD1 : Hid (∀ p ∈ (g', [Value.int .u64 r0, .int .u64 r1, .int .u64 r2, .int .u64 r3]) :: [(w.heap.size + 1, [.int .u64 0, .int .u64 0, .int .u64 0, .int .u64 0]), (w.heap.size, [.int .u64 t0, .int .u64 t1, .int .u64 t2, .int .u64 t3])], p.1 ≠ g) := by
    intro p hp
    rcases List.mem_cons.1 hp with rfl | hp
    · exact hne2
    · have h1 := HNE.out.2.2.2.2 p hp
      exact Nat.ne_of_lt (Nat.lt_of_lt_of_le h1 HNE.out.2.1)
  have HD2 : Hid (∀ p ∈ (g, [Value.int .u64 m0, .int .u64 m1, .int .u64 m2, .int .u64 m3]) :: [(w.heap.size + 1, [.int .u64 0, .int .u64 0, .int .u64 0, .int .u64 0]), (w.heap.size, [.int .u64 t0, .int .u64 t1, .int .u64 t2, .int .u64 t3])], p.1 ≠ g') := by
    intro p hp
    rcases List.mem_cons.1 hp with rfl | hp
    · exact hne1
    · have h1 := HNE.out.2.2.2.2 p hp
      exact Nat.ne_of_lt (Nat.lt_of_lt_of_le h1 HNE.out.2.2.1)
  clear HNE
  go_wp2_with (go_at_call 72; first | ((with_reducible refine (HMul1.out _).mono ?_); rintro e w1 ⟨rfl, hb⟩; have hB : Below w.heap.size w w1 := (by refine bl_then ?_ hb; (repeat (first | exact hB | refine bl_al ?_ _ | refine Below.setCell ?_ (by first | exact hgs | exact Nat.le_succ_of_le hgs | exact hgs2 | exact hgs3) _ | refine Below.drew ?_ | refine bl_drewN ?_ _))); (first | with_reducible have hM2 := Mem.later hb (hM.out) | with_reducible have hM2 := Mem.later hb (Mem.al (hM.out) _ _) | with_reducible have hM2 := Mem.later hb (Mem.al (Mem.al (hM.out) _ _) _ _) | with_reducible have hM2 := Mem.later hb (Mem.al (Mem.al (Mem.al (hM.out) _ _) _ _) _ _) | with_reducible have hM2 := Mem.later hb (Mem.al (Mem.al (Mem.al (Mem.al (hM.out) _ _) _ _) _ _) _ _) | with_reducible have hM2 := Mem.later hb (Mem.drew (hM.out)) | with_reducible have hM2 := Mem.later hb (Mem.drew (Mem.al (hM.out) _ _)) | with_reducible have hM2 := Mem.later hb (Mem.al (Mem.drew (hM.out)) _ _) | with_reducible have hM2 := Mem.later hb (Mem.al (Mem.drew (Mem.al (hM.out) _ _)) _ _) | with_reducible have hM2 := Mem.later hb (Mem.drew (Mem.al (Mem.al (hM.out) _ _) _ _)) | with_reducible have hM2 := Mem.later hb (Mem.al (Mem.al (Mem.drew (hM.out)) _ _) _ _) | with_reducible have hM2 := Mem.later hb (Mem.drew (Mem.drew (hM.out))) | with_reducible have hM2 := Mem.later hb (Mem.drew (Mem.al (Mem.drew (hM.out)) _ _)) | with_reducible have hM2 := Mem.later hb (Mem.drew (Mem.al (Mem.al (Mem.al (hM.out) _ _) _ _) _ _)) | with_reducible have hM2 := Mem.later hb (Mem.al (Mem.al (Mem.drew (Mem.al (hM.out) _ _)) _ _) _ _) | with_reducible have hM2 := Mem.later hb (Mem.drew (Mem.al (Mem.drew (Mem.al (hM.out) _ _)) _ _)) | with_reducible have hM2 := Mem.later hb (Mem.al (Mem.al (Mem.al (Mem.al (Mem.al (hM.out) _ _) _ _) _ _) _ _) _ _) | with_reducible have hM2 := Mem.later hb (Mem.al (Mem.al (Mem.al (Mem.al (Mem.al (Mem.al (hM.out) _ _) _ _) _ _) _ _) _ _) _ _) | with_reducible have hM2 := Mem.later hb (Mem.al (Mem.al (Mem.al (Mem.al (Mem.al (Mem.al (Mem.al (hM.out) _ _) _ _) _ _) _ _) _ _) _ _) _ _) | with_reducible have hM2 := Mem.later hb (Mem.al (Mem.al (Mem.al (Mem.al (Mem.al (Mem.al (Mem.al (Mem.al (hM.out) _ _) _ _) _ _) _ _) _ _) _ _) _ _) _ _)); (try simp only [World.size_alloc, size_drew] at hM2); clear hM; have hM := Lib.hid hM2; clear hF; have hF := hM2; (try simp only [Mem, cellsAt, World.size_alloc, Nat.zero_add, Nat.reduceAdd, and_true] at hF); clear hM2; clear hb) | ((with_reducible refine (HMul2.out _).mono ?_); rintro e w2 ⟨rfl, hb⟩; have hMs := Mem.swap (Mem.set4 m0 m1 m2 m3 HD1.out (Mem.swap hM.out)); have hB2 := bl_then (bl_set4 m0 m1 m2 m3 hg1 hB) hb; have hM2 := Mem.later hb hMs; clear hM hF hB; have hM := Lib.hid hM2; have hF := hM2; (simp only [Mem, cellsAt, Nat.zero_add, Nat.reduceAdd, and_true] at hF); have hB := hB2; clear hb hM2 hMs hB2))
  have hMq := (Mem.set4 l0 l1 l2 l3 HD2.out hM.out)
  have hBq := (bl_set4 l0 l1 l2 l3 hg2 hB)
  have hBs := hBq.size
  obtain ⟨LL, HLL, hMl⟩ := mem_name hMq
  have hLt := Lib.hid (Mem.lt hMl)
  refine wp_float (MB w LL) (fun _ => .cells #[.int .u64 0, .int .u64 0, .int .u64 0, .int .u64 0] 51) [0, 1, 2, 3, 4, 5, 6, 7] [8, 9] [10, 11, 12] [6, 7] (by kernel_rfl) (by kernel_rfl) ?_ MB.later ⟨hMl, hBq⟩ ?_
  · intro k hk
    simp only [List.mem_cons, List.not_mem_nil, or_false] at hk
    rcases hk with rfl | rfl <;> exact ⟨_, rfl, rfl, fun a w => by go_simp; rfl⟩
  have hLL := HLL.out
  subst hLL
  clear HLL hMq hM hF hB hBq hMl
  iterate 2 (refine wpG_take rfl (by rfl) (by intro w' hSw; (try dsimp only [MB, Mem, cellsAt] at hSw); go_simp; (try with_reducible rfl)) ?_; (try simp only [Act.put, List.setIfInBounds_toArray, List.set_cons_zero, List.set_cons_succ]))
  (refine wpG_call MB.later (HOf.out) rfl (by rfl) (by intro w' hSw; (try dsimp only [MB, Mem, cellsAt] at hSw); go_simp; (try with_reducible rfl)) ?_; (try simp only [Act.put, List.setIfInBounds_toArray, List.set_cons_zero, List.set_cons_succ]))
  (refine wpG_call MB.later (HDiv2.out) rfl (by rfl) (by intro w' hSw; (try dsimp only [MB, Mem, cellsAt] at hSw); go_simp; (try with_reducible rfl)) ?_; (try simp only [Act.put, List.setIfInBounds_toArray, List.set_cons_zero, List.set_cons_succ]))
  iterate 4 (refine wpG_take rfl (by rfl) (by intro w' hSw; (try dsimp only [MB, Mem, cellsAt] at hSw); go_simp; (try with_reducible rfl)) ?_; (try simp only [Act.put, List.setIfInBounds_toArray, List.set_cons_zero, List.set_cons_succ]))
  (refine wpG_nil ?_)
  intro G w2 hG hSw hbx hsz
  obtain ⟨g, g', eg, eg', hlg, hlg', hne, hbm⟩ := box_two hG hbx (by decide) (vs := [.int .u64 0, .int .u64 0, .int .u64 0, .int .u64 0]) (us := [.int .u64 0, .int .u64 0, .int .u64 0, .int .u64 0]) rfl rfl
  simp only [putAll, eg, eg', dstOf, ptrOf, List.getElem?_toArray, List.getElem?_cons_zero, List.getElem?_cons_succ, Option.bind_some, Act.put, List.setIfInBounds_toArray, List.set_cons_zero, List.set_cons_succ]
  obtain ⟨n1, n2⟩ := set_two hLt.out hlg hlg' hne hbm hSw.1 y0 y1 y2 y3 u0 u1 u2 u3
  have hSw0 := hBs
  have hB := bl_set4 u0 u1 u2 u3 (Nat.le_trans hSw0 hlg') (bl_set4 y0 y1 y2 y3 (Nat.le_trans hSw0 hlg) hSw.2)
  have hF := hbm
  simp only [Mem, cellsAt, wset4, Nat.zero_add, Nat.reduceAdd, and_true] at hF
  (refine wpOps_go rfl ?_; go_simp)
  clear hF
  have hF := n1
  simp only [Mem, cellsAt, wset4, Nat.zero_add, Nat.reduceAdd, and_true] at hF
  (refine wpOps_go rfl ?_; go_simp)
  change wpOps _ _ _ _ _ (wset4 (wset4 w2 g y0 y1 y2 y3) g' u0 u1 u2 u3)
  clear hF hSw hbx hG hsz hSw0 hLt hBs eg eg' hlg hlg' hne hbm n1
  generalize wset4 (wset4 w2 g y0 y1 y2 y3) g' u0 u1 u2 u3 = w3 at *
  (refine wpOps_go rfl ?_; go_simp)
  refine wpOps_none ?_
  have hM := Lib.hid n2
  have hF := n2
  simp only [Mem, cellsAt, Nat.zero_add, Nat.reduceAdd, and_true] at hF
  clear n2
  clear hne1 hne2 hg1 hg2 HD1 HD2
  have hgs : w.heap.size ≤ w.heap.size + 1 := Nat.le_succ _
  cases lost
  all_goals
    simp only [Bool.true_or, Bool.false_or] at hov2
    subst hov2
    go_wp2_with (go_at_call 73; (with_reducible refine (HAdd.out _).mono ?_); rintro e w1 ⟨rfl, hb⟩; have hB : Below w.heap.size w w1 := (by refine bl_then ?_ hb; (repeat (first | exact hB | refine bl_al ?_ _ | refine Below.setCell ?_ (by first | exact hgs | exact Nat.le_succ_of_le hgs | exact hgs2 | exact hgs3) _ | refine Below.drew ?_ | refine bl_drewN ?_ _))); (first | with_reducible have hM2 := Mem.later hb (hM.out) | with_reducible have hM2 := Mem.later hb (Mem.al (hM.out) _ _) | with_reducible have hM2 := Mem.later hb (Mem.al (Mem.al (hM.out) _ _) _ _) | with_reducible have hM2 := Mem.later hb (Mem.al (Mem.al (Mem.al (hM.out) _ _) _ _) _ _) | with_reducible have hM2 := Mem.later hb (Mem.al (Mem.al (Mem.al (Mem.al (hM.out) _ _) _ _) _ _) _ _) | with_reducible have hM2 := Mem.later hb (Mem.drew (hM.out)) | with_reducible have hM2 := Mem.later hb (Mem.drew (Mem.al (hM.out) _ _)) | with_reducible have hM2 := Mem.later hb (Mem.al (Mem.drew (hM.out)) _ _) | with_reducible have hM2 := Mem.later hb (Mem.al (Mem.drew (Mem.al (hM.out) _ _)) _ _) | with_reducible have hM2 := Mem.later hb (Mem.drew (Mem.al (Mem.al (hM.out) _ _) _ _)) | with_reducible have hM2 := Mem.later hb (Mem.al (Mem.al (Mem.drew (hM.out)) _ _) _ _) | with_reducible have hM2 := Mem.later hb (Mem.drew (Mem.drew (hM.out))) | with_reducible have hM2 := Mem.later hb (Mem.drew (Mem.al (Mem.drew (hM.out)) _ _)) | with_reducible have hM2 := Mem.later hb (Mem.drew (Mem.al (Mem.al (Mem.al (hM.out) _ _) _ _) _ _)) | with_reducible have hM2 := Mem.later hb (Mem.al (Mem.al (Mem.drew (Mem.al (hM.out) _ _)) _ _) _ _) | with_reducible have hM2 := Mem.later hb (Mem.drew (Mem.al (Mem.drew (Mem.al (hM.out) _ _)) _ _)) | with_reducible have hM2 := Mem.later hb (Mem.al (Mem.al (Mem.al (Mem.al (Mem.al (hM.out) _ _) _ _) _ _) _ _) _ _) | with_reducible have hM2 := Mem.later hb (Mem.al (Mem.al (Mem.al (Mem.al (Mem.al (Mem.al (hM.out) _ _) _ _) _ _) _ _) _ _) _ _) | with_reducible have hM2 := Mem.later hb (Mem.al (Mem.al (Mem.al (Mem.al (Mem.al (Mem.al (Mem.al (hM.out) _ _) _ _) _ _) _ _) _ _) _ _) _ _) | with_reducible have hM2 := Mem.later hb (Mem.al (Mem.al (Mem.al (Mem.al (Mem.al (Mem.al (Mem.al (Mem.al (hM.out) _ _) _ _) _ _) _ _) _ _) _ _) _ _) _ _)); (try simp only [World.size_alloc, size_drew] at hM2); clear hM; have hM := Lib.hid hM2; clear hF; have hF := hM2; (try simp only [Mem, cellsAt, World.size_alloc, Nat.zero_add, Nat.reduceAdd, and_true] at hF); clear hM2; clear hb)
    refine bodyPost_ret (v := .tuple #[U4 x0 x1 x2 x3, .bool _]) (by simp [results, Tryz.results56, go_sem, hF]; rfl) rfl ?_
    exact ⟨rfl, by (repeat (first | exact hB | refine bl_al ?_ _ | refine Below.setCell ?_ (by first | exact hgs | exact Nat.le_succ_of_le hgs | exact hgs2 | exact hgs3) _ | refine Below.drew ?_ | refine bl_drewN ?_ _))⟩
end Go.Proofs.YtlhdfmaekbnhaaaGreatDoor

/- Package target: Scale (made by gen_tg5.py). (hM) -/
namespace Go.Proofs.YtlhdfmaekbnhaaaGreatDoor
set_option linter.unusedVariables false
set_option linter.unusedSimpArgs false
open Go.RowKit

/-- how many digits of two -/
def natLen (A : Int) : Nat := if A = 0 then 0 else Nat.log2 A.toNat + 1
theorem natLen_is {a0 a1 a2 a3 : Int} (ha : B4 a0 a1 a2 a3) : lenN a0 a1 a2 a3 = (natLen (N4 a0 a1 a2 a3) : Int) := by
  obtain ⟨L, hL, hL1, hL2, hL3⟩ := len_holds ha
  have hn := ha.nn
  rw [hL]
  unfold natLen
  by_cases hz : N4 a0 a1 a2 a3 = 0
  · rw [if_pos hz]
    rcases Nat.eq_zero_or_pos L with h | h
    · rw [h]
    · have := hL3 h
      have := two_pow_pos (L - 1)
      omega
  · rw [if_neg hz]
    have h0 : 0 < L := by
      rcases Nat.eq_zero_or_pos L with h | h
      · subst h; simp at hL2; omega
      · exact h
    obtain ⟨A, hA⟩ := Int.eq_ofNat_of_zero_le hn.1
    have h3 := hL3 h0
    rw [hA] at hL2 h3 ⊢
    have e1 : ((2 ^ L : Nat) : Int) = 2 ^ L := by simp
    have e2 : ((2 ^ (L - 1) : Nat) : Int) = 2 ^ (L - 1) := by simp
    have h4 : A < 2 ^ L := by omega
    have h5 : 2 ^ (L - 1) ≤ A := by omega
    have : Nat.log2 A = L - 1 := (Nat.log2_eq_iff (by omega)).2 ⟨h5, by rw [show L - 1 + 1 = L by omega]; exact h4⟩
    simp only [Int.toNat_natCast]
    rw [this]
    omega
/-- a target's bits -/
def shrI (X : Int) : Int := shrV X (natLen X)
theorem shrI_any {a0 a1 a2 a3 : Int} (ha : B4 a0 a1 a2 a3) (w : World) :
    Calls Tryz.prog 57 #[U4 a0 a1 a2 a3] w fun e w' => e = .returned (.int .u32 (shrI (N4 a0 a1 a2 a3))) ∧ Below w.heap.size w w' := shrink_any ha _ (natLen_is ha) w
def scaleV (b num den lim : Int) : Int :=
  if expOk b = true ∧ expOk lim = true ∧ num ≠ 0 ∧ den ≠ 0 then (if expV b * num / den = 0 ∨ expV lim < expV b * num / den then shrI (expV lim) else shrI (expV b * num / den)) else lim

set_option maxRecDepth 100000 in
set_option maxHeartbeats 4000000 in
theorem scale_any (b num den lim : Int) (hb : 0 ≤ b ∧ b < 4294967296) (hl : 0 ≤ lim ∧ lim < 4294967296) (hnum : 0 ≤ num ∧ num < WI) (hden : 0 ≤ den ∧ den < WI) (w : World) :
    Calls Tryz.prog 44 #[.int .u32 b, .int .u64 num, .int .u64 den, .int .u32 lim] w fun e w' => e = .returned (.int .u32 (scaleV b num den lim)) ∧ Below w.heap.size w w' := by
  obtain ⟨t0, t1, t2, t3, e, ht, hte⟩ := exp_ex b hb
  obtain ⟨l0, l1, l2, l3, f, hlB, hlf⟩ := exp_ex lim hl
  have HE1 := Lib.hid (fun w => exp_any b hb ht e hte w)
  have HE2 := Lib.hid (fun w => exp_any lim hl hlB f hlf w)
  have hB := Below.refl w.heap.size w
  have hM := Lib.hid (mem_nil w)
  have hF : True := trivial
  rcases hte with ⟨hok, htn, rfl⟩ | ⟨hok, htn, rfl⟩
  case inr =>
    have hv : scaleV b num den lim = lim := if_neg (by rw [hok]; simp)
    rw [hv]
    clear hv ht hlB hlf htn hok hb hl hnum hden
    go_enter Tryz.func44, Tryz.ntmps44
    go_wp2_with (go_at_call 20; first | ((with_reducible refine (HE1.out _).mono ?_); rintro e w1 ⟨rfl, hb⟩; have hB : Below w.heap.size w w1 := (by refine bl_then ?_ hb; (repeat (first | exact hB | refine bl_al ?_ _ | refine Below.setCell ?_ (by first | exact hgs | exact Nat.le_succ_of_le hgs | exact hgs2 | exact hgs3) _ | refine Below.drew ?_ | refine bl_drewN ?_ _))); (first | with_reducible have hM2 := Mem.later hb (hM.out) | with_reducible have hM2 := Mem.later hb (Mem.al (hM.out) _ _) | with_reducible have hM2 := Mem.later hb (Mem.al (Mem.al (hM.out) _ _) _ _) | with_reducible have hM2 := Mem.later hb (Mem.al (Mem.al (Mem.al (hM.out) _ _) _ _) _ _) | with_reducible have hM2 := Mem.later hb (Mem.al (Mem.al (Mem.al (Mem.al (hM.out) _ _) _ _) _ _) _ _) | with_reducible have hM2 := Mem.later hb (Mem.drew (hM.out)) | with_reducible have hM2 := Mem.later hb (Mem.drew (Mem.al (hM.out) _ _)) | with_reducible have hM2 := Mem.later hb (Mem.al (Mem.drew (hM.out)) _ _) | with_reducible have hM2 := Mem.later hb (Mem.al (Mem.drew (Mem.al (hM.out) _ _)) _ _) | with_reducible have hM2 := Mem.later hb (Mem.drew (Mem.al (Mem.al (hM.out) _ _) _ _)) | with_reducible have hM2 := Mem.later hb (Mem.al (Mem.al (Mem.drew (hM.out)) _ _) _ _) | with_reducible have hM2 := Mem.later hb (Mem.drew (Mem.drew (hM.out))) | with_reducible have hM2 := Mem.later hb (Mem.drew (Mem.al (Mem.drew (hM.out)) _ _)) | with_reducible have hM2 := Mem.later hb (Mem.drew (Mem.al (Mem.al (Mem.al (hM.out) _ _) _ _) _ _)) | with_reducible have hM2 := Mem.later hb (Mem.al (Mem.al (Mem.drew (Mem.al (hM.out) _ _)) _ _) _ _) | with_reducible have hM2 := Mem.later hb (Mem.drew (Mem.al (Mem.drew (Mem.al (hM.out) _ _)) _ _)) | with_reducible have hM2 := Mem.later hb (Mem.al (Mem.al (Mem.al (Mem.al (Mem.al (hM.out) _ _) _ _) _ _) _ _) _ _) | with_reducible have hM2 := Mem.later hb (Mem.al (Mem.al (Mem.al (Mem.al (Mem.al (Mem.al (hM.out) _ _) _ _) _ _) _ _) _ _) _ _) | with_reducible have hM2 := Mem.later hb (Mem.al (Mem.al (Mem.al (Mem.al (Mem.al (Mem.al (Mem.al (hM.out) _ _) _ _) _ _) _ _) _ _) _ _) _ _) | with_reducible have hM2 := Mem.later hb (Mem.al (Mem.al (Mem.al (Mem.al (Mem.al (Mem.al (Mem.al (Mem.al (hM.out) _ _) _ _) _ _) _ _) _ _) _ _) _ _) _ _)); (try simp only [World.size_alloc, size_drew] at hM2); clear hM; have hM := Lib.hid hM2; clear hF; have hF := hM2; (try simp only [Mem, cellsAt, World.size_alloc, Nat.zero_add, Nat.reduceAdd, and_true] at hF); clear hM2; clear hb) | ((with_reducible refine (HE2.out _).mono ?_); rintro e w1 ⟨rfl, hb⟩; have hB : Below w.heap.size w w1 := (by refine bl_then ?_ hb; (repeat (first | exact hB | refine bl_al ?_ _ | refine Below.setCell ?_ (by first | exact hgs | exact Nat.le_succ_of_le hgs | exact hgs2 | exact hgs3) _ | refine Below.drew ?_ | refine bl_drewN ?_ _))); (first | with_reducible have hM2 := Mem.later hb (hM.out) | with_reducible have hM2 := Mem.later hb (Mem.al (hM.out) _ _) | with_reducible have hM2 := Mem.later hb (Mem.al (Mem.al (hM.out) _ _) _ _) | with_reducible have hM2 := Mem.later hb (Mem.al (Mem.al (Mem.al (hM.out) _ _) _ _) _ _) | with_reducible have hM2 := Mem.later hb (Mem.al (Mem.al (Mem.al (Mem.al (hM.out) _ _) _ _) _ _) _ _) | with_reducible have hM2 := Mem.later hb (Mem.drew (hM.out)) | with_reducible have hM2 := Mem.later hb (Mem.drew (Mem.al (hM.out) _ _)) | with_reducible have hM2 := Mem.later hb (Mem.al (Mem.drew (hM.out)) _ _) | with_reducible have hM2 := Mem.later hb (Mem.al (Mem.drew (Mem.al (hM.out) _ _)) _ _) | with_reducible have hM2 := Mem.later hb (Mem.drew (Mem.al (Mem.al (hM.out) _ _) _ _)) | with_reducible have hM2 := Mem.later hb (Mem.al (Mem.al (Mem.drew (hM.out)) _ _) _ _) | with_reducible have hM2 := Mem.later hb (Mem.drew (Mem.drew (hM.out))) | with_reducible have hM2 := Mem.later hb (Mem.drew (Mem.al (Mem.drew (hM.out)) _ _)) | with_reducible have hM2 := Mem.later hb (Mem.drew (Mem.al (Mem.al (Mem.al (hM.out) _ _) _ _) _ _)) | with_reducible have hM2 := Mem.later hb (Mem.al (Mem.al (Mem.drew (Mem.al (hM.out) _ _)) _ _) _ _) | with_reducible have hM2 := Mem.later hb (Mem.drew (Mem.al (Mem.drew (Mem.al (hM.out) _ _)) _ _)) | with_reducible have hM2 := Mem.later hb (Mem.al (Mem.al (Mem.al (Mem.al (Mem.al (hM.out) _ _) _ _) _ _) _ _) _ _) | with_reducible have hM2 := Mem.later hb (Mem.al (Mem.al (Mem.al (Mem.al (Mem.al (Mem.al (hM.out) _ _) _ _) _ _) _ _) _ _) _ _) | with_reducible have hM2 := Mem.later hb (Mem.al (Mem.al (Mem.al (Mem.al (Mem.al (Mem.al (Mem.al (hM.out) _ _) _ _) _ _) _ _) _ _) _ _) _ _) | with_reducible have hM2 := Mem.later hb (Mem.al (Mem.al (Mem.al (Mem.al (Mem.al (Mem.al (Mem.al (Mem.al (hM.out) _ _) _ _) _ _) _ _) _ _) _ _) _ _) _ _)); (try simp only [World.size_alloc, size_drew] at hM2); clear hM; have hM := Lib.hid hM2; clear hF; have hF := hM2; (try simp only [Mem, cellsAt, World.size_alloc, Nat.zero_add, Nat.reduceAdd, and_true] at hF); clear hM2; clear hb))
    all_goals
      go_ret
      exact ⟨rfl, by (repeat (first | exact hB | refine bl_al ?_ _ | refine Below.setCell ?_ (by first | exact hgs | exact Nat.le_succ_of_le hgs | exact hgs2 | exact hgs3) _ | refine Below.drew ?_ | refine bl_drewN ?_ _))⟩
  rcases hlf with ⟨hok2, hln, rfl⟩ | ⟨hok2, hln, rfl⟩
  case inr =>
    have hv : scaleV b num den lim = lim := if_neg (by rw [hok2]; simp)
    rw [hv]
    clear hv ht hlB hln htn hok hok2 hb hl hnum hden
    go_enter Tryz.func44, Tryz.ntmps44
    go_wp2_with (go_at_call 20; first | ((with_reducible refine (HE1.out _).mono ?_); rintro e w1 ⟨rfl, hb⟩; have hB : Below w.heap.size w w1 := (by refine bl_then ?_ hb; (repeat (first | exact hB | refine bl_al ?_ _ | refine Below.setCell ?_ (by first | exact hgs | exact Nat.le_succ_of_le hgs | exact hgs2 | exact hgs3) _ | refine Below.drew ?_ | refine bl_drewN ?_ _))); (first | with_reducible have hM2 := Mem.later hb (hM.out) | with_reducible have hM2 := Mem.later hb (Mem.al (hM.out) _ _) | with_reducible have hM2 := Mem.later hb (Mem.al (Mem.al (hM.out) _ _) _ _) | with_reducible have hM2 := Mem.later hb (Mem.al (Mem.al (Mem.al (hM.out) _ _) _ _) _ _) | with_reducible have hM2 := Mem.later hb (Mem.al (Mem.al (Mem.al (Mem.al (hM.out) _ _) _ _) _ _) _ _) | with_reducible have hM2 := Mem.later hb (Mem.drew (hM.out)) | with_reducible have hM2 := Mem.later hb (Mem.drew (Mem.al (hM.out) _ _)) | with_reducible have hM2 := Mem.later hb (Mem.al (Mem.drew (hM.out)) _ _) | with_reducible have hM2 := Mem.later hb (Mem.al (Mem.drew (Mem.al (hM.out) _ _)) _ _) | with_reducible have hM2 := Mem.later hb (Mem.drew (Mem.al (Mem.al (hM.out) _ _) _ _)) | with_reducible have hM2 := Mem.later hb (Mem.al (Mem.al (Mem.drew (hM.out)) _ _) _ _) | with_reducible have hM2 := Mem.later hb (Mem.drew (Mem.drew (hM.out))) | with_reducible have hM2 := Mem.later hb (Mem.drew (Mem.al (Mem.drew (hM.out)) _ _)) | with_reducible have hM2 := Mem.later hb (Mem.drew (Mem.al (Mem.al (Mem.al (hM.out) _ _) _ _) _ _)) | with_reducible have hM2 := Mem.later hb (Mem.al (Mem.al (Mem.drew (Mem.al (hM.out) _ _)) _ _) _ _) | with_reducible have hM2 := Mem.later hb (Mem.drew (Mem.al (Mem.drew (Mem.al (hM.out) _ _)) _ _)) | with_reducible have hM2 := Mem.later hb (Mem.al (Mem.al (Mem.al (Mem.al (Mem.al (hM.out) _ _) _ _) _ _) _ _) _ _) | with_reducible have hM2 := Mem.later hb (Mem.al (Mem.al (Mem.al (Mem.al (Mem.al (Mem.al (hM.out) _ _) _ _) _ _) _ _) _ _) _ _) | with_reducible have hM2 := Mem.later hb (Mem.al (Mem.al (Mem.al (Mem.al (Mem.al (Mem.al (Mem.al (hM.out) _ _) _ _) _ _) _ _) _ _) _ _) _ _) | with_reducible have hM2 := Mem.later hb (Mem.al (Mem.al (Mem.al (Mem.al (Mem.al (Mem.al (Mem.al (Mem.al (hM.out) _ _) _ _) _ _) _ _) _ _) _ _) _ _) _ _)); (try simp only [World.size_alloc, size_drew] at hM2); clear hM; have hM := Lib.hid hM2; clear hF; have hF := hM2; (try simp only [Mem, cellsAt, World.size_alloc, Nat.zero_add, Nat.reduceAdd, and_true] at hF); clear hM2; clear hb) | ((with_reducible refine (HE2.out _).mono ?_); rintro e w1 ⟨rfl, hb⟩; have hB : Below w.heap.size w w1 := (by refine bl_then ?_ hb; (repeat (first | exact hB | refine bl_al ?_ _ | refine Below.setCell ?_ (by first | exact hgs | exact Nat.le_succ_of_le hgs | exact hgs2 | exact hgs3) _ | refine Below.drew ?_ | refine bl_drewN ?_ _))); (first | with_reducible have hM2 := Mem.later hb (hM.out) | with_reducible have hM2 := Mem.later hb (Mem.al (hM.out) _ _) | with_reducible have hM2 := Mem.later hb (Mem.al (Mem.al (hM.out) _ _) _ _) | with_reducible have hM2 := Mem.later hb (Mem.al (Mem.al (Mem.al (hM.out) _ _) _ _) _ _) | with_reducible have hM2 := Mem.later hb (Mem.al (Mem.al (Mem.al (Mem.al (hM.out) _ _) _ _) _ _) _ _) | with_reducible have hM2 := Mem.later hb (Mem.drew (hM.out)) | with_reducible have hM2 := Mem.later hb (Mem.drew (Mem.al (hM.out) _ _)) | with_reducible have hM2 := Mem.later hb (Mem.al (Mem.drew (hM.out)) _ _) | with_reducible have hM2 := Mem.later hb (Mem.al (Mem.drew (Mem.al (hM.out) _ _)) _ _) | with_reducible have hM2 := Mem.later hb (Mem.drew (Mem.al (Mem.al (hM.out) _ _) _ _)) | with_reducible have hM2 := Mem.later hb (Mem.al (Mem.al (Mem.drew (hM.out)) _ _) _ _) | with_reducible have hM2 := Mem.later hb (Mem.drew (Mem.drew (hM.out))) | with_reducible have hM2 := Mem.later hb (Mem.drew (Mem.al (Mem.drew (hM.out)) _ _)) | with_reducible have hM2 := Mem.later hb (Mem.drew (Mem.al (Mem.al (Mem.al (hM.out) _ _) _ _) _ _)) | with_reducible have hM2 := Mem.later hb (Mem.al (Mem.al (Mem.drew (Mem.al (hM.out) _ _)) _ _) _ _) | with_reducible have hM2 := Mem.later hb (Mem.drew (Mem.al (Mem.drew (Mem.al (hM.out) _ _)) _ _)) | with_reducible have hM2 := Mem.later hb (Mem.al (Mem.al (Mem.al (Mem.al (Mem.al (hM.out) _ _) _ _) _ _) _ _) _ _) | with_reducible have hM2 := Mem.later hb (Mem.al (Mem.al (Mem.al (Mem.al (Mem.al (Mem.al (hM.out) _ _) _ _) _ _) _ _) _ _) _ _) | with_reducible have hM2 := Mem.later hb (Mem.al (Mem.al (Mem.al (Mem.al (Mem.al (Mem.al (Mem.al (hM.out) _ _) _ _) _ _) _ _) _ _) _ _) _ _) | with_reducible have hM2 := Mem.later hb (Mem.al (Mem.al (Mem.al (Mem.al (Mem.al (Mem.al (Mem.al (Mem.al (hM.out) _ _) _ _) _ _) _ _) _ _) _ _) _ _) _ _)); (try simp only [World.size_alloc, size_drew] at hM2); clear hM; have hM := Lib.hid hM2; clear hF; have hF := hM2; (try simp only [Mem, cellsAt, World.size_alloc, Nat.zero_add, Nat.reduceAdd, and_true] at hF); clear hM2; clear hb))
    all_goals
      go_ret
      exact ⟨rfl, by (repeat (first | exact hB | refine bl_al ?_ _ | refine Below.setCell ?_ (by first | exact hgs | exact Nat.le_succ_of_le hgs | exact hgs2 | exact hgs3) _ | refine Below.drew ?_ | refine bl_drewN ?_ _))⟩
  by_cases hn0 : num = 0
  · subst hn0
    have hv : scaleV b 0 den lim = lim := if_neg (by simp)
    rw [hv]
    clear hv ht hlB hln htn hok hok2 hb hl hnum hden
    go_enter Tryz.func44, Tryz.ntmps44
    go_wp2_with (go_at_call 20; first | ((with_reducible refine (HE1.out _).mono ?_); rintro e w1 ⟨rfl, hb⟩; have hB : Below w.heap.size w w1 := (by refine bl_then ?_ hb; (repeat (first | exact hB | refine bl_al ?_ _ | refine Below.setCell ?_ (by first | exact hgs | exact Nat.le_succ_of_le hgs | exact hgs2 | exact hgs3) _ | refine Below.drew ?_ | refine bl_drewN ?_ _))); (first | with_reducible have hM2 := Mem.later hb (hM.out) | with_reducible have hM2 := Mem.later hb (Mem.al (hM.out) _ _) | with_reducible have hM2 := Mem.later hb (Mem.al (Mem.al (hM.out) _ _) _ _) | with_reducible have hM2 := Mem.later hb (Mem.al (Mem.al (Mem.al (hM.out) _ _) _ _) _ _) | with_reducible have hM2 := Mem.later hb (Mem.al (Mem.al (Mem.al (Mem.al (hM.out) _ _) _ _) _ _) _ _) | with_reducible have hM2 := Mem.later hb (Mem.drew (hM.out)) | with_reducible have hM2 := Mem.later hb (Mem.drew (Mem.al (hM.out) _ _)) | with_reducible have hM2 := Mem.later hb (Mem.al (Mem.drew (hM.out)) _ _) | with_reducible have hM2 := Mem.later hb (Mem.al (Mem.drew (Mem.al (hM.out) _ _)) _ _) | with_reducible have hM2 := Mem.later hb (Mem.drew (Mem.al (Mem.al (hM.out) _ _) _ _)) | with_reducible have hM2 := Mem.later hb (Mem.al (Mem.al (Mem.drew (hM.out)) _ _) _ _) | with_reducible have hM2 := Mem.later hb (Mem.drew (Mem.drew (hM.out))) | with_reducible have hM2 := Mem.later hb (Mem.drew (Mem.al (Mem.drew (hM.out)) _ _)) | with_reducible have hM2 := Mem.later hb (Mem.drew (Mem.al (Mem.al (Mem.al (hM.out) _ _) _ _) _ _)) | with_reducible have hM2 := Mem.later hb (Mem.al (Mem.al (Mem.drew (Mem.al (hM.out) _ _)) _ _) _ _) | with_reducible have hM2 := Mem.later hb (Mem.drew (Mem.al (Mem.drew (Mem.al (hM.out) _ _)) _ _)) | with_reducible have hM2 := Mem.later hb (Mem.al (Mem.al (Mem.al (Mem.al (Mem.al (hM.out) _ _) _ _) _ _) _ _) _ _) | with_reducible have hM2 := Mem.later hb (Mem.al (Mem.al (Mem.al (Mem.al (Mem.al (Mem.al (hM.out) _ _) _ _) _ _) _ _) _ _) _ _) | with_reducible have hM2 := Mem.later hb (Mem.al (Mem.al (Mem.al (Mem.al (Mem.al (Mem.al (Mem.al (hM.out) _ _) _ _) _ _) _ _) _ _) _ _) _ _) | with_reducible have hM2 := Mem.later hb (Mem.al (Mem.al (Mem.al (Mem.al (Mem.al (Mem.al (Mem.al (Mem.al (hM.out) _ _) _ _) _ _) _ _) _ _) _ _) _ _) _ _)); (try simp only [World.size_alloc, size_drew] at hM2); clear hM; have hM := Lib.hid hM2; clear hF; have hF := hM2; (try simp only [Mem, cellsAt, World.size_alloc, Nat.zero_add, Nat.reduceAdd, and_true] at hF); clear hM2; clear hb) | ((with_reducible refine (HE2.out _).mono ?_); rintro e w1 ⟨rfl, hb⟩; have hB : Below w.heap.size w w1 := (by refine bl_then ?_ hb; (repeat (first | exact hB | refine bl_al ?_ _ | refine Below.setCell ?_ (by first | exact hgs | exact Nat.le_succ_of_le hgs | exact hgs2 | exact hgs3) _ | refine Below.drew ?_ | refine bl_drewN ?_ _))); (first | with_reducible have hM2 := Mem.later hb (hM.out) | with_reducible have hM2 := Mem.later hb (Mem.al (hM.out) _ _) | with_reducible have hM2 := Mem.later hb (Mem.al (Mem.al (hM.out) _ _) _ _) | with_reducible have hM2 := Mem.later hb (Mem.al (Mem.al (Mem.al (hM.out) _ _) _ _) _ _) | with_reducible have hM2 := Mem.later hb (Mem.al (Mem.al (Mem.al (Mem.al (hM.out) _ _) _ _) _ _) _ _) | with_reducible have hM2 := Mem.later hb (Mem.drew (hM.out)) | with_reducible have hM2 := Mem.later hb (Mem.drew (Mem.al (hM.out) _ _)) | with_reducible have hM2 := Mem.later hb (Mem.al (Mem.drew (hM.out)) _ _) | with_reducible have hM2 := Mem.later hb (Mem.al (Mem.drew (Mem.al (hM.out) _ _)) _ _) | with_reducible have hM2 := Mem.later hb (Mem.drew (Mem.al (Mem.al (hM.out) _ _) _ _)) | with_reducible have hM2 := Mem.later hb (Mem.al (Mem.al (Mem.drew (hM.out)) _ _) _ _) | with_reducible have hM2 := Mem.later hb (Mem.drew (Mem.drew (hM.out))) | with_reducible have hM2 := Mem.later hb (Mem.drew (Mem.al (Mem.drew (hM.out)) _ _)) | with_reducible have hM2 := Mem.later hb (Mem.drew (Mem.al (Mem.al (Mem.al (hM.out) _ _) _ _) _ _)) | with_reducible have hM2 := Mem.later hb (Mem.al (Mem.al (Mem.drew (Mem.al (hM.out) _ _)) _ _) _ _) | with_reducible have hM2 := Mem.later hb (Mem.drew (Mem.al (Mem.drew (Mem.al (hM.out) _ _)) _ _)) | with_reducible have hM2 := Mem.later hb (Mem.al (Mem.al (Mem.al (Mem.al (Mem.al (hM.out) _ _) _ _) _ _) _ _) _ _) | with_reducible have hM2 := Mem.later hb (Mem.al (Mem.al (Mem.al (Mem.al (Mem.al (Mem.al (hM.out) _ _) _ _) _ _) _ _) _ _) _ _) | with_reducible have hM2 := Mem.later hb (Mem.al (Mem.al (Mem.al (Mem.al (Mem.al (Mem.al (Mem.al (hM.out) _ _) _ _) _ _) _ _) _ _) _ _) _ _) | with_reducible have hM2 := Mem.later hb (Mem.al (Mem.al (Mem.al (Mem.al (Mem.al (Mem.al (Mem.al (Mem.al (hM.out) _ _) _ _) _ _) _ _) _ _) _ _) _ _) _ _)); (try simp only [World.size_alloc, size_drew] at hM2); clear hM; have hM := Lib.hid hM2; clear hF; have hF := hM2; (try simp only [Mem, cellsAt, World.size_alloc, Nat.zero_add, Nat.reduceAdd, and_true] at hF); clear hM2; clear hb))
    all_goals
      go_ret
      exact ⟨rfl, by (repeat (first | exact hB | refine bl_al ?_ _ | refine Below.setCell ?_ (by first | exact hgs | exact Nat.le_succ_of_le hgs | exact hgs2 | exact hgs3) _ | refine Below.drew ?_ | refine bl_drewN ?_ _))⟩
  by_cases hd0 : den = 0
  · subst hd0
    have hv : scaleV b num 0 lim = lim := if_neg (by simp)
    rw [hv]
    have hn1 : (num == 0) = false := by simpa using hn0
    clear hv ht hlB hln htn hok hok2 hb hl hnum hden
    go_enter Tryz.func44, Tryz.ntmps44
    go_wp2_with (go_at_call 20; first | ((with_reducible refine (HE1.out _).mono ?_); rintro e w1 ⟨rfl, hb⟩; have hB : Below w.heap.size w w1 := (by refine bl_then ?_ hb; (repeat (first | exact hB | refine bl_al ?_ _ | refine Below.setCell ?_ (by first | exact hgs | exact Nat.le_succ_of_le hgs | exact hgs2 | exact hgs3) _ | refine Below.drew ?_ | refine bl_drewN ?_ _))); (first | with_reducible have hM2 := Mem.later hb (hM.out) | with_reducible have hM2 := Mem.later hb (Mem.al (hM.out) _ _) | with_reducible have hM2 := Mem.later hb (Mem.al (Mem.al (hM.out) _ _) _ _) | with_reducible have hM2 := Mem.later hb (Mem.al (Mem.al (Mem.al (hM.out) _ _) _ _) _ _) | with_reducible have hM2 := Mem.later hb (Mem.al (Mem.al (Mem.al (Mem.al (hM.out) _ _) _ _) _ _) _ _) | with_reducible have hM2 := Mem.later hb (Mem.drew (hM.out)) | with_reducible have hM2 := Mem.later hb (Mem.drew (Mem.al (hM.out) _ _)) | with_reducible have hM2 := Mem.later hb (Mem.al (Mem.drew (hM.out)) _ _) | with_reducible have hM2 := Mem.later hb (Mem.al (Mem.drew (Mem.al (hM.out) _ _)) _ _) | with_reducible have hM2 := Mem.later hb (Mem.drew (Mem.al (Mem.al (hM.out) _ _) _ _)) | with_reducible have hM2 := Mem.later hb (Mem.al (Mem.al (Mem.drew (hM.out)) _ _) _ _) | with_reducible have hM2 := Mem.later hb (Mem.drew (Mem.drew (hM.out))) | with_reducible have hM2 := Mem.later hb (Mem.drew (Mem.al (Mem.drew (hM.out)) _ _)) | with_reducible have hM2 := Mem.later hb (Mem.drew (Mem.al (Mem.al (Mem.al (hM.out) _ _) _ _) _ _)) | with_reducible have hM2 := Mem.later hb (Mem.al (Mem.al (Mem.drew (Mem.al (hM.out) _ _)) _ _) _ _) | with_reducible have hM2 := Mem.later hb (Mem.drew (Mem.al (Mem.drew (Mem.al (hM.out) _ _)) _ _)) | with_reducible have hM2 := Mem.later hb (Mem.al (Mem.al (Mem.al (Mem.al (Mem.al (hM.out) _ _) _ _) _ _) _ _) _ _) | with_reducible have hM2 := Mem.later hb (Mem.al (Mem.al (Mem.al (Mem.al (Mem.al (Mem.al (hM.out) _ _) _ _) _ _) _ _) _ _) _ _) | with_reducible have hM2 := Mem.later hb (Mem.al (Mem.al (Mem.al (Mem.al (Mem.al (Mem.al (Mem.al (hM.out) _ _) _ _) _ _) _ _) _ _) _ _) _ _) | with_reducible have hM2 := Mem.later hb (Mem.al (Mem.al (Mem.al (Mem.al (Mem.al (Mem.al (Mem.al (Mem.al (hM.out) _ _) _ _) _ _) _ _) _ _) _ _) _ _) _ _)); (try simp only [World.size_alloc, size_drew] at hM2); clear hM; have hM := Lib.hid hM2; clear hF; have hF := hM2; (try simp only [Mem, cellsAt, World.size_alloc, Nat.zero_add, Nat.reduceAdd, and_true] at hF); clear hM2; clear hb) | ((with_reducible refine (HE2.out _).mono ?_); rintro e w1 ⟨rfl, hb⟩; have hB : Below w.heap.size w w1 := (by refine bl_then ?_ hb; (repeat (first | exact hB | refine bl_al ?_ _ | refine Below.setCell ?_ (by first | exact hgs | exact Nat.le_succ_of_le hgs | exact hgs2 | exact hgs3) _ | refine Below.drew ?_ | refine bl_drewN ?_ _))); (first | with_reducible have hM2 := Mem.later hb (hM.out) | with_reducible have hM2 := Mem.later hb (Mem.al (hM.out) _ _) | with_reducible have hM2 := Mem.later hb (Mem.al (Mem.al (hM.out) _ _) _ _) | with_reducible have hM2 := Mem.later hb (Mem.al (Mem.al (Mem.al (hM.out) _ _) _ _) _ _) | with_reducible have hM2 := Mem.later hb (Mem.al (Mem.al (Mem.al (Mem.al (hM.out) _ _) _ _) _ _) _ _) | with_reducible have hM2 := Mem.later hb (Mem.drew (hM.out)) | with_reducible have hM2 := Mem.later hb (Mem.drew (Mem.al (hM.out) _ _)) | with_reducible have hM2 := Mem.later hb (Mem.al (Mem.drew (hM.out)) _ _) | with_reducible have hM2 := Mem.later hb (Mem.al (Mem.drew (Mem.al (hM.out) _ _)) _ _) | with_reducible have hM2 := Mem.later hb (Mem.drew (Mem.al (Mem.al (hM.out) _ _) _ _)) | with_reducible have hM2 := Mem.later hb (Mem.al (Mem.al (Mem.drew (hM.out)) _ _) _ _) | with_reducible have hM2 := Mem.later hb (Mem.drew (Mem.drew (hM.out))) | with_reducible have hM2 := Mem.later hb (Mem.drew (Mem.al (Mem.drew (hM.out)) _ _)) | with_reducible have hM2 := Mem.later hb (Mem.drew (Mem.al (Mem.al (Mem.al (hM.out) _ _) _ _) _ _)) | with_reducible have hM2 := Mem.later hb (Mem.al (Mem.al (Mem.drew (Mem.al (hM.out) _ _)) _ _) _ _) | with_reducible have hM2 := Mem.later hb (Mem.drew (Mem.al (Mem.drew (Mem.al (hM.out) _ _)) _ _)) | with_reducible have hM2 := Mem.later hb (Mem.al (Mem.al (Mem.al (Mem.al (Mem.al (hM.out) _ _) _ _) _ _) _ _) _ _) | with_reducible have hM2 := Mem.later hb (Mem.al (Mem.al (Mem.al (Mem.al (Mem.al (Mem.al (hM.out) _ _) _ _) _ _) _ _) _ _) _ _) | with_reducible have hM2 := Mem.later hb (Mem.al (Mem.al (Mem.al (Mem.al (Mem.al (Mem.al (Mem.al (hM.out) _ _) _ _) _ _) _ _) _ _) _ _) _ _) | with_reducible have hM2 := Mem.later hb (Mem.al (Mem.al (Mem.al (Mem.al (Mem.al (Mem.al (Mem.al (Mem.al (hM.out) _ _) _ _) _ _) _ _) _ _) _ _) _ _) _ _)); (try simp only [World.size_alloc, size_drew] at hM2); clear hM; have hM := Lib.hid hM2; clear hF; have hF := hM2; (try simp only [Mem, cellsAt, World.size_alloc, Nat.zero_add, Nat.reduceAdd, and_true] at hF); clear hM2; clear hb))
    all_goals
      go_ret
      exact ⟨rfl, by (repeat (first | exact hB | refine bl_al ?_ _ | refine Below.setCell ?_ (by first | exact hgs | exact Nat.le_succ_of_le hgs | exact hgs2 | exact hgs3) _ | refine Below.drew ?_ | refine bl_drewN ?_ _))⟩
  have hsm := exp_small b hb hok
  have hsm2 := exp_small lim hl hok2
  obtain ⟨R, hR⟩ : ∃ R, expV b * num / den = R := ⟨_, rfl⟩
  have hR0 : 0 ≤ R := by rw [← hR]; exact Int.ediv_nonneg (Int.mul_nonneg (by omega) hnum.1) hden.1
  obtain ⟨s0, s1, s2, s3, hs, hsn⟩ := b4_of (R % WW) ⟨Int.emod_nonneg _ (by decide), Int.emod_lt_of_pos _ (by decide)⟩
  obtain ⟨ov, hov⟩ : ∃ z, decide (WW ≤ R) = z := ⟨_, rfl⟩
  have HRat := Lib.hid (fun w => ratio_any ht num den hnum ⟨by omega, hden.2⟩ hs (by rw [htn, hR]; exact hsn) ov (by rw [htn, hR]; exact hov) w)
  obtain ⟨z, hz⟩ : ∃ z, decide (N4 s0 s1 s2 s3 = 0) = z := ⟨_, rfl⟩
  have hE := eq_n hs b4_zero
  rw [n4_zero, hz] at hE
  obtain ⟨kc, hkc⟩ : ∃ z, cmpN (N4 s0 s1 s2 s3) (N4 l0 l1 l2 l3) = z := ⟨_, rfl⟩
  have HCmp := Lib.hid (fun w => hkc ▸ cmp_n hs hlB w)
  obtain ⟨gt, hgt⟩ : ∃ z, decide (0 < kc) = z := ⟨_, rfl⟩
  have HS1 := Lib.hid (fun w => shrI_any hlB w)
  have HS2 := Lib.hid (fun w => shrI_any hs w)
  have hres : (scaleV b num den lim = shrI (N4 l0 l1 l2 l3) ∧ (ov = true ∨ (ov = false ∧ z = true) ∨ (ov = false ∧ z = false ∧ gt = true))) ∨ (scaleV b num den lim = shrI (N4 s0 s1 s2 s3) ∧ ov = false ∧ z = false ∧ gt = false) := by
    have hv : scaleV b num den lim = if R = 0 ∨ expV lim < R then shrI (expV lim) else shrI R := by
      unfold scaleV
      rw [if_pos ⟨hok, hok2, hn0, hd0⟩, hR]
    rw [hv, hln]
    cases ov with
    | true =>
      have h1 : WW ≤ R := by simpa using hov
      exact .inl ⟨if_pos (by omega), .inl rfl⟩
    | false =>
      have h1 : ¬ WW ≤ R := by simpa using hov
      have h2 : N4 s0 s1 s2 s3 = R := by rw [hsn]; exact Int.emod_eq_of_lt hR0 (by omega)
      rw [h2] at hz hkc ⊢
      cases z with
      | true =>
        have h3 : R = 0 := by simpa using hz
        exact .inl ⟨if_pos (by omega), .inr (.inl ⟨rfl, rfl⟩)⟩
      | false =>
        have h3 : ¬ R = 0 := by simpa using hz
        rw [hln] at hkc
        cases gt with
        | true =>
          have h4 : 0 < kc := by simpa using hgt
          have h5 : expV lim < R := by
            rw [← hkc] at h4
            unfold cmpN at h4
            split at h4 <;> (try split at h4) <;> omega
          exact .inl ⟨if_pos (by omega), .inr (.inr ⟨rfl, rfl, rfl⟩)⟩
        | false =>
          have h4 : ¬ 0 < kc := by simpa using hgt
          have h5 : ¬ expV lim < R := by
            rw [← hkc] at h4
            unfold cmpN at h4
            split at h4 <;> (try split at h4) <;> omega
          exact .inr ⟨if_neg (by omega), rfl, rfl, rfl⟩
  have hn1 : (num == 0) = false := by simpa using hn0
  have hd1 : (den == 0) = false := by simpa using hd0
  clear ht hlB hln htn hok hok2 hb hl hnum hden hsm hsm2 hR hR0 hs hsn hov hz hkc
  rcases hres with ⟨hv, rfl | ⟨rfl, rfl⟩ | ⟨rfl, rfl, rfl⟩⟩ | ⟨hv, rfl, rfl, rfl⟩
  all_goals
    rw [hv]
    clear hv
    go_enter Tryz.func44, Tryz.ntmps44
    go_wp2_with (first | (go_at_call 20; first | ((with_reducible refine (HE1.out _).mono ?_); rintro e w1 ⟨rfl, hb⟩; have hB : Below w.heap.size w w1 := (by refine bl_then ?_ hb; (repeat (first | exact hB | refine bl_al ?_ _ | refine Below.setCell ?_ (by first | exact hgs | exact Nat.le_succ_of_le hgs | exact hgs2 | exact hgs3) _ | refine Below.drew ?_ | refine bl_drewN ?_ _))); (first | with_reducible have hM2 := Mem.later hb (hM.out) | with_reducible have hM2 := Mem.later hb (Mem.al (hM.out) _ _) | with_reducible have hM2 := Mem.later hb (Mem.al (Mem.al (hM.out) _ _) _ _) | with_reducible have hM2 := Mem.later hb (Mem.al (Mem.al (Mem.al (hM.out) _ _) _ _) _ _) | with_reducible have hM2 := Mem.later hb (Mem.al (Mem.al (Mem.al (Mem.al (hM.out) _ _) _ _) _ _) _ _) | with_reducible have hM2 := Mem.later hb (Mem.drew (hM.out)) | with_reducible have hM2 := Mem.later hb (Mem.drew (Mem.al (hM.out) _ _)) | with_reducible have hM2 := Mem.later hb (Mem.al (Mem.drew (hM.out)) _ _) | with_reducible have hM2 := Mem.later hb (Mem.al (Mem.drew (Mem.al (hM.out) _ _)) _ _) | with_reducible have hM2 := Mem.later hb (Mem.drew (Mem.al (Mem.al (hM.out) _ _) _ _)) | with_reducible have hM2 := Mem.later hb (Mem.al (Mem.al (Mem.drew (hM.out)) _ _) _ _) | with_reducible have hM2 := Mem.later hb (Mem.drew (Mem.drew (hM.out))) | with_reducible have hM2 := Mem.later hb (Mem.drew (Mem.al (Mem.drew (hM.out)) _ _)) | with_reducible have hM2 := Mem.later hb (Mem.drew (Mem.al (Mem.al (Mem.al (hM.out) _ _) _ _) _ _)) | with_reducible have hM2 := Mem.later hb (Mem.al (Mem.al (Mem.drew (Mem.al (hM.out) _ _)) _ _) _ _) | with_reducible have hM2 := Mem.later hb (Mem.drew (Mem.al (Mem.drew (Mem.al (hM.out) _ _)) _ _)) | with_reducible have hM2 := Mem.later hb (Mem.al (Mem.al (Mem.al (Mem.al (Mem.al (hM.out) _ _) _ _) _ _) _ _) _ _) | with_reducible have hM2 := Mem.later hb (Mem.al (Mem.al (Mem.al (Mem.al (Mem.al (Mem.al (hM.out) _ _) _ _) _ _) _ _) _ _) _ _) | with_reducible have hM2 := Mem.later hb (Mem.al (Mem.al (Mem.al (Mem.al (Mem.al (Mem.al (Mem.al (hM.out) _ _) _ _) _ _) _ _) _ _) _ _) _ _) | with_reducible have hM2 := Mem.later hb (Mem.al (Mem.al (Mem.al (Mem.al (Mem.al (Mem.al (Mem.al (Mem.al (hM.out) _ _) _ _) _ _) _ _) _ _) _ _) _ _) _ _)); (try simp only [World.size_alloc, size_drew] at hM2); clear hM; have hM := Lib.hid hM2; clear hF; have hF := hM2; (try simp only [Mem, cellsAt, World.size_alloc, Nat.zero_add, Nat.reduceAdd, and_true] at hF); clear hM2; clear hb) | ((with_reducible refine (HE2.out _).mono ?_); rintro e w1 ⟨rfl, hb⟩; have hB : Below w.heap.size w w1 := (by refine bl_then ?_ hb; (repeat (first | exact hB | refine bl_al ?_ _ | refine Below.setCell ?_ (by first | exact hgs | exact Nat.le_succ_of_le hgs | exact hgs2 | exact hgs3) _ | refine Below.drew ?_ | refine bl_drewN ?_ _))); (first | with_reducible have hM2 := Mem.later hb (hM.out) | with_reducible have hM2 := Mem.later hb (Mem.al (hM.out) _ _) | with_reducible have hM2 := Mem.later hb (Mem.al (Mem.al (hM.out) _ _) _ _) | with_reducible have hM2 := Mem.later hb (Mem.al (Mem.al (Mem.al (hM.out) _ _) _ _) _ _) | with_reducible have hM2 := Mem.later hb (Mem.al (Mem.al (Mem.al (Mem.al (hM.out) _ _) _ _) _ _) _ _) | with_reducible have hM2 := Mem.later hb (Mem.drew (hM.out)) | with_reducible have hM2 := Mem.later hb (Mem.drew (Mem.al (hM.out) _ _)) | with_reducible have hM2 := Mem.later hb (Mem.al (Mem.drew (hM.out)) _ _) | with_reducible have hM2 := Mem.later hb (Mem.al (Mem.drew (Mem.al (hM.out) _ _)) _ _) | with_reducible have hM2 := Mem.later hb (Mem.drew (Mem.al (Mem.al (hM.out) _ _) _ _)) | with_reducible have hM2 := Mem.later hb (Mem.al (Mem.al (Mem.drew (hM.out)) _ _) _ _) | with_reducible have hM2 := Mem.later hb (Mem.drew (Mem.drew (hM.out))) | with_reducible have hM2 := Mem.later hb (Mem.drew (Mem.al (Mem.drew (hM.out)) _ _)) | with_reducible have hM2 := Mem.later hb (Mem.drew (Mem.al (Mem.al (Mem.al (hM.out) _ _) _ _) _ _)) | with_reducible have hM2 := Mem.later hb (Mem.al (Mem.al (Mem.drew (Mem.al (hM.out) _ _)) _ _) _ _) | with_reducible have hM2 := Mem.later hb (Mem.drew (Mem.al (Mem.drew (Mem.al (hM.out) _ _)) _ _)) | with_reducible have hM2 := Mem.later hb (Mem.al (Mem.al (Mem.al (Mem.al (Mem.al (hM.out) _ _) _ _) _ _) _ _) _ _) | with_reducible have hM2 := Mem.later hb (Mem.al (Mem.al (Mem.al (Mem.al (Mem.al (Mem.al (hM.out) _ _) _ _) _ _) _ _) _ _) _ _) | with_reducible have hM2 := Mem.later hb (Mem.al (Mem.al (Mem.al (Mem.al (Mem.al (Mem.al (Mem.al (hM.out) _ _) _ _) _ _) _ _) _ _) _ _) _ _) | with_reducible have hM2 := Mem.later hb (Mem.al (Mem.al (Mem.al (Mem.al (Mem.al (Mem.al (Mem.al (Mem.al (hM.out) _ _) _ _) _ _) _ _) _ _) _ _) _ _) _ _)); (try simp only [World.size_alloc, size_drew] at hM2); clear hM; have hM := Lib.hid hM2; clear hF; have hF := hM2; (try simp only [Mem, cellsAt, World.size_alloc, Nat.zero_add, Nat.reduceAdd, and_true] at hF); clear hM2; clear hb)) | (go_at_call 56; (with_reducible refine (HRat.out _).mono ?_); rintro e w1 ⟨rfl, hb⟩; have hB : Below w.heap.size w w1 := (by refine bl_then ?_ hb; (repeat (first | exact hB | refine bl_al ?_ _ | refine Below.setCell ?_ (by first | exact hgs | exact Nat.le_succ_of_le hgs | exact hgs2 | exact hgs3) _ | refine Below.drew ?_ | refine bl_drewN ?_ _))); (first | with_reducible have hM2 := Mem.later hb (hM.out) | with_reducible have hM2 := Mem.later hb (Mem.al (hM.out) _ _) | with_reducible have hM2 := Mem.later hb (Mem.al (Mem.al (hM.out) _ _) _ _) | with_reducible have hM2 := Mem.later hb (Mem.al (Mem.al (Mem.al (hM.out) _ _) _ _) _ _) | with_reducible have hM2 := Mem.later hb (Mem.al (Mem.al (Mem.al (Mem.al (hM.out) _ _) _ _) _ _) _ _) | with_reducible have hM2 := Mem.later hb (Mem.drew (hM.out)) | with_reducible have hM2 := Mem.later hb (Mem.drew (Mem.al (hM.out) _ _)) | with_reducible have hM2 := Mem.later hb (Mem.al (Mem.drew (hM.out)) _ _) | with_reducible have hM2 := Mem.later hb (Mem.al (Mem.drew (Mem.al (hM.out) _ _)) _ _) | with_reducible have hM2 := Mem.later hb (Mem.drew (Mem.al (Mem.al (hM.out) _ _) _ _)) | with_reducible have hM2 := Mem.later hb (Mem.al (Mem.al (Mem.drew (hM.out)) _ _) _ _) | with_reducible have hM2 := Mem.later hb (Mem.drew (Mem.drew (hM.out))) | with_reducible have hM2 := Mem.later hb (Mem.drew (Mem.al (Mem.drew (hM.out)) _ _)) | with_reducible have hM2 := Mem.later hb (Mem.drew (Mem.al (Mem.al (Mem.al (hM.out) _ _) _ _) _ _)) | with_reducible have hM2 := Mem.later hb (Mem.al (Mem.al (Mem.drew (Mem.al (hM.out) _ _)) _ _) _ _) | with_reducible have hM2 := Mem.later hb (Mem.drew (Mem.al (Mem.drew (Mem.al (hM.out) _ _)) _ _)) | with_reducible have hM2 := Mem.later hb (Mem.al (Mem.al (Mem.al (Mem.al (Mem.al (hM.out) _ _) _ _) _ _) _ _) _ _) | with_reducible have hM2 := Mem.later hb (Mem.al (Mem.al (Mem.al (Mem.al (Mem.al (Mem.al (hM.out) _ _) _ _) _ _) _ _) _ _) _ _) | with_reducible have hM2 := Mem.later hb (Mem.al (Mem.al (Mem.al (Mem.al (Mem.al (Mem.al (Mem.al (hM.out) _ _) _ _) _ _) _ _) _ _) _ _) _ _) | with_reducible have hM2 := Mem.later hb (Mem.al (Mem.al (Mem.al (Mem.al (Mem.al (Mem.al (Mem.al (Mem.al (hM.out) _ _) _ _) _ _) _ _) _ _) _ _) _ _) _ _)); (try simp only [World.size_alloc, size_drew] at hM2); clear hM; have hM := Lib.hid hM2; clear hF; have hF := hM2; (try simp only [Mem, cellsAt, World.size_alloc, Nat.zero_add, Nat.reduceAdd, and_true] at hF); clear hM2; clear hb) | (go_at_call 21; (with_reducible refine (HCmp.out _).mono ?_); rintro e w1 ⟨rfl, hb⟩; have hB : Below w.heap.size w w1 := (by refine bl_then ?_ hb; (repeat (first | exact hB | refine bl_al ?_ _ | refine Below.setCell ?_ (by first | exact hgs | exact Nat.le_succ_of_le hgs | exact hgs2 | exact hgs3) _ | refine Below.drew ?_ | refine bl_drewN ?_ _))); (first | with_reducible have hM2 := Mem.later hb (hM.out) | with_reducible have hM2 := Mem.later hb (Mem.al (hM.out) _ _) | with_reducible have hM2 := Mem.later hb (Mem.al (Mem.al (hM.out) _ _) _ _) | with_reducible have hM2 := Mem.later hb (Mem.al (Mem.al (Mem.al (hM.out) _ _) _ _) _ _) | with_reducible have hM2 := Mem.later hb (Mem.al (Mem.al (Mem.al (Mem.al (hM.out) _ _) _ _) _ _) _ _) | with_reducible have hM2 := Mem.later hb (Mem.drew (hM.out)) | with_reducible have hM2 := Mem.later hb (Mem.drew (Mem.al (hM.out) _ _)) | with_reducible have hM2 := Mem.later hb (Mem.al (Mem.drew (hM.out)) _ _) | with_reducible have hM2 := Mem.later hb (Mem.al (Mem.drew (Mem.al (hM.out) _ _)) _ _) | with_reducible have hM2 := Mem.later hb (Mem.drew (Mem.al (Mem.al (hM.out) _ _) _ _)) | with_reducible have hM2 := Mem.later hb (Mem.al (Mem.al (Mem.drew (hM.out)) _ _) _ _) | with_reducible have hM2 := Mem.later hb (Mem.drew (Mem.drew (hM.out))) | with_reducible have hM2 := Mem.later hb (Mem.drew (Mem.al (Mem.drew (hM.out)) _ _)) | with_reducible have hM2 := Mem.later hb (Mem.drew (Mem.al (Mem.al (Mem.al (hM.out) _ _) _ _) _ _)) | with_reducible have hM2 := Mem.later hb (Mem.al (Mem.al (Mem.drew (Mem.al (hM.out) _ _)) _ _) _ _) | with_reducible have hM2 := Mem.later hb (Mem.drew (Mem.al (Mem.drew (Mem.al (hM.out) _ _)) _ _)) | with_reducible have hM2 := Mem.later hb (Mem.al (Mem.al (Mem.al (Mem.al (Mem.al (hM.out) _ _) _ _) _ _) _ _) _ _) | with_reducible have hM2 := Mem.later hb (Mem.al (Mem.al (Mem.al (Mem.al (Mem.al (Mem.al (hM.out) _ _) _ _) _ _) _ _) _ _) _ _) | with_reducible have hM2 := Mem.later hb (Mem.al (Mem.al (Mem.al (Mem.al (Mem.al (Mem.al (Mem.al (hM.out) _ _) _ _) _ _) _ _) _ _) _ _) _ _) | with_reducible have hM2 := Mem.later hb (Mem.al (Mem.al (Mem.al (Mem.al (Mem.al (Mem.al (Mem.al (Mem.al (hM.out) _ _) _ _) _ _) _ _) _ _) _ _) _ _) _ _)); (try simp only [World.size_alloc, size_drew] at hM2); clear hM; have hM := Lib.hid hM2; clear hF; have hF := hM2; (try simp only [Mem, cellsAt, World.size_alloc, Nat.zero_add, Nat.reduceAdd, and_true] at hF); clear hM2; clear hb) | (go_at_call 57; (first | (with_reducible refine (HS1.out _).mono ?_) | (with_reducible refine (HS2.out _).mono ?_)); rintro e w2 ⟨rfl, hb⟩))
    go_ret
    exact ⟨rfl, bl_then (by repeat (first | exact hB | refine bl_al ?_ _ | refine Below.setCell ?_ (Below.size (by assumption)) _)) hb⟩
end Go.Proofs.YtlhdfmaekbnhaaaGreatDoor

/- TargetBack: the numbers. -/
namespace Go.Proofs.YtlhdfmaekbnhaaaGreatDoor
set_option linter.unusedVariables false
set_option linter.unusedSimpArgs false
open Go.RowKit

theorem pow2_lt {a b : Nat} (h : (2 : Int) ^ a < 2 ^ b) : a < b := by
  rcases Nat.lt_or_ge a b with h1 | h1
  · exact h1
  · have := pow2_le h1; omega
theorem size_of {Y : Int} {s L : Nat} (hs : 1 ≤ s) (h1 : 2 ^ (8 * (s - 1)) ≤ Y) (h2 : Y < 2 ^ (8 * s)) (h3 : 2 ^ (L - 1) ≤ Y) (h4 : Y < 2 ^ L) : (L + 7) / 8 = s := by
  have a1 := pow2_lt (Int.lt_of_le_of_lt h1 h4)
  have a2 := pow2_lt (Int.lt_of_le_of_lt h3 h2)
  omega
/-- bits from size and upper bytes -/
def mk3 (s : Nat) (M : Int) : Int := if M / 8388608 % 2 = 1 then ((s : Int) + 1) * 16777216 + M / 256 else (s : Int) * 16777216 + M
theorem shr_mk (A : Int) (L s : Nat) (h : (L + 7) / 8 = s) : shrV A L = mk3 s (upV A s) := by
  unfold shrV mk3
  rw [h]
theorem exp_mk (B m : Int) (z : Int) (hm : 0 ≤ m ∧ m < 8388608) (hB : B = z * 16777216 + m) : expV B = m / 2 ^ (-(8 * (z - 3))).toNat * 2 ^ (8 * (z - 3)).toNat ∧ B / 8388608 % 2 = 0 := by
  subst hB
  have h1 : (z * 16777216 + m) % 8388608 = m := by omega
  have h2 : (z * 16777216 + m) / 16777216 = z := by omega
  refine ⟨?_, by omega⟩
  unfold expV
  rw [h1, h2]

theorem back_num (A : Int) (L : Nat) (hA : 1 ≤ A) (hL : L ≤ 256) (h3 : 2 ^ (L - 1) ≤ A) (h4 : A < 2 ^ L) (hW : A < WW) :
    (0 ≤ shrV A L ∧ shrV A L < 4294967296) ∧ expOk (shrV A L) = true ∧ expV (shrV A L) ≤ A ∧ A - expV (shrV A L) ≤ A / 2 ^ 14 ∧ shrV A L / 8388608 % 2 = 0 ∧
      ∀ L', 2 ^ (L' - 1) ≤ expV (shrV A L) → expV (shrV A L) < 2 ^ L' → shrV (expV (shrV A L)) L' = shrV A L := by
  have hL0 : 1 ≤ L := by
    rcases Nat.eq_zero_or_pos L with h | h
    · subst h; simp at h4; omega
    · exact h
  obtain ⟨s, hs⟩ : ∃ s, (L + 7) / 8 = s := ⟨_, rfl⟩
  have hlo : 2 ^ (8 * (s - 1)) ≤ A := Int.le_trans (pow2_le (by omega)) h3
  have hhi : A < 2 ^ (8 * s) := Int.lt_of_lt_of_le h4 (pow2_le (by omega))
  rw [shr_mk A L s hs]
  -- it is enough to know what the bits tell
  have fin : ∀ (M m Y : Int) (z : Nat), upV A s = M → mk3 s M = (z : Int) * 16777216 + m → (0 ≤ m ∧ m < 8388608) → z ≤ 33 → m / 2 ^ (-(8 * ((z : Int) - 3))).toNat * 2 ^ (8 * ((z : Int) - 3)).toNat = Y → 2 ^ (8 * (s - 1)) ≤ Y → Y ≤ A → A - Y ≤ A / 2 ^ 14 → mk3 s (upV Y s) = mk3 s M →
      (0 ≤ mk3 s (upV A s) ∧ mk3 s (upV A s) < 4294967296) ∧ expOk (mk3 s (upV A s)) = true ∧ expV (mk3 s (upV A s)) ≤ A ∧ A - expV (mk3 s (upV A s)) ≤ A / 2 ^ 14 ∧ mk3 s (upV A s) / 8388608 % 2 = 0 ∧
      ∀ L', 2 ^ (L' - 1) ≤ expV (mk3 s (upV A s)) → expV (mk3 s (upV A s)) < 2 ^ L' → shrV (expV (mk3 s (upV A s))) L' = mk3 s (upV A s) := by
    intro M m Y z hM hB hm hz hY hY1 hY2 hY3 hY4
    rw [hM]
    obtain ⟨e1, e2⟩ := exp_mk (mk3 s M) m z hm hB
    rw [hY] at e1
    have hp := two_pow_pos (8 * (s - 1))
    rw [e1]
    refine ⟨by omega, ?_, hY2, hY3, e2, fun L' a b => ?_⟩
    · unfold expOk
      rw [e1, decide_eq_true e2, decide_eq_true (by omega), decide_eq_true (by omega)]
      rfl
    · rw [shr_mk Y L' s (size_of (by omega) hY1 (by omega) a b)]
      exact hY4
  have hsc : s = 1 ∨ s = 2 ∨ 3 ≤ s := by omega
  rcases hsc with rfl | rfl | h3s
  · have hup : ∀ Y : Int, upV Y 1 = Y * 65536 := fun Y => by unfold upV; simp
    simp at hlo hhi
    by_cases hb : A * 65536 / 8388608 % 2 = 1
    · refine fin (A * 65536) (A * 256) A 2 (hup A) (by unfold mk3; rw [if_pos hb]; omega) (by omega) (by omega) ?_ (by simpa using hlo) (Int.le_refl _) (by omega) (by rw [hup])
      simp
    · refine fin (A * 65536) (A * 65536) A 1 (hup A) (by unfold mk3; rw [if_neg hb]) (by omega) (by omega) ?_ (by simpa using hlo) (Int.le_refl _) (by omega) (by rw [hup])
      simp
  · have hup : ∀ Y : Int, upV Y 2 = Y * 256 := fun Y => by unfold upV; simp
    simp at hlo hhi
    by_cases hb : A * 256 / 8388608 % 2 = 1
    · refine fin (A * 256) A A 3 (hup A) (by unfold mk3; rw [if_pos hb]; omega) (by omega) (by omega) ?_ (by simpa using hlo) (Int.le_refl _) (by omega) (by rw [hup])
      simp
    · refine fin (A * 256) (A * 256) A 2 (hup A) (by unfold mk3; rw [if_neg hb]) (by omega) (by omega) ?_ (by simpa using hlo) (Int.le_refl _) (by omega) (by rw [hup])
      simp
  · obtain ⟨k, hk⟩ : ∃ k, k + 3 = s := ⟨s - 3, by omega⟩
    have hup : ∀ Y : Int, upV Y s = Y / 2 ^ (8 * k) := fun Y => by
      unfold upV
      rw [show (8 * (3 - (s : Int))).toNat = 0 by omega, show (8 * ((s : Int) - 3)).toNat = 8 * k by omega]
      simp
    have hp := two_pow_pos (8 * k)
    rw [show 8 * (s - 1) = 8 * k + 16 by omega, Int.pow_add] at hlo
    rw [show 8 * s = 8 * k + 24 by omega, Int.pow_add] at hhi
    have hq1 := Int.mul_ediv_add_emod A (2 ^ (8 * k))
    have hq2 := Int.emod_nonneg A (Int.ne_of_gt hp)
    have hq3 := Int.emod_lt_of_pos A hp
    obtain ⟨q, hq⟩ : ∃ q, A / 2 ^ (8 * k) = q := ⟨_, rfl⟩
    obtain ⟨P, hP⟩ : ∃ P : Int, 2 ^ (8 * k) = P := ⟨_, rfl⟩
    rw [hq, hP] at hq1
    rw [hP] at hlo hhi hq2 hq3 hp
    have hqlo : 65536 ≤ q := by
      rw [← hq, hP, Int.le_ediv_iff_mul_le hp]
      rw [Int.mul_comm]
      simpa using hlo
    have hqhi : q < 16777216 := by
      rw [← hq, hP, Int.ediv_lt_iff_lt_mul hp]
      rw [Int.mul_comm]
      simpa using hhi
    have hs1 : (8 * ((s : Int) - 3)).toNat = 8 * k := by omega
    have hs2 : (-(8 * ((s : Int) - 3))).toNat = 0 := by omega
    by_cases hb : q / 8388608 % 2 = 1
    · have hPq : q / 256 * 256 ≤ q ∧ q < q / 256 * 256 + 256 := by omega
      have e1 : P * (q / 256 * 256) ≤ P * q := Int.mul_le_mul_of_nonneg_left hPq.1 (Int.le_of_lt hp)
      have e2 : P * q ≤ P * (q / 256 * 256 + 255) := Int.mul_le_mul_of_nonneg_left (by omega) (Int.le_of_lt hp)
      have e3 : P * 8388608 ≤ P * q := Int.mul_le_mul_of_nonneg_left (by omega) (Int.le_of_lt hp)
      rw [Int.mul_add] at e2
      have e4 : q / 256 * (P * 256) = P * (q / 256 * 256) := by ac_rfl
      have e5 : P * 65536 ≤ P * (q / 256 * 256) := Int.mul_le_mul_of_nonneg_left (by omega) (Int.le_of_lt hp)
      refine fin q (q / 256) (q / 256 * (P * 256)) (s + 1) ((hup A).trans hq) (by unfold mk3; rw [if_pos hb]; simp) (by omega) (by omega) ?_ ?_ ?_ ?_ ?_
      · rw [show (8 * (((s + 1 : Nat) : Int) - 3)).toNat = 8 * k + 8 by omega, show (-(8 * (((s + 1 : Nat) : Int) - 3))).toNat = 0 by omega, Int.pow_add, hP]
        simp
      · rw [show 8 * (s - 1) = 8 * k + 16 by omega, Int.pow_add, hP, e4]
        simpa using e5
      · rw [e4]; omega
      · rw [e4, Int.le_ediv_iff_mul_le (by decide)]
        simp only [Int.reducePow]
        generalize P * (q / 256 * 256) = X at *
        omega
      · rw [hup, hP, e4, Int.mul_ediv_cancel_left _ (Int.ne_of_gt hp)]
        unfold mk3
        rw [if_pos hb, if_pos (by omega)]
        omega
    · have e3 : P * 65536 ≤ P * q := Int.mul_le_mul_of_nonneg_left (by omega) (Int.le_of_lt hp)
      refine fin q q (q * P) s ((hup A).trans hq) (by unfold mk3; rw [if_neg hb]) (by omega) (by omega) ?_ ?_ ?_ ?_ ?_
      · rw [hs1, hs2, hP]
        simp
      · rw [show 8 * (s - 1) = 8 * k + 16 by omega, Int.pow_add, hP, Int.mul_comm q]
        simpa using e3
      · rw [Int.mul_comm q]; omega
      · rw [Int.mul_comm q, Int.le_ediv_iff_mul_le (by decide)]
        simp only [Int.reducePow]
        omega
      · rw [hup, hP, Int.mul_ediv_cancel _ (Int.ne_of_gt hp)]
end Go.Proofs.YtlhdfmaekbnhaaaGreatDoor
