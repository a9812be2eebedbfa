/- florinref01: Mul. (hM) -/
import Derived.Test.YtlfabchlblgmbaaDg11
namespace Go.Proofs.Ytlfabchlblgmbaa
set_option linter.unusedVariables false
set_option linter.unusedSimpArgs false
open Go.RowKit

theorem mul_step (T U s x t : Int) (carry : Bool) (hT : 0 ≤ T) (hU : 0 ≤ U) (hs : s = T % WW) (hx : x = U % WW) (ht : 0 ≤ t ∧ t < WW) (hc : s + x = t + if carry then WW else 0) :
    t = (T + U) % WW ∧ (decide (WW ≤ T) || decide (WW ≤ U) || carry) = decide (WW ≤ T + U) := by
  constructor
  · rw [Int.add_emod, ← hs, ← hx, hc]
    cases carry
    · rw [if_neg (by simp), Int.add_zero, Int.emod_eq_of_lt ht.1 ht.2]
    · rw [if_pos rfl, Int.add_emod_right, Int.emod_eq_of_lt ht.1 ht.2]
  · by_cases h1 : WW ≤ T
    · rw [decide_eq_true h1, decide_eq_true (show WW ≤ T + U by omega)]
      simp
    · by_cases h2 : WW ≤ U
      · rw [decide_eq_true h2, decide_eq_true (show WW ≤ T + U by omega)]
        simp
      · rw [decide_eq_false h1, decide_eq_false h2]
        rw [Int.emod_eq_of_lt hT (by omega)] at hs
        rw [Int.emod_eq_of_lt hU (by omega)] at hx
        cases carry
        · rw [if_neg (by simp)] at hc
          rw [decide_eq_false (show ¬ WW ≤ T + U by omega)]
          rfl
        · rw [if_pos rfl] at hc
          rw [decide_eq_true (show WW ≤ T + U by omega)]
          rfl
def MulRel (w : World) (a0 a1 a2 a3 A k : Int) (b i : Value) (wr : World) : Prop :=
  ∃ (j : Nat) (s0 s1 s2 s3 : Int), j ≤ 64 ∧ b = .bool (decide (WW ≤ A * sumD (digN k) j)) ∧ i = .int .i64 j ∧ B4 s0 s1 s2 s3 ∧ N4 s0 s1 s2 s3 = A * sumD (digN k) j % WW ∧ Below w.heap.size w wr ∧
    Mem wr [(w.heap.size + 1 + 1, [.int .u64 s0, .int .u64 s1, .int .u64 s2, .int .u64 s3]), (w.heap.size + 1, [.int .u64 0, .int .u64 0, .int .u64 0, .int .u64 0]), (w.heap.size, [.int .u64 a0, .int .u64 a1, .int .u64 a2, .int .u64 a3])]

set_option maxRecDepth 100000 in
set_option maxHeartbeats 4000000 in
theorem mulD_any {a0 a1 a2 a3 r0 r1 r2 r3 : Int} (ha : B4 a0 a1 a2 a3) (hr : B4 r0 r1 r2 r3) (k : Int) (hk : 0 ≤ k ∧ k < WI) (h : N4 r0 r1 r2 r3 = N4 a0 a1 a2 a3 * k % WW) (c : Bool) (hc : decide (WW ≤ N4 a0 a1 a2 a3 * k) = c) (w : World) :
    Calls Try.prog 14 #[U4 a0 a1 a2 a3, .int .u64 k] w fun e w' => e = .returned (.tuple #[U4 r0 r1 r2 r3, .bool c]) ∧ Below w.heap.size w w' := by
  obtain ⟨A, hA⟩ : ∃ A, N4 a0 a1 a2 a3 = A := ⟨_, rfl⟩
  have han := ha.nn
  rw [hA] at h hc han
  have HA := Lib.hid (And.intro ha (And.intro hA (And.intro han (And.intro hk (And.intro hr (And.intro h hc))))))
  clear ha hA han hk hr h hc
  go_enter Try.func14, Try.ntmps14
  go_wp2
  go_loopw [7, 8] (fun b i wr => MulRel w a0 a1 a2 a3 A k b i wr) (fun _ i _ => 64 - (intOf i).toNat)
  case atStart =>
    refine ⟨0, 0, 0, 0, 0, Nat.zero_le _, ?_, rfl, b4_zero, ?_, by (repeat (first | exact Below.refl _ _ | refine Below.drew ?_ | refine bl_drewN ?_ _ | (refine Below.alloc ?_ (by first | exact Nat.le_refl _ | (simp; done) | (simp; omega)) _))), ?_⟩
    · rw [show A * sumD (digN k) 0 = 0 by simp [sumD], decide_eq_false (by decide)]
    · rw [show A * sumD (digN k) 0 = 0 by simp [sumD], n4_zero]
      rfl
    · have h := Mem.al (Mem.al (Mem.al (mem_nil w) [.int .u64 a0, .int .u64 a1, .int .u64 a2, .int .u64 a3] 24) [.int .u64 0, .int .u64 0, .int .u64 0, .int .u64 0] 24) [.int .u64 0, .int .u64 0, .int .u64 0, .int .u64 0] 24
      simp only [World.size_alloc] at h
      exact h
  case round =>
    obtain ⟨j, s0, s1, s2, s3, hj, rfl, rfl, hs, hsn, hB, hm⟩ := hrel
    obtain ⟨ha, hA, han, hk, hr, h, hc⟩ := HA.out
    by_cases hlt : j < 64
    · have hj0 : (j : Int) < 64 := by omega
      have hwj : IntKind.u64.wrap (j : Int) = (j : Int) := by rw [IntKind.wrap_u64]; omega
      have hbit := u64_and1 (k / 2 ^ j) ⟨Int.ediv_nonneg hk.1 (Int.le_of_lt (two_pow_pos _)), Int.lt_of_le_of_lt (Int.ediv_le_self _ hk.1) hk.2⟩
      have hdb := digN_b k j
      have hsb := sumD_b (digN k) (digN_b k) j
      obtain ⟨d, hd⟩ : ∃ d, digN k j = d := ⟨_, rfl⟩
      have hS : sumD (digN k) (j + 1) = sumD (digN k) j + d * 2 ^ j := by rw [← hd]; rfl
      rw [show k / 2 ^ j % 2 = d from hd] at hbit
      rw [hd] at hdb
      have h01 : d = 0 ∨ d = 1 := by omega
      have hT0 : 0 ≤ A * sumD (digN k) j := Int.mul_nonneg han.1 hsb.1
      obtain ⟨T, hT⟩ : ∃ T, A * sumD (digN k) j = T := ⟨_, rfl⟩
      rw [hT] at hsn hT0
      simp only [hT]
      have hM := Lib.hid hm
      have hF := hm
      simp only [Mem, cellsAt, Nat.zero_add, Nat.reduceAdd, and_true] at hF
      rcases h01 with rfl | rfl
      · have hT2 : A * sumD (digN k) (j + 1) = T := by rw [hS, Int.zero_mul, Int.add_zero, hT]
        obtain ⟨l, hl⟩ : ∃ l, decide (WW ≤ T) = l := ⟨_, rfl⟩
        simp only [hl]
        have HX := Lib.hid (And.intro hs (And.intro hsn (And.intro hT2 hl)))
        clear hm hs hsn hT hT2 hS hd hdb hsb hT0 ha hA han hk hr h hc HA hl
        go_wp2
        refine ⟨⟨j + 1, s0, s1, s2, s3, by omega, by rw [HX.out.2.2.1, HX.out.2.2.2], by go_num, HX.out.1, by rw [HX.out.2.2.1]; exact HX.out.2.1, by (repeat (first | exact hB | refine bl_al ?_ _ | refine Below.setCell ?_ (by first | exact hgs | exact Nat.le_succ_of_le hgs | exact hgs2 | exact hgs3) _ | refine Below.drew ?_ | refine bl_drewN ?_ _)), hM.out⟩, by simp [intOf]; omega⟩
      · have hp := two_pow_pos j
        have hT2 : A * sumD (digN k) (j + 1) = T + A * 2 ^ j := by rw [hS, Int.one_mul, Int.mul_add, hT]
        have hU0 : 0 ≤ A * 2 ^ j := Int.mul_nonneg han.1 (Int.le_of_lt hp)
        obtain ⟨x0, x1, x2, x3, hx, hxn⟩ := shl_ex ha j
        obtain ⟨t0, t1, t2, t3, carry, ht, hte, hto⟩ := add_ex hs hx
        obtain ⟨over, hover⟩ : ∃ z, decide (WW ≤ N4 a0 a1 a2 a3 * 2 ^ ((j : Int)).toNat) = z := ⟨_, rfl⟩
        have HShl := Lib.hid (fun w => shlD_any ha hx (j : Int) (by rw [Int.toNat_natCast]; exact hxn) over hover w)
        have HAdd := Lib.hid (fun w => addD_any hs hx ht carry hte w)
        rw [hA] at hxn
        rw [hA, Int.toNat_natCast] at hover
        obtain ⟨st1, st2⟩ := mul_step T (A * 2 ^ j) _ _ _ carry hT0 hU0 hsn hxn ht.nn hte
        rw [hover, ← hT2] at st2
        rw [← hT2] at st1
        obtain ⟨l, hl⟩ : ∃ l, decide (WW ≤ T) = l := ⟨_, rfl⟩
        rw [hl] at st2
        simp only [hl]
        have HX := Lib.hid (And.intro ht (And.intro st1 st2))
        clear hm hs hsn hT hT2 hS hd hdb hsb hT0 ha hA han hk hr h hc HA hl hU0 hp hx hxn ht hte hto hover st1 st2
        have hgs2 : w.heap.size ≤ w.heap.size + 1 + 1 := by omega
        cases l <;> cases over
        all_goals
          go_wp2_with (first | (go_at_call 27; (with_reducible refine (HShl.out _).mono ?_); rintro e w1 ⟨rfl, hb⟩; have hB : Below w.heap.size w w1 := (by refine bl_then ?_ hb; (repeat (first | exact hB | refine bl_al ?_ _ | refine Below.setCell ?_ (by first | exact hgs | exact Nat.le_succ_of_le hgs | exact hgs2 | exact hgs3) _ | refine Below.drew ?_ | refine bl_drewN ?_ _))); (first | with_reducible have hM2 := Mem.later hb (hM.out) | with_reducible have hM2 := Mem.later hb (Mem.al (hM.out) _ _) | with_reducible have hM2 := Mem.later hb (Mem.al (Mem.al (hM.out) _ _) _ _) | with_reducible have hM2 := Mem.later hb (Mem.al (Mem.al (Mem.al (hM.out) _ _) _ _) _ _) | with_reducible have hM2 := Mem.later hb (Mem.al (Mem.al (Mem.al (Mem.al (hM.out) _ _) _ _) _ _) _ _) | with_reducible have hM2 := Mem.later hb (Mem.drew (hM.out)) | with_reducible have hM2 := Mem.later hb (Mem.drew (Mem.al (hM.out) _ _)) | with_reducible have hM2 := Mem.later hb (Mem.al (Mem.drew (hM.out)) _ _) | with_reducible have hM2 := Mem.later hb (Mem.al (Mem.drew (Mem.al (hM.out) _ _)) _ _) | with_reducible have hM2 := Mem.later hb (Mem.drew (Mem.al (Mem.al (hM.out) _ _) _ _)) | with_reducible have hM2 := Mem.later hb (Mem.al (Mem.al (Mem.drew (hM.out)) _ _) _ _) | with_reducible have hM2 := Mem.later hb (Mem.drew (Mem.drew (hM.out))) | with_reducible have hM2 := Mem.later hb (Mem.drew (Mem.al (Mem.drew (hM.out)) _ _)) | with_reducible have hM2 := Mem.later hb (Mem.drew (Mem.al (Mem.al (Mem.al (hM.out) _ _) _ _) _ _)) | with_reducible have hM2 := Mem.later hb (Mem.al (Mem.al (Mem.drew (Mem.al (hM.out) _ _)) _ _) _ _) | with_reducible have hM2 := Mem.later hb (Mem.drew (Mem.al (Mem.drew (Mem.al (hM.out) _ _)) _ _)) | with_reducible have hM2 := Mem.later hb (Mem.al (Mem.al (Mem.al (Mem.al (Mem.al (hM.out) _ _) _ _) _ _) _ _) _ _) | with_reducible have hM2 := Mem.later hb (Mem.al (Mem.al (Mem.al (Mem.al (Mem.al (Mem.al (hM.out) _ _) _ _) _ _) _ _) _ _) _ _) | with_reducible have hM2 := Mem.later hb (Mem.al (Mem.al (Mem.al (Mem.al (Mem.al (Mem.al (Mem.al (hM.out) _ _) _ _) _ _) _ _) _ _) _ _) _ _) | with_reducible have hM2 := Mem.later hb (Mem.al (Mem.al (Mem.al (Mem.al (Mem.al (Mem.al (Mem.al (Mem.al (hM.out) _ _) _ _) _ _) _ _) _ _) _ _) _ _) _ _)); (try simp only [World.size_alloc, size_drew] at hM2); clear hM; have hM := Lib.hid hM2; clear hF; have hF := hM2; (try simp only [Mem, cellsAt, World.size_alloc, Nat.zero_add, Nat.reduceAdd, and_true] at hF); clear hM2; clear hb) | (go_at_call 10; (with_reducible refine (HAdd.out _).mono ?_); rintro e w2 ⟨rfl, hb⟩; have hB : Below w.heap.size w w2 := (by refine bl_then ?_ hb; (repeat (first | exact hB | refine bl_al ?_ _ | refine Below.setCell ?_ (by first | exact hgs | exact Nat.le_succ_of_le hgs | exact hgs2 | exact hgs3) _ | refine Below.drew ?_ | refine bl_drewN ?_ _))); (first | with_reducible have hM2 := Mem.later hb (hM.out) | with_reducible have hM2 := Mem.later hb (Mem.al (hM.out) _ _) | with_reducible have hM2 := Mem.later hb (Mem.al (Mem.al (hM.out) _ _) _ _) | with_reducible have hM2 := Mem.later hb (Mem.al (Mem.al (Mem.al (hM.out) _ _) _ _) _ _) | with_reducible have hM2 := Mem.later hb (Mem.al (Mem.al (Mem.al (Mem.al (hM.out) _ _) _ _) _ _) _ _) | with_reducible have hM2 := Mem.later hb (Mem.drew (hM.out)) | with_reducible have hM2 := Mem.later hb (Mem.drew (Mem.al (hM.out) _ _)) | with_reducible have hM2 := Mem.later hb (Mem.al (Mem.drew (hM.out)) _ _) | with_reducible have hM2 := Mem.later hb (Mem.al (Mem.drew (Mem.al (hM.out) _ _)) _ _) | with_reducible have hM2 := Mem.later hb (Mem.drew (Mem.al (Mem.al (hM.out) _ _) _ _)) | with_reducible have hM2 := Mem.later hb (Mem.al (Mem.al (Mem.drew (hM.out)) _ _) _ _) | with_reducible have hM2 := Mem.later hb (Mem.drew (Mem.drew (hM.out))) | with_reducible have hM2 := Mem.later hb (Mem.drew (Mem.al (Mem.drew (hM.out)) _ _)) | with_reducible have hM2 := Mem.later hb (Mem.drew (Mem.al (Mem.al (Mem.al (hM.out) _ _) _ _) _ _)) | with_reducible have hM2 := Mem.later hb (Mem.al (Mem.al (Mem.drew (Mem.al (hM.out) _ _)) _ _) _ _) | with_reducible have hM2 := Mem.later hb (Mem.drew (Mem.al (Mem.drew (Mem.al (hM.out) _ _)) _ _)) | with_reducible have hM2 := Mem.later hb (Mem.al (Mem.al (Mem.al (Mem.al (Mem.al (hM.out) _ _) _ _) _ _) _ _) _ _) | with_reducible have hM2 := Mem.later hb (Mem.al (Mem.al (Mem.al (Mem.al (Mem.al (Mem.al (hM.out) _ _) _ _) _ _) _ _) _ _) _ _) | with_reducible have hM2 := Mem.later hb (Mem.al (Mem.al (Mem.al (Mem.al (Mem.al (Mem.al (Mem.al (hM.out) _ _) _ _) _ _) _ _) _ _) _ _) _ _) | with_reducible have hM2 := Mem.later hb (Mem.al (Mem.al (Mem.al (Mem.al (Mem.al (Mem.al (Mem.al (Mem.al (hM.out) _ _) _ _) _ _) _ _) _ _) _ _) _ _) _ _)); (try simp only [World.size_alloc, size_drew] at hM2); clear hM; have hM := Lib.hid hM2; clear hF; have hF := hM2; (try simp only [Mem, cellsAt, World.size_alloc, Nat.zero_add, Nat.reduceAdd, and_true] at hF); clear hM2; clear hb))
          refine ⟨⟨j + 1, t0, t1, t2, t3, by omega, by rw [← HX.out.2.2]; rfl, by go_num, HX.out.1, HX.out.2.1, bl_al (bl_set4 t0 t1 t2 t3 hgs2 hB) _, Mem.skip (Mem.set4 t0 t1 t2 t3 (by intro p hp; simp at hp; rcases hp with rfl | rfl <;> (simp; try omega)) hM.out.2) _⟩, by simp [intOf]; omega⟩
    · have hjn : j = 64 := by omega
      subst hjn
      have hk64 : sumD (digN k) 64 = k := by
        rw [sum_dig k hk.1, show (2 : Int) ^ 64 = WI by decide]
        exact Int.emod_eq_of_lt hk.1 hk.2
      rw [hk64] at hsn
      rw [hk64, hc]
      obtain ⟨e0, e1, e2, e3⟩ := hs.inj hr (hsn.trans h.symm)
      subst e0 e1 e2 e3
      have hF := hm
      simp only [Mem, cellsAt, Nat.zero_add, Nat.reduceAdd, and_true] at hF
      clear hm hs hsn hk64 ha hA han hk hr h hc HA
      have hgs2 : w.heap.size ≤ w.heap.size + 1 := by omega
      go_wp2
      refine bodyPost_ret (v := .tuple #[U4 s0 s1 s2 s3, .bool c]) (by simp [results, Try.results14, go_sem, hF]) rfl ?_
      exact ⟨rfl, by (repeat (first | exact hB | refine bl_al ?_ _ | refine Below.setCell ?_ (by first | exact hgs | exact Nat.le_succ_of_le hgs | exact hgs2 | exact hgs3) _ | refine Below.drew ?_ | refine bl_drewN ?_ _))⟩
end Go.Proofs.Ytlfabchlblgmbaa
