/- U256Shifts: the walk of the law. (hM) Merged: UShf, Tg1, TgE. -/
import Derived.Test.YtfbhpkhpkaeagaaDoorUArg
import Derived.Test.YtfbhpkhpkaeagaaDoorUShc
/- U256Shifts: the walk of the law. -/
namespace Go.Proofs.YtfbhpkhpkaeagaaDoor
set_option linter.unusedVariables false
set_option linter.unusedSimpArgs false
open Go.RowKit
end Go.Proofs.YtfbhpkhpkaeagaaDoor

/- Package target: Expand. (Boxes as Mem: hM.) -/
namespace Go.Proofs.YtfbhpkhpkaeagaaDoor
set_option linter.unusedVariables false
set_option linter.unusedSimpArgs false
open Go.RowKit

/-- what bits tell, as a number -/
def expV (b : Int) : Int := b % 8388608 / 2 ^ (-(8 * (b / 16777216 - 3))).toNat * 2 ^ (8 * (b / 16777216 - 3)).toNat
def expOk (b : Int) : Bool := decide (b / 8388608 % 2 = 0) && decide (expV b ≠ 0) && decide (expV b < WW)

theorem sign_bit (b : Int) (hb : 0 ≤ b ∧ b < 4294967296) : bits .and .u32 b 8388608 = b / 8388608 % 2 * 8388608 := by
  obtain ⟨B, rfl⟩ := Int.eq_ofNat_of_zero_le hb.1
  rw [show (8388608 : Int) = ((8388608 : Nat) : Int) by rfl, u32_and_nat B 8388608 (by omega) (by decide)]
  have := nat_bit 23 B
  rw [show 2 ^ 23 = 8388608 by decide] at this
  rw [this]
  simp
theorem mant_bits (b : Int) (hb : 0 ≤ b ∧ b < 4294967296) : bits .and .u32 b 8388607 = b % 8388608 := by
  obtain ⟨B, rfl⟩ := Int.eq_ofNat_of_zero_le hb.1
  rw [show (8388607 : Int) = ((8388607 : Nat) : Int) by rfl, u32_and_nat B 8388607 (by omega) (by decide), nat_mask23]
  simp
theorem b4_small (n : Int) (h : 0 ≤ n ∧ n < WI) : B4 n 0 0 0 ∧ N4 n 0 0 0 = n := by
  refine ⟨⟨h, ?_, ?_, ?_⟩, ?_⟩ <;> simp only [N4, WI] <;> omega

set_option maxRecDepth 100000 in
set_option maxHeartbeats 1000000 in
theorem exp_any (b : Int) (hb : 0 ≤ b ∧ b < 4294967296) {t0 t1 t2 t3 : Int} (ht : B4 t0 t1 t2 t3) (er : Int)
    (h : (expOk b = true ∧ N4 t0 t1 t2 t3 = expV b ∧ er = 0) ∨ (expOk b = false ∧ N4 t0 t1 t2 t3 = 0 ∧ er = 7)) (w : World) :
    Calls Tryd.prog 28 #[.int .u32 b] w fun e w' => e = .returned (.tuple #[U4 t0 t1 t2 t3, .int .i64 er]) ∧ Below w.heap.size w w' := by
  have hsg := sign_bit b hb
  have hmt := mant_bits b hb
  have hm := b4_small (b % 8388608) (by unfold WI; omega)
  obtain ⟨u, hu⟩ : ∃ u, 8 * (b / 16777216 - 3) = u := ⟨_, rfl⟩
  have hub : -24 ≤ u ∧ u ≤ 2016 := by omega
  have hB := Below.refl w.heap.size w
  have hM := Lib.hid (mem_nil w)
  have hF : True := trivial
  by_cases hs : b / 8388608 % 2 = 0
  · rw [hs] at hsg
    obtain ⟨m0, m1, m2, m3, hmb, hmn⟩ := shr_ex hm.1 (-u).toNat
    obtain ⟨s0, s1, s2, s3, hsb, hsn⟩ := shl_ex hmb u.toNat
    obtain ⟨lost, hlost⟩ : ∃ z, decide (WW ≤ N4 m0 m1 m2 m3 * 2 ^ u.toNat) = z := ⟨_, rfl⟩
    have hv : N4 m0 m1 m2 m3 * 2 ^ u.toNat = expV b := by rw [hmn, hm.2]; unfold expV; rw [hu]
    have hv0 : 0 ≤ expV b := by rw [← hv]; exact Int.mul_nonneg hmb.nn.1 (Int.le_of_lt (two_pow_pos _))
    have HOf := Lib.hid (fun w => of_any (b % 8388608) w)
    have HShr := Lib.hid (fun w => shr_n hm.1 hmb (-u) hmn w)
    have HShl := Lib.hid (fun w => shl_n hmb hsb u hsn lost hlost w)
    have hE := eq_n hsb b4_zero
    rw [n4_zero] at hE
    obtain ⟨z, hz⟩ : ∃ z, decide (N4 s0 s1 s2 s3 = 0) = z := ⟨_, rfl⟩
    rw [hz] at hE
    have HX : Hid ((lost = false ∧ z = false → (s0 = t0 ∧ s1 = t1 ∧ s2 = t2 ∧ s3 = t3) ∧ er = 0) ∧ (lost = true ∨ z = true → (t0 = 0 ∧ t1 = 0 ∧ t2 = 0 ∧ t3 = 0) ∧ er = 7)) := by
      rw [hv] at hlost hsn
      have hok : ∀ x y : Bool, decide (expV b ≠ 0) = x → decide (expV b < WW) = y → expOk b = (x && y) := by
        intro x y h1 h2
        unfold expOk
        rw [decide_eq_true hs, h1, h2]
        rfl
      constructor
      · rintro ⟨rfl, rfl⟩
        have h1 : ¬ WW ≤ expV b := by simpa using hlost
        have h2 : expV b % WW = expV b := Int.emod_eq_of_lt hv0 (by omega)
        rw [h2] at hsn
        have h3 : ¬ expV b = 0 := by rw [← hsn]; simpa using hz
        have h4 := hok true true (decide_eq_true h3) (decide_eq_true (by omega))
        rcases h with ⟨_, h5, h6⟩ | ⟨h5, _⟩
        · exact ⟨hsb.inj ht (hsn.trans h5.symm), h6⟩
        · rw [h4] at h5; cases h5
      · intro h0
        have h4 : expOk b = false := by
          rcases h0 with rfl | rfl
          · have h1 : WW ≤ expV b := by simpa using hlost
            rw [hok _ _ rfl (decide_eq_false (by omega)), Bool.and_false]
          · have h1 : N4 s0 s1 s2 s3 = 0 := by simpa using hz
            rcases Int.lt_or_le (expV b) WW with h2 | h2
            · rw [hsn, Int.emod_eq_of_lt hv0 h2] at h1
              rw [hok _ _ (decide_eq_false (by simp [h1])) rfl, Bool.false_and]
            · rw [hok _ _ rfl (decide_eq_false (by omega)), Bool.and_false]
        rcases h with ⟨h5, _⟩ | ⟨_, h5, h6⟩
        · rw [h4] at h5; cases h5
        · exact ⟨ht.inj b4_zero (h5.trans n4_zero.symm), h6⟩
    have hsz : b / 16777216 < 256 := by omega
    have hw1 : IntKind.i64.wrap (b / 16777216) = b / 16777216 := by rw [IntKind.wrap_i64]; omega
    have hw2 : IntKind.i64.wrap (b / 16777216 - 3) = b / 16777216 - 3 := by rw [IntKind.wrap_i64]; omega
    have hw3 : IntKind.i64.wrap u = u := by rw [IntKind.wrap_i64]; omega
    have hw4 : IntKind.i64.wrap (-u) = -u := by rw [IntKind.wrap_i64]; omega
    have hw5 : IntKind.u64.wrap (b % 8388608) = b % 8388608 := by rw [IntKind.wrap_u64]; omega
    clear h ht hmb hmn hsb hsn hlost hv hv0 hz hm hs hsz hub
    have hres : (lost = false ∧ z = false ∧ (s0 = t0 ∧ s1 = t1 ∧ s2 = t2 ∧ s3 = t3) ∧ er = 0) ∨ ((lost = true ∨ z = true) ∧ (t0 = 0 ∧ t1 = 0 ∧ t2 = 0 ∧ t3 = 0) ∧ er = 7) := by
      have h1 := HX.out
      cases lost <;> cases z <;> simp at h1 ⊢ <;> exact h1
    clear HX
    have hgs := Nat.le_refl w.heap.size
    rcases hres with ⟨rfl, rfl, ⟨rfl, rfl, rfl, rfl⟩, rfl⟩ | ⟨rfl | rfl, ⟨rfl, rfl, rfl, rfl⟩, rfl⟩
    all_goals
      go_enter Tryd.func28, Tryd.ntmps28
      go_wp2_with (first | (go_at_call 29; (with_reducible refine (HOf.out _).mono ?_); rintro e w1 ⟨rfl, hb⟩; have hB : Below w.heap.size w w1 := (by refine bl_then ?_ hb; (repeat (first | exact hB | refine bl_al ?_ _ | refine Below.setCell ?_ (by first | exact hgs | exact Nat.le_succ_of_le hgs | exact hgs2 | exact hgs3) _ | refine Below.drew ?_ | refine bl_drewN ?_ _))); (first | with_reducible have hM2 := Mem.later hb (hM.out) | with_reducible have hM2 := Mem.later hb (Mem.al (hM.out) _ _) | with_reducible have hM2 := Mem.later hb (Mem.al (Mem.al (hM.out) _ _) _ _) | with_reducible have hM2 := Mem.later hb (Mem.al (Mem.al (Mem.al (hM.out) _ _) _ _) _ _) | with_reducible have hM2 := Mem.later hb (Mem.al (Mem.al (Mem.al (Mem.al (hM.out) _ _) _ _) _ _) _ _) | with_reducible have hM2 := Mem.later hb (Mem.drew (hM.out)) | with_reducible have hM2 := Mem.later hb (Mem.drew (Mem.al (hM.out) _ _)) | with_reducible have hM2 := Mem.later hb (Mem.al (Mem.drew (hM.out)) _ _) | with_reducible have hM2 := Mem.later hb (Mem.al (Mem.drew (Mem.al (hM.out) _ _)) _ _) | with_reducible have hM2 := Mem.later hb (Mem.drew (Mem.al (Mem.al (hM.out) _ _) _ _)) | with_reducible have hM2 := Mem.later hb (Mem.al (Mem.al (Mem.drew (hM.out)) _ _) _ _) | with_reducible have hM2 := Mem.later hb (Mem.drew (Mem.drew (hM.out))) | with_reducible have hM2 := Mem.later hb (Mem.drew (Mem.al (Mem.drew (hM.out)) _ _)) | with_reducible have hM2 := Mem.later hb (Mem.drew (Mem.al (Mem.al (Mem.al (hM.out) _ _) _ _) _ _)) | with_reducible have hM2 := Mem.later hb (Mem.al (Mem.al (Mem.drew (Mem.al (hM.out) _ _)) _ _) _ _) | with_reducible have hM2 := Mem.later hb (Mem.drew (Mem.al (Mem.drew (Mem.al (hM.out) _ _)) _ _)) | with_reducible have hM2 := Mem.later hb (Mem.al (Mem.al (Mem.al (Mem.al (Mem.al (hM.out) _ _) _ _) _ _) _ _) _ _) | with_reducible have hM2 := Mem.later hb (Mem.al (Mem.al (Mem.al (Mem.al (Mem.al (Mem.al (hM.out) _ _) _ _) _ _) _ _) _ _) _ _) | with_reducible have hM2 := Mem.later hb (Mem.al (Mem.al (Mem.al (Mem.al (Mem.al (Mem.al (Mem.al (hM.out) _ _) _ _) _ _) _ _) _ _) _ _) _ _) | with_reducible have hM2 := Mem.later hb (Mem.al (Mem.al (Mem.al (Mem.al (Mem.al (Mem.al (Mem.al (Mem.al (hM.out) _ _) _ _) _ _) _ _) _ _) _ _) _ _) _ _)); (try simp only [World.size_alloc, size_drew] at hM2); clear hM; have hM := Lib.hid hM2; clear hF; have hF := hM2; (try simp only [Mem, cellsAt, World.size_alloc, Nat.zero_add, Nat.reduceAdd, and_true] at hF); clear hM2; clear hb) | (go_at_call 34; (with_reducible refine (HShr.out _).mono ?_); rintro e w1 ⟨rfl, hb⟩; have hB : Below w.heap.size w w1 := (by refine bl_then ?_ hb; (repeat (first | exact hB | refine bl_al ?_ _ | refine Below.setCell ?_ (by first | exact hgs | exact Nat.le_succ_of_le hgs | exact hgs2 | exact hgs3) _ | refine Below.drew ?_ | refine bl_drewN ?_ _))); (first | with_reducible have hM2 := Mem.later hb (hM.out) | with_reducible have hM2 := Mem.later hb (Mem.al (hM.out) _ _) | with_reducible have hM2 := Mem.later hb (Mem.al (Mem.al (hM.out) _ _) _ _) | with_reducible have hM2 := Mem.later hb (Mem.al (Mem.al (Mem.al (hM.out) _ _) _ _) _ _) | with_reducible have hM2 := Mem.later hb (Mem.al (Mem.al (Mem.al (Mem.al (hM.out) _ _) _ _) _ _) _ _) | with_reducible have hM2 := Mem.later hb (Mem.drew (hM.out)) | with_reducible have hM2 := Mem.later hb (Mem.drew (Mem.al (hM.out) _ _)) | with_reducible have hM2 := Mem.later hb (Mem.al (Mem.drew (hM.out)) _ _) | with_reducible have hM2 := Mem.later hb (Mem.al (Mem.drew (Mem.al (hM.out) _ _)) _ _) | with_reducible have hM2 := Mem.later hb (Mem.drew (Mem.al (Mem.al (hM.out) _ _) _ _)) | with_reducible have hM2 := Mem.later hb (Mem.al (Mem.al (Mem.drew (hM.out)) _ _) _ _) | with_reducible have hM2 := Mem.later hb (Mem.drew (Mem.drew (hM.out))) | with_reducible have hM2 := Mem.later hb (Mem.drew (Mem.al (Mem.drew (hM.out)) _ _)) | with_reducible have hM2 := Mem.later hb (Mem.drew (Mem.al (Mem.al (Mem.al (hM.out) _ _) _ _) _ _)) | with_reducible have hM2 := Mem.later hb (Mem.al (Mem.al (Mem.drew (Mem.al (hM.out) _ _)) _ _) _ _) | with_reducible have hM2 := Mem.later hb (Mem.drew (Mem.al (Mem.drew (Mem.al (hM.out) _ _)) _ _)) | with_reducible have hM2 := Mem.later hb (Mem.al (Mem.al (Mem.al (Mem.al (Mem.al (hM.out) _ _) _ _) _ _) _ _) _ _) | with_reducible have hM2 := Mem.later hb (Mem.al (Mem.al (Mem.al (Mem.al (Mem.al (Mem.al (hM.out) _ _) _ _) _ _) _ _) _ _) _ _) | with_reducible have hM2 := Mem.later hb (Mem.al (Mem.al (Mem.al (Mem.al (Mem.al (Mem.al (Mem.al (hM.out) _ _) _ _) _ _) _ _) _ _) _ _) _ _) | with_reducible have hM2 := Mem.later hb (Mem.al (Mem.al (Mem.al (Mem.al (Mem.al (Mem.al (Mem.al (Mem.al (hM.out) _ _) _ _) _ _) _ _) _ _) _ _) _ _) _ _)); (try simp only [World.size_alloc, size_drew] at hM2); clear hM; have hM := Lib.hid hM2; clear hF; have hF := hM2; (try simp only [Mem, cellsAt, World.size_alloc, Nat.zero_add, Nat.reduceAdd, and_true] at hF); clear hM2; clear hb) | (go_at_call 35; (with_reducible refine (HShl.out _).mono ?_); rintro e w1 ⟨rfl, hb⟩; have hB : Below w.heap.size w w1 := (by refine bl_then ?_ hb; (repeat (first | exact hB | refine bl_al ?_ _ | refine Below.setCell ?_ (by first | exact hgs | exact Nat.le_succ_of_le hgs | exact hgs2 | exact hgs3) _ | refine Below.drew ?_ | refine bl_drewN ?_ _))); (first | with_reducible have hM2 := Mem.later hb (hM.out) | with_reducible have hM2 := Mem.later hb (Mem.al (hM.out) _ _) | with_reducible have hM2 := Mem.later hb (Mem.al (Mem.al (hM.out) _ _) _ _) | with_reducible have hM2 := Mem.later hb (Mem.al (Mem.al (Mem.al (hM.out) _ _) _ _) _ _) | with_reducible have hM2 := Mem.later hb (Mem.al (Mem.al (Mem.al (Mem.al (hM.out) _ _) _ _) _ _) _ _) | with_reducible have hM2 := Mem.later hb (Mem.drew (hM.out)) | with_reducible have hM2 := Mem.later hb (Mem.drew (Mem.al (hM.out) _ _)) | with_reducible have hM2 := Mem.later hb (Mem.al (Mem.drew (hM.out)) _ _) | with_reducible have hM2 := Mem.later hb (Mem.al (Mem.drew (Mem.al (hM.out) _ _)) _ _) | with_reducible have hM2 := Mem.later hb (Mem.drew (Mem.al (Mem.al (hM.out) _ _) _ _)) | with_reducible have hM2 := Mem.later hb (Mem.al (Mem.al (Mem.drew (hM.out)) _ _) _ _) | with_reducible have hM2 := Mem.later hb (Mem.drew (Mem.drew (hM.out))) | with_reducible have hM2 := Mem.later hb (Mem.drew (Mem.al (Mem.drew (hM.out)) _ _)) | with_reducible have hM2 := Mem.later hb (Mem.drew (Mem.al (Mem.al (Mem.al (hM.out) _ _) _ _) _ _)) | with_reducible have hM2 := Mem.later hb (Mem.al (Mem.al (Mem.drew (Mem.al (hM.out) _ _)) _ _) _ _) | with_reducible have hM2 := Mem.later hb (Mem.drew (Mem.al (Mem.drew (Mem.al (hM.out) _ _)) _ _)) | with_reducible have hM2 := Mem.later hb (Mem.al (Mem.al (Mem.al (Mem.al (Mem.al (hM.out) _ _) _ _) _ _) _ _) _ _) | with_reducible have hM2 := Mem.later hb (Mem.al (Mem.al (Mem.al (Mem.al (Mem.al (Mem.al (hM.out) _ _) _ _) _ _) _ _) _ _) _ _) | with_reducible have hM2 := Mem.later hb (Mem.al (Mem.al (Mem.al (Mem.al (Mem.al (Mem.al (Mem.al (hM.out) _ _) _ _) _ _) _ _) _ _) _ _) _ _) | with_reducible have hM2 := Mem.later hb (Mem.al (Mem.al (Mem.al (Mem.al (Mem.al (Mem.al (Mem.al (Mem.al (hM.out) _ _) _ _) _ _) _ _) _ _) _ _) _ _) _ _)); (try simp only [World.size_alloc, size_drew] at hM2); clear hM; have hM := Lib.hid hM2; clear hF; have hF := hM2; (try simp only [Mem, cellsAt, World.size_alloc, Nat.zero_add, Nat.reduceAdd, and_true] at hF); clear hM2; clear hb))
      all_goals
        refine bodyPost_ret (v := .tuple #[U4 _ _ _ _, .int .i64 _]) (by simp [results, Tryd.results28, go_sem, hF]; exact ⟨⟨rfl, rfl, rfl, rfl⟩, rfl⟩) rfl ?_
        exact ⟨rfl, by (repeat (first | exact hB | refine bl_al ?_ _ | refine Below.setCell ?_ (by first | exact hgs | exact Nat.le_succ_of_le hgs | exact hgs2 | exact hgs3) _ | refine Below.drew ?_ | refine bl_drewN ?_ _))⟩
  · have hs1 : b / 8388608 % 2 = 1 := by omega
    rw [hs1] at hsg
    have h4 : expOk b = false := by
      unfold expOk
      rw [decide_eq_false hs]
      rfl
    have h5 : (t0 = 0 ∧ t1 = 0 ∧ t2 = 0 ∧ t3 = 0) ∧ er = 7 := by
      rcases h with ⟨h5, _⟩ | ⟨_, h5, h6⟩
      · rw [h4] at h5; cases h5
      · exact ⟨ht.inj b4_zero (h5.trans n4_zero.symm), h6⟩
    obtain ⟨⟨rfl, rfl, rfl, rfl⟩, rfl⟩ := h5
    clear h hmt hm hu hs hs1 h4
    go_enter Tryd.func28, Tryd.ntmps28
    go_wp2
    refine bodyPost_ret (v := .tuple #[U4 0 0 0 0, .int .i64 7]) (by simp [results, Tryd.results28, go_sem]) rfl ?_
    exact ⟨rfl, by (repeat (first | exact hB | refine bl_al ?_ _ | refine Below.setCell ?_ (by first | exact hgs | exact Nat.le_succ_of_le hgs | exact hgs2 | exact hgs3) _ | refine Below.drew ?_ | refine bl_drewN ?_ _))⟩
end Go.Proofs.YtfbhpkhpkaeagaaDoor

/- Package target: Expand, what it tells of any bits (moved here from Tg2 and Tg4). -/
namespace Go.Proofs.YtfbhpkhpkaeagaaDoor
set_option linter.unusedVariables false
set_option linter.unusedSimpArgs false
open Go.RowKit

theorem exp_small (b : Int) (hb : 0 ≤ b ∧ b < 4294967296) (h : expOk b = true) : 1 ≤ expV b ∧ expV b < WW - 1 := by
  unfold expOk at h
  simp only [Bool.and_eq_true, decide_eq_true_eq] at h
  obtain ⟨⟨_, h1⟩, h2⟩ := h
  have hd := Int.ediv_nonneg (a := b % 8388608) (b := 2 ^ (-(8 * (b / 16777216 - 3))).toNat) (by omega) (Int.le_of_lt (two_pow_pos _))
  have hd2 := Int.ediv_le_self (2 ^ (-(8 * (b / 16777216 - 3))).toNat) (show 0 ≤ b % 8388608 by omega)
  have h0 : 0 ≤ expV b := Int.mul_nonneg hd (Int.le_of_lt (two_pow_pos _))
  refine ⟨by omega, ?_⟩
  rcases Nat.eq_zero_or_pos (8 * (b / 16777216 - 3)).toNat with hz | hz
  · have : expV b ≤ 8388608 := by
      unfold expV
      rw [hz, Int.pow_zero, Int.mul_one]
      omega
    unfold WW WI
    omega
  · obtain ⟨k, hk⟩ : ∃ k, (8 * (b / 16777216 - 3)).toNat = k + 1 := ⟨_, (Nat.succ_pred_eq_of_pos hz).symm⟩
    have he : expV b % 2 = 0 := by
      unfold expV
      rw [hk, Int.pow_succ, ← Int.mul_assoc]
      exact Int.mul_emod_left _ _
    unfold WW WI at *
    omega

theorem exp_ex (b : Int) (hb : 0 ≤ b ∧ b < 4294967296) : ∃ t0 t1 t2 t3 er : Int, B4 t0 t1 t2 t3 ∧ ((expOk b = true ∧ N4 t0 t1 t2 t3 = expV b ∧ er = 0) ∨ (expOk b = false ∧ N4 t0 t1 t2 t3 = 0 ∧ er = 7)) := by
  cases h : expOk b with
  | true =>
    have hs := exp_small b hb h
    obtain ⟨t0, t1, t2, t3, ht, htn⟩ := b4_of (expV b) ⟨by omega, by omega⟩
    exact ⟨t0, t1, t2, t3, 0, ht, .inl ⟨rfl, htn, rfl⟩⟩
  | false => exact ⟨0, 0, 0, 0, 7, b4_zero, .inr ⟨rfl, n4_zero, rfl⟩⟩
end Go.Proofs.YtfbhpkhpkaeagaaDoor
