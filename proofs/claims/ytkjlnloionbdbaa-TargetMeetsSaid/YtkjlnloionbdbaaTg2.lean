/- Package target: Work (made by gen_tg.py). (hM) -/
import Derived.Test.YtkjlnloionbdbaaTg1
import Derived.Test.YtkjlnloionbdbaaFlt
namespace Go.Proofs.Ytkjlnloionbdbaa
set_option linter.unusedVariables false
set_option linter.unusedSimpArgs false
open Go.RowKit

/-- how much a hash is worth -/
def workV (b : Int) : Int := if expOk b = true then WW / (expV b + 1) else 0

theorem exp_small (b : Int) (hb : 0 ≤ b ∧ b < 4294967296) (h : expOk b = true) : 1 ≤ expV b ∧ expV b < WW - 1 := by
  unfold expOk at h
  simp only [Bool.and_eq_true, decide_eq_true_eq] at h
  obtain ⟨⟨_, h1⟩, h2⟩ := h
  have hd := Int.ediv_nonneg (a := b % 8388608) (b := 2 ^ (-(8 * (b / 16777216 - 3))).toNat) (by omega) (Int.le_of_lt (two_pow_pos _))
  have hd2 := Int.ediv_le_self (2 ^ (-(8 * (b / 16777216 - 3))).toNat) (show 0 ≤ b % 8388608 by omega)
  have h0 : 0 ≤ expV b := Int.mul_nonneg hd (Int.le_of_lt (two_pow_pos _))
  refine ⟨by omega, ?_⟩
  rcases Nat.eq_zero_or_pos (8 * (b / 16777216 - 3)).toNat with hz | hz
  · have : expV b ≤ 8388608 := by
      unfold expV
      rw [hz, Int.pow_zero, Int.mul_one]
      omega
    unfold WW WI
    omega
  · obtain ⟨k, hk⟩ : ∃ k, (8 * (b / 16777216 - 3)).toNat = k + 1 := ⟨_, (Nat.succ_pred_eq_of_pos hz).symm⟩
    have he : expV b % 2 = 0 := by
      unfold expV
      rw [hk, Int.pow_succ, ← Int.mul_assoc]
      exact Int.mul_emod_left _ _
    unfold WW WI at *
    omega

set_option maxRecDepth 100000 in
set_option maxHeartbeats 2000000 in
theorem work_any (b : Int) (hb : 0 ≤ b ∧ b < 4294967296) {v0 v1 v2 v3 : Int} (hv : B4 v0 v1 v2 v3) (h : N4 v0 v1 v2 v3 = workV b) (w : World) :
    Calls Try.prog 34 #[.int .u32 b] w fun e w' => e = .returned (U4 v0 v1 v2 v3) ∧ Below w.heap.size w w' := by
  have hB := Below.refl w.heap.size w
  have hM := Lib.hid (mem_nil w)
  have hF : True := trivial
  cases hok : expOk b with
  | false =>
    have HExp := Lib.hid (fun w => exp_any b hb b4_zero 7 (.inr ⟨hok, n4_zero, rfl⟩) w)
    have hw0 : workV b = 0 := by unfold workV; rw [hok]; rfl
    rw [hw0] at h
    obtain ⟨rfl, rfl, rfl, rfl⟩ := hv.inj b4_zero (h.trans n4_zero.symm)
    clear h hv hw0 hok
    have hgs := Nat.le_refl w.heap.size
    go_enter Try.func34, Try.ntmps34
    go_wp2_with (go_at_call 33; (with_reducible refine (HExp.out _).mono ?_); rintro e w1 ⟨rfl, hb⟩; have hB : Below w.heap.size w w1 := (by refine bl_then ?_ hb; (repeat (first | exact hB | refine bl_al ?_ _ | refine Below.setCell ?_ (by first | exact hgs | exact Nat.le_succ_of_le hgs | exact hgs2 | exact hgs3) _ | refine Below.drew ?_ | refine bl_drewN ?_ _))); (first | with_reducible have hM2 := Mem.later hb (hM.out) | with_reducible have hM2 := Mem.later hb (Mem.al (hM.out) _ _) | with_reducible have hM2 := Mem.later hb (Mem.al (Mem.al (hM.out) _ _) _ _) | with_reducible have hM2 := Mem.later hb (Mem.al (Mem.al (Mem.al (hM.out) _ _) _ _) _ _) | with_reducible have hM2 := Mem.later hb (Mem.al (Mem.al (Mem.al (Mem.al (hM.out) _ _) _ _) _ _) _ _) | with_reducible have hM2 := Mem.later hb (Mem.drew (hM.out)) | with_reducible have hM2 := Mem.later hb (Mem.drew (Mem.al (hM.out) _ _)) | with_reducible have hM2 := Mem.later hb (Mem.al (Mem.drew (hM.out)) _ _) | with_reducible have hM2 := Mem.later hb (Mem.al (Mem.drew (Mem.al (hM.out) _ _)) _ _) | with_reducible have hM2 := Mem.later hb (Mem.drew (Mem.al (Mem.al (hM.out) _ _) _ _)) | with_reducible have hM2 := Mem.later hb (Mem.al (Mem.al (Mem.drew (hM.out)) _ _) _ _) | with_reducible have hM2 := Mem.later hb (Mem.drew (Mem.drew (hM.out))) | with_reducible have hM2 := Mem.later hb (Mem.drew (Mem.al (Mem.drew (hM.out)) _ _)) | with_reducible have hM2 := Mem.later hb (Mem.drew (Mem.al (Mem.al (Mem.al (hM.out) _ _) _ _) _ _)) | with_reducible have hM2 := Mem.later hb (Mem.al (Mem.al (Mem.drew (Mem.al (hM.out) _ _)) _ _) _ _) | with_reducible have hM2 := Mem.later hb (Mem.drew (Mem.al (Mem.drew (Mem.al (hM.out) _ _)) _ _)) | with_reducible have hM2 := Mem.later hb (Mem.al (Mem.al (Mem.al (Mem.al (Mem.al (hM.out) _ _) _ _) _ _) _ _) _ _) | with_reducible have hM2 := Mem.later hb (Mem.al (Mem.al (Mem.al (Mem.al (Mem.al (Mem.al (hM.out) _ _) _ _) _ _) _ _) _ _) _ _) | with_reducible have hM2 := Mem.later hb (Mem.al (Mem.al (Mem.al (Mem.al (Mem.al (Mem.al (Mem.al (hM.out) _ _) _ _) _ _) _ _) _ _) _ _) _ _) | with_reducible have hM2 := Mem.later hb (Mem.al (Mem.al (Mem.al (Mem.al (Mem.al (Mem.al (Mem.al (Mem.al (hM.out) _ _) _ _) _ _) _ _) _ _) _ _) _ _) _ _)); (try simp only [World.size_alloc, size_drew] at hM2); clear hM; have hM := Lib.hid hM2; clear hF; have hF := hM2; (try simp only [Mem, cellsAt, World.size_alloc, Nat.zero_add, Nat.reduceAdd, and_true] at hF); clear hM2; clear hb)
    refine bodyPost_ret (v := U4 0 0 0 0) (by simp [results, Try.results34, go_sem, hF]) rfl ?_
    exact ⟨rfl, by (repeat (first | exact hB | refine bl_al ?_ _ | refine Below.setCell ?_ (by first | exact hgs | exact Nat.le_succ_of_le hgs | exact hgs2 | exact hgs3) _ | refine Below.drew ?_ | refine bl_drewN ?_ _))⟩
  | true =>
    have hs := exp_small b hb hok
    obtain ⟨t0, t1, t2, t3, ht, htn⟩ := b4_of (expV b) ⟨by omega, by omega⟩
    have HExp := Lib.hid (fun w => exp_any b hb ht 0 (.inl ⟨hok, htn, rfl⟩) w)
    obtain ⟨a0, a1, a2, a3, ha, han⟩ := b4_of (expV b + 1) ⟨by omega, by omega⟩
    have HAdd := Lib.hid (fun w => add_n ht b4_one.1 ha false (by rw [b4_one.2, htn, han]; simp) w)
    obtain ⟨hn, hnn⟩ := b4_not ht
    have HNot := Lib.hid (fun w => not_n ht w)
    have hp : 0 < expV b + 1 := by omega
    obtain ⟨q0, q1, q2, q3, hq, hqn⟩ := b4_of ((WW - 1 - expV b) / (expV b + 1)) ⟨Int.ediv_nonneg (by omega) (by omega), Int.lt_of_le_of_lt (Int.ediv_le_self _ (by omega)) (by omega)⟩
    obtain ⟨r0, r1, r2, r3, hr, hrn⟩ := b4_of ((WW - 1 - expV b) % (expV b + 1)) ⟨Int.emod_nonneg _ (by omega), Int.lt_trans (Int.emod_lt_of_pos _ hp) (by omega)⟩
    have HDiv := Lib.hid (fun w => div_is hn ha hq hr true (.inl ⟨rfl, by omega, by rw [hnn, htn, han]; exact hqn, by rw [hnn, htn, han]; exact hrn⟩) w)
    have hwv : workV b = (WW - 1 - expV b) / (expV b + 1) + 1 := by
      unfold workV
      rw [if_pos hok]
      have := Int.add_mul_ediv_right (WW - 1 - expV b) 1 (show expV b + 1 ≠ 0 by omega)
      rw [← this]
      congr 1
      omega
    have HAdd2 := Lib.hid (fun w => add_n hq b4_one.1 hv false (by rw [b4_one.2, hqn, h, hwv]; simp) w)
    have HOf := Lib.hid (fun w => of_any 1 w)
    clear h hv hok hs ht htn ha han hn hnn hp hq hqn hr hrn hwv
    generalize WI - 1 - t0 = n0 at *
    generalize WI - 1 - t1 = n1 at *
    generalize WI - 1 - t2 = n2 at *
    generalize WI - 1 - t3 = n3 at *
    go_enter Try.func34, Try.ntmps34
    go_wp2_with (go_at_call 33; (with_reducible refine (HExp.out _).mono ?_); rintro e w1 ⟨rfl, hb⟩; have hB : Below w.heap.size w w1 := (by refine bl_then ?_ hb; (repeat (first | exact hB | refine bl_al ?_ _ | refine Below.setCell ?_ (by first | exact hgs | exact Nat.le_succ_of_le hgs | exact hgs2 | exact hgs3) _ | refine Below.drew ?_ | refine bl_drewN ?_ _))); (first | with_reducible have hM2 := Mem.later hb (hM.out) | with_reducible have hM2 := Mem.later hb (Mem.al (hM.out) _ _) | with_reducible have hM2 := Mem.later hb (Mem.al (Mem.al (hM.out) _ _) _ _) | with_reducible have hM2 := Mem.later hb (Mem.al (Mem.al (Mem.al (hM.out) _ _) _ _) _ _) | with_reducible have hM2 := Mem.later hb (Mem.al (Mem.al (Mem.al (Mem.al (hM.out) _ _) _ _) _ _) _ _) | with_reducible have hM2 := Mem.later hb (Mem.drew (hM.out)) | with_reducible have hM2 := Mem.later hb (Mem.drew (Mem.al (hM.out) _ _)) | with_reducible have hM2 := Mem.later hb (Mem.al (Mem.drew (hM.out)) _ _) | with_reducible have hM2 := Mem.later hb (Mem.al (Mem.drew (Mem.al (hM.out) _ _)) _ _) | with_reducible have hM2 := Mem.later hb (Mem.drew (Mem.al (Mem.al (hM.out) _ _) _ _)) | with_reducible have hM2 := Mem.later hb (Mem.al (Mem.al (Mem.drew (hM.out)) _ _) _ _) | with_reducible have hM2 := Mem.later hb (Mem.drew (Mem.drew (hM.out))) | with_reducible have hM2 := Mem.later hb (Mem.drew (Mem.al (Mem.drew (hM.out)) _ _)) | with_reducible have hM2 := Mem.later hb (Mem.drew (Mem.al (Mem.al (Mem.al (hM.out) _ _) _ _) _ _)) | with_reducible have hM2 := Mem.later hb (Mem.al (Mem.al (Mem.drew (Mem.al (hM.out) _ _)) _ _) _ _) | with_reducible have hM2 := Mem.later hb (Mem.drew (Mem.al (Mem.drew (Mem.al (hM.out) _ _)) _ _)) | with_reducible have hM2 := Mem.later hb (Mem.al (Mem.al (Mem.al (Mem.al (Mem.al (hM.out) _ _) _ _) _ _) _ _) _ _) | with_reducible have hM2 := Mem.later hb (Mem.al (Mem.al (Mem.al (Mem.al (Mem.al (Mem.al (hM.out) _ _) _ _) _ _) _ _) _ _) _ _) | with_reducible have hM2 := Mem.later hb (Mem.al (Mem.al (Mem.al (Mem.al (Mem.al (Mem.al (Mem.al (hM.out) _ _) _ _) _ _) _ _) _ _) _ _) _ _) | with_reducible have hM2 := Mem.later hb (Mem.al (Mem.al (Mem.al (Mem.al (Mem.al (Mem.al (Mem.al (Mem.al (hM.out) _ _) _ _) _ _) _ _) _ _) _ _) _ _) _ _)); (try simp only [World.size_alloc, size_drew] at hM2); clear hM; have hM := Lib.hid hM2; clear hF; have hF := hM2; (try simp only [Mem, cellsAt, World.size_alloc, Nat.zero_add, Nat.reduceAdd, and_true] at hF); clear hM2; clear hb)
    have hMq := (Mem.al hM.out [.int .u64 t0, .int .u64 t1, .int .u64 t2, .int .u64 t3] 26)
    (try simp only [World.size_alloc] at hMq)
    have hBq := (bl_al hB (.cells #[.int .u64 t0, .int .u64 t1, .int .u64 t2, .int .u64 t3] 26))
    have hBs := hBq.size
    obtain ⟨LL, HLL, hMl⟩ := mem_name hMq
    have hLt := Lib.hid (Mem.lt hMl)
    refine wp_float (MB w LL) (fun _ => .cells #[.int .u64 0, .int .u64 0, .int .u64 0, .int .u64 0] 26) [0, 1, 2, 3, 4, 5] [6] [7, 8] [5] (by kernel_rfl) (by kernel_rfl) ?_ MB.later ⟨hMl, hBq⟩ ?_
    · intro k hk
      simp only [List.mem_cons, List.not_mem_nil, or_false] at hk
      subst hk; exact ⟨_, rfl, rfl, fun a w => by go_simp; rfl⟩
    have hLL := HLL.out
    subst hLL
    clear HLL hMq hM hF hB hBq hMl
    iterate 1 (refine wpG_take rfl (by rfl) (by intro w' hSw; (try dsimp only [MB, Mem, cellsAt] at hSw); go_simp; (try with_reducible rfl)) ?_; (try simp only [Act.put, List.setIfInBounds_toArray, List.set_cons_zero, List.set_cons_succ]))
    (refine wpG_call MB.later (HOf.out) rfl (by rfl) (by intro w' hSw; (try dsimp only [MB, Mem, cellsAt] at hSw); go_simp; (try with_reducible rfl)) ?_; (try simp only [Act.put, List.setIfInBounds_toArray, List.set_cons_zero, List.set_cons_succ]))
    (refine wpG_call MB.later (HAdd.out) rfl (by rfl) (by intro w' hSw; (try dsimp only [MB, Mem, cellsAt] at hSw); go_simp; (try with_reducible rfl)) ?_; (try simp only [Act.put, List.setIfInBounds_toArray, List.set_cons_zero, List.set_cons_succ]))
    iterate 3 (refine wpG_take rfl (by rfl) (by intro w' hSw; (try dsimp only [MB, Mem, cellsAt] at hSw); go_simp; (try with_reducible rfl)) ?_; (try simp only [Act.put, List.setIfInBounds_toArray, List.set_cons_zero, List.set_cons_succ]))
    (refine wpG_nil ?_)
    intro G w2 hG hSw hbx hsz
    obtain ⟨g, eg, hlg, hbm⟩ := box_one hG hbx 6 (by simp) (vs := [.int .u64 0, .int .u64 0, .int .u64 0, .int .u64 0]) rfl
    simp only [putAll, eg, dstOf, ptrOf, List.getElem?_toArray, List.getElem?_cons_zero, List.getElem?_cons_succ, Option.bind_some, Act.put, List.setIfInBounds_toArray, List.set_cons_zero, List.set_cons_succ]
    have n2 := set_one hLt.out hlg hbm hSw.1 a0 a1 a2 a3
    have hSw0 := hBs
    have hB := bl_set4 a0 a1 a2 a3 (Nat.le_trans hSw0 hlg) hSw.2
    have hF := hbm
    simp only [Mem, cellsAt, wset4, Nat.zero_add, Nat.reduceAdd, and_true] at hF
    (refine wpOps_go rfl ?_; go_simp)
    change wpOps _ _ _ _ _ (wset4 w2 g a0 a1 a2 a3)
    clear hF hSw hbx hG hsz hSw0 hLt hBs eg hlg hbm
    generalize wset4 w2 g a0 a1 a2 a3 = w3 at *
    (refine wpOps_go rfl ?_; go_simp)
    refine wpOps_none ?_
    have hM := Lib.hid n2
    have hF := n2
    simp only [Mem, cellsAt, Nat.zero_add, Nat.reduceAdd, and_true] at hF
    clear n2
    go_wp2
    have hMq := hM.out
    have hBq := hB
    have hBs := hBq.size
    obtain ⟨LL, HLL, hMl⟩ := mem_name hMq
    have hLt := Lib.hid (Mem.lt hMl)
    refine wp_float (MB w LL) (fun _ => .cells #[.int .u64 0, .int .u64 0, .int .u64 0, .int .u64 0] 26) [0, 1, 2, 3, 4, 5, 6, 7] [8, 9] [10, 11, 12] [6, 7] (by kernel_rfl) (by kernel_rfl) ?_ MB.later ⟨hMl, hBq⟩ ?_
    · intro k hk
      simp only [List.mem_cons, List.not_mem_nil, or_false] at hk
      rcases hk with rfl | rfl <;> exact ⟨_, rfl, rfl, fun a w => by go_simp; rfl⟩
    have hLL := HLL.out
    subst hLL
    clear HLL hMq hM hF hB hBq hMl
    iterate 1 (refine wpG_take rfl (by rfl) (by intro w' hSw; (try dsimp only [MB, Mem, cellsAt] at hSw); go_simp; (try with_reducible rfl)) ?_; (try simp only [Act.put, List.setIfInBounds_toArray, List.set_cons_zero, List.set_cons_succ]))
    (refine wpG_call MB.later (HNot.out) rfl (by rfl) (by intro w' hSw; (try dsimp only [MB, Mem, cellsAt] at hSw); go_simp; (try with_reducible rfl)) ?_; (try simp only [Act.put, List.setIfInBounds_toArray, List.set_cons_zero, List.set_cons_succ]))
    iterate 1 (refine wpG_take rfl (by rfl) (by intro w' hSw; (try dsimp only [MB, Mem, cellsAt] at hSw); go_simp; (try with_reducible rfl)) ?_; (try simp only [Act.put, List.setIfInBounds_toArray, List.set_cons_zero, List.set_cons_succ]))
    (refine wpG_call MB.later (HDiv.out) rfl (by rfl) (by intro w' hSw; (try dsimp only [MB, Mem, cellsAt] at hSw); go_simp; (try with_reducible rfl)) ?_; (try simp only [Act.put, List.setIfInBounds_toArray, List.set_cons_zero, List.set_cons_succ]))
    iterate 4 (refine wpG_take rfl (by rfl) (by intro w' hSw; (try dsimp only [MB, Mem, cellsAt] at hSw); go_simp; (try with_reducible rfl)) ?_; (try simp only [Act.put, List.setIfInBounds_toArray, List.set_cons_zero, List.set_cons_succ]))
    (refine wpG_nil ?_)
    intro G w2 hG hSw hbx hsz
    obtain ⟨g, g', eg, eg', hlg, hlg', hne, hbm⟩ := box_two hG hbx (by decide) (vs := [.int .u64 0, .int .u64 0, .int .u64 0, .int .u64 0]) (us := [.int .u64 0, .int .u64 0, .int .u64 0, .int .u64 0]) rfl rfl
    simp only [putAll, eg, eg', dstOf, ptrOf, List.getElem?_toArray, List.getElem?_cons_zero, List.getElem?_cons_succ, Option.bind_some, Act.put, List.setIfInBounds_toArray, List.set_cons_zero, List.set_cons_succ]
    obtain ⟨n1, n2⟩ := set_two hLt.out hlg hlg' hne hbm hSw.1 q0 q1 q2 q3 r0 r1 r2 r3
    have hSw0 := hBs
    have hB := bl_set4 r0 r1 r2 r3 (Nat.le_trans hSw0 hlg') (bl_set4 q0 q1 q2 q3 (Nat.le_trans hSw0 hlg) hSw.2)
    have hF := hbm
    simp only [Mem, cellsAt, wset4, Nat.zero_add, Nat.reduceAdd, and_true] at hF
    (refine wpOps_go rfl ?_; go_simp)
    clear hF
    have hF := n1
    simp only [Mem, cellsAt, wset4, Nat.zero_add, Nat.reduceAdd, and_true] at hF
    (refine wpOps_go rfl ?_; go_simp)
    change wpOps _ _ _ _ _ (wset4 (wset4 w2 g q0 q1 q2 q3) g' r0 r1 r2 r3)
    clear hF hSw hbx hG hsz hSw0 hLt hBs eg eg' hlg hlg' hne hbm n1
    generalize wset4 (wset4 w2 g q0 q1 q2 q3) g' r0 r1 r2 r3 = w3 at *
    (refine wpOps_go rfl ?_; go_simp)
    refine wpOps_none ?_
    have hM := Lib.hid n2
    have hF := n2
    simp only [Mem, cellsAt, Nat.zero_add, Nat.reduceAdd, and_true] at hF
    clear n2
    go_wp2
    have hMq := hM.out
    have hBq := hB
    have hBs := hBq.size
    obtain ⟨LL, HLL, hMl⟩ := mem_name hMq
    have hLt := Lib.hid (Mem.lt hMl)
    refine wp_float (MB w LL) (fun _ => .cells #[.int .u64 0, .int .u64 0, .int .u64 0, .int .u64 0] 26) [0, 1, 2, 3, 4, 5] [6] [7, 8] [5] (by kernel_rfl) (by kernel_rfl) ?_ MB.later ⟨hMl, hBq⟩ ?_
    · intro k hk
      simp only [List.mem_cons, List.not_mem_nil, or_false] at hk
      subst hk; exact ⟨_, rfl, rfl, fun a w => by go_simp; rfl⟩
    have hLL := HLL.out
    subst hLL
    clear HLL hMq hM hF hB hBq hMl
    iterate 1 (refine wpG_take rfl (by rfl) (by intro w' hSw; (try dsimp only [MB, Mem, cellsAt] at hSw); go_simp; (try with_reducible rfl)) ?_; (try simp only [Act.put, List.setIfInBounds_toArray, List.set_cons_zero, List.set_cons_succ]))
    (refine wpG_call MB.later (HOf.out) rfl (by rfl) (by intro w' hSw; (try dsimp only [MB, Mem, cellsAt] at hSw); go_simp; (try with_reducible rfl)) ?_; (try simp only [Act.put, List.setIfInBounds_toArray, List.set_cons_zero, List.set_cons_succ]))
    (refine wpG_call MB.later (HAdd2.out) rfl (by rfl) (by intro w' hSw; (try dsimp only [MB, Mem, cellsAt] at hSw); go_simp; (try with_reducible rfl)) ?_; (try simp only [Act.put, List.setIfInBounds_toArray, List.set_cons_zero, List.set_cons_succ]))
    iterate 3 (refine wpG_take rfl (by rfl) (by intro w' hSw; (try dsimp only [MB, Mem, cellsAt] at hSw); go_simp; (try with_reducible rfl)) ?_; (try simp only [Act.put, List.setIfInBounds_toArray, List.set_cons_zero, List.set_cons_succ]))
    (refine wpG_nil ?_)
    intro G w2 hG hSw hbx hsz
    obtain ⟨g, eg, hlg, hbm⟩ := box_one hG hbx 6 (by simp) (vs := [.int .u64 0, .int .u64 0, .int .u64 0, .int .u64 0]) rfl
    simp only [putAll, eg, dstOf, ptrOf, List.getElem?_toArray, List.getElem?_cons_zero, List.getElem?_cons_succ, Option.bind_some, Act.put, List.setIfInBounds_toArray, List.set_cons_zero, List.set_cons_succ]
    have n2 := set_one hLt.out hlg hbm hSw.1 v0 v1 v2 v3
    have hSw0 := hBs
    have hB := bl_set4 v0 v1 v2 v3 (Nat.le_trans hSw0 hlg) hSw.2
    have hF := hbm
    simp only [Mem, cellsAt, wset4, Nat.zero_add, Nat.reduceAdd, and_true] at hF
    (refine wpOps_go rfl ?_; go_simp)
    change wpOps _ _ _ _ _ (wset4 w2 g v0 v1 v2 v3)
    clear hF hSw hbx hG hsz hSw0 hLt hBs eg hlg hbm
    generalize wset4 w2 g v0 v1 v2 v3 = w3 at *
    (refine wpOps_go rfl ?_; go_simp)
    refine wpOps_none ?_
    have hM := Lib.hid n2
    have hF := n2
    simp only [Mem, cellsAt, Nat.zero_add, Nat.reduceAdd, and_true] at hF
    clear n2
    have hgs := Nat.le_refl w.heap.size
    go_wp2
    refine bodyPost_ret (v := U4 v0 v1 v2 v3) (by simp [results, Try.results34, go_sem, hF]) rfl ?_
    exact ⟨rfl, by (repeat (first | exact hB | refine bl_al ?_ _ | refine Below.setCell ?_ (by first | exact hgs | exact Nat.le_succ_of_le hgs | exact hgs2 | exact hgs3) _ | refine Below.drew ?_ | refine bl_drewN ?_ _))⟩
end Go.Proofs.Ytkjlnloionbdbaa
