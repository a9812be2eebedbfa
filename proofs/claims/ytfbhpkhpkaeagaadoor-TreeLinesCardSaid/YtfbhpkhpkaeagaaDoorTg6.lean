/- Package target: Work (made by gen_tg.py). (hM) Merged: Tg2, Tg3, Tg4, UDvs, Tg5, Tg6, TgB0. -/
import Derived.Test.YtfbhpkhpkaeagaaDoorTgE
import Derived.Test.YtfbhpkhpkaeagaaDoorFlt
/- Package target: Work (made by gen_tg.py). (hM) -/
namespace Go.Proofs.YtfbhpkhpkaeagaaDoor
set_option linter.unusedVariables false
set_option linter.unusedSimpArgs false
open Go.RowKit

/-- how much a hash is worth -/
def workV (b : Int) : Int := if expOk b = true then WW / (expV b + 1) else 0

set_option maxRecDepth 100000 in
set_option maxHeartbeats 2000000 in
theorem work_any (b : Int) (hb : 0 ≤ b ∧ b < 4294967296) {v0 v1 v2 v3 : Int} (hv : B4 v0 v1 v2 v3) (h : N4 v0 v1 v2 v3 = workV b) (w : World) :
    Calls Tryd.prog 20 #[.int .u32 b] w fun e w' => e = .returned (U4 v0 v1 v2 v3) ∧ Below w.heap.size w w' := by
  have hB := Below.refl w.heap.size w
  have hM := Lib.hid (mem_nil w)
  have hF : True := trivial
  cases hok : expOk b with
  | false =>
    have HExp := Lib.hid (fun w => exp_any b hb b4_zero 7 (.inr ⟨hok, n4_zero, rfl⟩) w)
    have hw0 : workV b = 0 := by unfold workV; rw [hok]; rfl
    rw [hw0] at h
    obtain ⟨rfl, rfl, rfl, rfl⟩ := hv.inj b4_zero (h.trans n4_zero.symm)
    clear h hv hw0 hok
    have hgs := Nat.le_refl w.heap.size
    go_enter Tryd.func20, Tryd.ntmps20
    go_wp2_with (go_at_call 28; (with_reducible refine (HExp.out _).mono ?_); rintro e w1 ⟨rfl, hb⟩; have hB : Below w.heap.size w w1 := (by refine bl_then ?_ hb; (repeat (first | exact hB | refine bl_al ?_ _ | refine Below.setCell ?_ (by first | exact hgs | exact Nat.le_succ_of_le hgs | exact hgs2 | exact hgs3) _ | refine Below.drew ?_ | refine bl_drewN ?_ _))); (first | with_reducible have hM2 := Mem.later hb (hM.out) | with_reducible have hM2 := Mem.later hb (Mem.al (hM.out) _ _) | with_reducible have hM2 := Mem.later hb (Mem.al (Mem.al (hM.out) _ _) _ _) | with_reducible have hM2 := Mem.later hb (Mem.al (Mem.al (Mem.al (hM.out) _ _) _ _) _ _) | with_reducible have hM2 := Mem.later hb (Mem.al (Mem.al (Mem.al (Mem.al (hM.out) _ _) _ _) _ _) _ _) | with_reducible have hM2 := Mem.later hb (Mem.drew (hM.out)) | with_reducible have hM2 := Mem.later hb (Mem.drew (Mem.al (hM.out) _ _)) | with_reducible have hM2 := Mem.later hb (Mem.al (Mem.drew (hM.out)) _ _) | with_reducible have hM2 := Mem.later hb (Mem.al (Mem.drew (Mem.al (hM.out) _ _)) _ _) | with_reducible have hM2 := Mem.later hb (Mem.drew (Mem.al (Mem.al (hM.out) _ _) _ _)) | with_reducible have hM2 := Mem.later hb (Mem.al (Mem.al (Mem.drew (hM.out)) _ _) _ _) | with_reducible have hM2 := Mem.later hb (Mem.drew (Mem.drew (hM.out))) | with_reducible have hM2 := Mem.later hb (Mem.drew (Mem.al (Mem.drew (hM.out)) _ _)) | with_reducible have hM2 := Mem.later hb (Mem.drew (Mem.al (Mem.al (Mem.al (hM.out) _ _) _ _) _ _)) | with_reducible have hM2 := Mem.later hb (Mem.al (Mem.al (Mem.drew (Mem.al (hM.out) _ _)) _ _) _ _) | with_reducible have hM2 := Mem.later hb (Mem.drew (Mem.al (Mem.drew (Mem.al (hM.out) _ _)) _ _)) | with_reducible have hM2 := Mem.later hb (Mem.al (Mem.al (Mem.al (Mem.al (Mem.al (hM.out) _ _) _ _) _ _) _ _) _ _) | with_reducible have hM2 := Mem.later hb (Mem.al (Mem.al (Mem.al (Mem.al (Mem.al (Mem.al (hM.out) _ _) _ _) _ _) _ _) _ _) _ _) | with_reducible have hM2 := Mem.later hb (Mem.al (Mem.al (Mem.al (Mem.al (Mem.al (Mem.al (Mem.al (hM.out) _ _) _ _) _ _) _ _) _ _) _ _) _ _) | with_reducible have hM2 := Mem.later hb (Mem.al (Mem.al (Mem.al (Mem.al (Mem.al (Mem.al (Mem.al (Mem.al (hM.out) _ _) _ _) _ _) _ _) _ _) _ _) _ _) _ _)); (try simp only [World.size_alloc, size_drew] at hM2); clear hM; have hM := Lib.hid hM2; clear hF; have hF := hM2; (try simp only [Mem, cellsAt, World.size_alloc, Nat.zero_add, Nat.reduceAdd, and_true] at hF); clear hM2; clear hb)
    refine bodyPost_ret (v := U4 0 0 0 0) (by simp [results, Tryd.results20, go_sem, hF]) rfl ?_
    exact ⟨rfl, by (repeat (first | exact hB | refine bl_al ?_ _ | refine Below.setCell ?_ (by first | exact hgs | exact Nat.le_succ_of_le hgs | exact hgs2 | exact hgs3) _ | refine Below.drew ?_ | refine bl_drewN ?_ _))⟩
  | true =>
    have hs := exp_small b hb hok
    obtain ⟨t0, t1, t2, t3, ht, htn⟩ := b4_of (expV b) ⟨by omega, by omega⟩
    have HExp := Lib.hid (fun w => exp_any b hb ht 0 (.inl ⟨hok, htn, rfl⟩) w)
    obtain ⟨a0, a1, a2, a3, ha, han⟩ := b4_of (expV b + 1) ⟨by omega, by omega⟩
    have HAdd := Lib.hid (fun w => add_n ht b4_one.1 ha false (by rw [b4_one.2, htn, han]; simp) w)
    obtain ⟨hn, hnn⟩ := b4_not ht
    have HNot := Lib.hid (fun w => not_n ht w)
    have hp : 0 < expV b + 1 := by omega
    obtain ⟨q0, q1, q2, q3, hq, hqn⟩ := b4_of ((WW - 1 - expV b) / (expV b + 1)) ⟨Int.ediv_nonneg (by omega) (by omega), Int.lt_of_le_of_lt (Int.ediv_le_self _ (by omega)) (by omega)⟩
    obtain ⟨r0, r1, r2, r3, hr, hrn⟩ := b4_of ((WW - 1 - expV b) % (expV b + 1)) ⟨Int.emod_nonneg _ (by omega), Int.lt_trans (Int.emod_lt_of_pos _ hp) (by omega)⟩
    have HDiv := Lib.hid (fun w => div_is hn ha hq hr true (.inl ⟨rfl, by omega, by rw [hnn, htn, han]; exact hqn, by rw [hnn, htn, han]; exact hrn⟩) w)
    have hwv : workV b = (WW - 1 - expV b) / (expV b + 1) + 1 := by
      unfold workV
      rw [if_pos hok]
      have := Int.add_mul_ediv_right (WW - 1 - expV b) 1 (show expV b + 1 ≠ 0 by omega)
      rw [← this]
      congr 1
      omega
    have HAdd2 := Lib.hid (fun w => add_n hq b4_one.1 hv false (by rw [b4_one.2, hqn, h, hwv]; simp) w)
    have HOf := Lib.hid (fun w => of_any 1 w)
    clear h hv hok hs ht htn ha han hn hnn hp hq hqn hr hrn hwv
    generalize WI - 1 - t0 = n0 at *
    generalize WI - 1 - t1 = n1 at *
    generalize WI - 1 - t2 = n2 at *
    generalize WI - 1 - t3 = n3 at *
    go_enter Tryd.func20, Tryd.ntmps20
    go_wp2_with (go_at_call 28; (with_reducible refine (HExp.out _).mono ?_); rintro e w1 ⟨rfl, hb⟩; have hB : Below w.heap.size w w1 := (by refine bl_then ?_ hb; (repeat (first | exact hB | refine bl_al ?_ _ | refine Below.setCell ?_ (by first | exact hgs | exact Nat.le_succ_of_le hgs | exact hgs2 | exact hgs3) _ | refine Below.drew ?_ | refine bl_drewN ?_ _))); (first | with_reducible have hM2 := Mem.later hb (hM.out) | with_reducible have hM2 := Mem.later hb (Mem.al (hM.out) _ _) | with_reducible have hM2 := Mem.later hb (Mem.al (Mem.al (hM.out) _ _) _ _) | with_reducible have hM2 := Mem.later hb (Mem.al (Mem.al (Mem.al (hM.out) _ _) _ _) _ _) | with_reducible have hM2 := Mem.later hb (Mem.al (Mem.al (Mem.al (Mem.al (hM.out) _ _) _ _) _ _) _ _) | with_reducible have hM2 := Mem.later hb (Mem.drew (hM.out)) | with_reducible have hM2 := Mem.later hb (Mem.drew (Mem.al (hM.out) _ _)) | with_reducible have hM2 := Mem.later hb (Mem.al (Mem.drew (hM.out)) _ _) | with_reducible have hM2 := Mem.later hb (Mem.al (Mem.drew (Mem.al (hM.out) _ _)) _ _) | with_reducible have hM2 := Mem.later hb (Mem.drew (Mem.al (Mem.al (hM.out) _ _) _ _)) | with_reducible have hM2 := Mem.later hb (Mem.al (Mem.al (Mem.drew (hM.out)) _ _) _ _) | with_reducible have hM2 := Mem.later hb (Mem.drew (Mem.drew (hM.out))) | with_reducible have hM2 := Mem.later hb (Mem.drew (Mem.al (Mem.drew (hM.out)) _ _)) | with_reducible have hM2 := Mem.later hb (Mem.drew (Mem.al (Mem.al (Mem.al (hM.out) _ _) _ _) _ _)) | with_reducible have hM2 := Mem.later hb (Mem.al (Mem.al (Mem.drew (Mem.al (hM.out) _ _)) _ _) _ _) | with_reducible have hM2 := Mem.later hb (Mem.drew (Mem.al (Mem.drew (Mem.al (hM.out) _ _)) _ _)) | with_reducible have hM2 := Mem.later hb (Mem.al (Mem.al (Mem.al (Mem.al (Mem.al (hM.out) _ _) _ _) _ _) _ _) _ _) | with_reducible have hM2 := Mem.later hb (Mem.al (Mem.al (Mem.al (Mem.al (Mem.al (Mem.al (hM.out) _ _) _ _) _ _) _ _) _ _) _ _) | with_reducible have hM2 := Mem.later hb (Mem.al (Mem.al (Mem.al (Mem.al (Mem.al (Mem.al (Mem.al (hM.out) _ _) _ _) _ _) _ _) _ _) _ _) _ _) | with_reducible have hM2 := Mem.later hb (Mem.al (Mem.al (Mem.al (Mem.al (Mem.al (Mem.al (Mem.al (Mem.al (hM.out) _ _) _ _) _ _) _ _) _ _) _ _) _ _) _ _)); (try simp only [World.size_alloc, size_drew] at hM2); clear hM; have hM := Lib.hid hM2; clear hF; have hF := hM2; (try simp only [Mem, cellsAt, World.size_alloc, Nat.zero_add, Nat.reduceAdd, and_true] at hF); clear hM2; clear hb)
    have hMq := (Mem.al hM.out [.int .u64 t0, .int .u64 t1, .int .u64 t2, .int .u64 t3] 42)
    (try simp only [World.size_alloc] at hMq)
    have hBq := (bl_al hB (.cells #[.int .u64 t0, .int .u64 t1, .int .u64 t2, .int .u64 t3] 42))
    have hBs := hBq.size
    obtain ⟨LL, HLL, hMl⟩ := mem_name hMq
    have hLt := Lib.hid (Mem.lt hMl)
    refine wp_float (MB w LL) (fun _ => .cells #[.int .u64 0, .int .u64 0, .int .u64 0, .int .u64 0] 42) [0, 1, 2, 3, 4, 5] [6] [7, 8] [5] (by kernel_rfl) (by kernel_rfl) ?_ MB.later ⟨hMl, hBq⟩ ?_
    · intro k hk
      simp only [List.mem_cons, List.not_mem_nil, or_false] at hk
      subst hk; exact ⟨_, rfl, rfl, fun a w => by go_simp; rfl⟩
    have hLL := HLL.out
    subst hLL
    clear HLL hMq hM hF hB hBq hMl
    iterate 1 (refine wpG_take rfl (by rfl) (by intro w' hSw; (try dsimp only [MB, Mem, cellsAt] at hSw); go_simp; (try with_reducible rfl)) ?_; (try simp only [Act.put, List.setIfInBounds_toArray, List.set_cons_zero, List.set_cons_succ]))
    (refine wpG_call MB.later (HOf.out) rfl (by rfl) (by intro w' hSw; (try dsimp only [MB, Mem, cellsAt] at hSw); go_simp; (try with_reducible rfl)) ?_; (try simp only [Act.put, List.setIfInBounds_toArray, List.set_cons_zero, List.set_cons_succ]))
    (refine wpG_call MB.later (HAdd.out) rfl (by rfl) (by intro w' hSw; (try dsimp only [MB, Mem, cellsAt] at hSw); go_simp; (try with_reducible rfl)) ?_; (try simp only [Act.put, List.setIfInBounds_toArray, List.set_cons_zero, List.set_cons_succ]))
    iterate 3 (refine wpG_take rfl (by rfl) (by intro w' hSw; (try dsimp only [MB, Mem, cellsAt] at hSw); go_simp; (try with_reducible rfl)) ?_; (try simp only [Act.put, List.setIfInBounds_toArray, List.set_cons_zero, List.set_cons_succ]))
    (refine wpG_nil ?_)
    intro G w2 hG hSw hbx hsz
    obtain ⟨g, eg, hlg, hbm⟩ := box_one hG hbx 6 (by simp) (vs := [.int .u64 0, .int .u64 0, .int .u64 0, .int .u64 0]) rfl
    simp only [putAll, eg, dstOf, ptrOf, List.getElem?_toArray, List.getElem?_cons_zero, List.getElem?_cons_succ, Option.bind_some, Act.put, List.setIfInBounds_toArray, List.set_cons_zero, List.set_cons_succ]
    have n2 := set_one hLt.out hlg hbm hSw.1 a0 a1 a2 a3
    have hSw0 := hBs
    have hB := bl_set4 a0 a1 a2 a3 (Nat.le_trans hSw0 hlg) hSw.2
    have hF := hbm
    simp only [Mem, cellsAt, wset4, Nat.zero_add, Nat.reduceAdd, and_true] at hF
    (refine wpOps_go rfl ?_; go_simp)
    change wpOps _ _ _ _ _ (wset4 w2 g a0 a1 a2 a3)
    clear hF hSw hbx hG hsz hSw0 hLt hBs eg hlg hbm
    generalize wset4 w2 g a0 a1 a2 a3 = w3 at *
    (refine wpOps_go rfl ?_; go_simp)
    refine wpOps_none ?_
    have hM := Lib.hid n2
    have hF := n2
    simp only [Mem, cellsAt, Nat.zero_add, Nat.reduceAdd, and_true] at hF
    clear n2
    go_wp2
    have hMq := hM.out
    have hBq := hB
    have hBs := hBq.size
    obtain ⟨LL, HLL, hMl⟩ := mem_name hMq
    have hLt := Lib.hid (Mem.lt hMl)
    refine wp_float (MB w LL) (fun _ => .cells #[.int .u64 0, .int .u64 0, .int .u64 0, .int .u64 0] 42) [0, 1, 2, 3, 4, 5, 6, 7] [8, 9] [10, 11, 12] [6, 7] (by kernel_rfl) (by kernel_rfl) ?_ MB.later ⟨hMl, hBq⟩ ?_
    · intro k hk
      simp only [List.mem_cons, List.not_mem_nil, or_false] at hk
      rcases hk with rfl | rfl <;> exact ⟨_, rfl, rfl, fun a w => by go_simp; rfl⟩
    have hLL := HLL.out
    subst hLL
    clear HLL hMq hM hF hB hBq hMl
    iterate 1 (refine wpG_take rfl (by rfl) (by intro w' hSw; (try dsimp only [MB, Mem, cellsAt] at hSw); go_simp; (try with_reducible rfl)) ?_; (try simp only [Act.put, List.setIfInBounds_toArray, List.set_cons_zero, List.set_cons_succ]))
    (refine wpG_call MB.later (HNot.out) rfl (by rfl) (by intro w' hSw; (try dsimp only [MB, Mem, cellsAt] at hSw); go_simp; (try with_reducible rfl)) ?_; (try simp only [Act.put, List.setIfInBounds_toArray, List.set_cons_zero, List.set_cons_succ]))
    iterate 1 (refine wpG_take rfl (by rfl) (by intro w' hSw; (try dsimp only [MB, Mem, cellsAt] at hSw); go_simp; (try with_reducible rfl)) ?_; (try simp only [Act.put, List.setIfInBounds_toArray, List.set_cons_zero, List.set_cons_succ]))
    (refine wpG_call MB.later (HDiv.out) rfl (by rfl) (by intro w' hSw; (try dsimp only [MB, Mem, cellsAt] at hSw); go_simp; (try with_reducible rfl)) ?_; (try simp only [Act.put, List.setIfInBounds_toArray, List.set_cons_zero, List.set_cons_succ]))
    iterate 4 (refine wpG_take rfl (by rfl) (by intro w' hSw; (try dsimp only [MB, Mem, cellsAt] at hSw); go_simp; (try with_reducible rfl)) ?_; (try simp only [Act.put, List.setIfInBounds_toArray, List.set_cons_zero, List.set_cons_succ]))
    (refine wpG_nil ?_)
    intro G w2 hG hSw hbx hsz
    obtain ⟨g, g', eg, eg', hlg, hlg', hne, hbm⟩ := box_two hG hbx (by decide) (vs := [.int .u64 0, .int .u64 0, .int .u64 0, .int .u64 0]) (us := [.int .u64 0, .int .u64 0, .int .u64 0, .int .u64 0]) rfl rfl
    simp only [putAll, eg, eg', dstOf, ptrOf, List.getElem?_toArray, List.getElem?_cons_zero, List.getElem?_cons_succ, Option.bind_some, Act.put, List.setIfInBounds_toArray, List.set_cons_zero, List.set_cons_succ]
    obtain ⟨n1, n2⟩ := set_two hLt.out hlg hlg' hne hbm hSw.1 q0 q1 q2 q3 r0 r1 r2 r3
    have hSw0 := hBs
    have hB := bl_set4 r0 r1 r2 r3 (Nat.le_trans hSw0 hlg') (bl_set4 q0 q1 q2 q3 (Nat.le_trans hSw0 hlg) hSw.2)
    have hF := hbm
    simp only [Mem, cellsAt, wset4, Nat.zero_add, Nat.reduceAdd, and_true] at hF
    (refine wpOps_go rfl ?_; go_simp)
    clear hF
    have hF := n1
    simp only [Mem, cellsAt, wset4, Nat.zero_add, Nat.reduceAdd, and_true] at hF
    (refine wpOps_go rfl ?_; go_simp)
    change wpOps _ _ _ _ _ (wset4 (wset4 w2 g q0 q1 q2 q3) g' r0 r1 r2 r3)
    clear hF hSw hbx hG hsz hSw0 hLt hBs eg eg' hlg hlg' hne hbm n1
    generalize wset4 (wset4 w2 g q0 q1 q2 q3) g' r0 r1 r2 r3 = w3 at *
    (refine wpOps_go rfl ?_; go_simp)
    refine wpOps_none ?_
    have hM := Lib.hid n2
    have hF := n2
    simp only [Mem, cellsAt, Nat.zero_add, Nat.reduceAdd, and_true] at hF
    clear n2
    go_wp2
    have hMq := hM.out
    have hBq := hB
    have hBs := hBq.size
    obtain ⟨LL, HLL, hMl⟩ := mem_name hMq
    have hLt := Lib.hid (Mem.lt hMl)
    refine wp_float (MB w LL) (fun _ => .cells #[.int .u64 0, .int .u64 0, .int .u64 0, .int .u64 0] 42) [0, 1, 2, 3, 4, 5] [6] [7, 8] [5] (by kernel_rfl) (by kernel_rfl) ?_ MB.later ⟨hMl, hBq⟩ ?_
    · intro k hk
      simp only [List.mem_cons, List.not_mem_nil, or_false] at hk
      subst hk; exact ⟨_, rfl, rfl, fun a w => by go_simp; rfl⟩
    have hLL := HLL.out
    subst hLL
    clear HLL hMq hM hF hB hBq hMl
    iterate 1 (refine wpG_take rfl (by rfl) (by intro w' hSw; (try dsimp only [MB, Mem, cellsAt] at hSw); go_simp; (try with_reducible rfl)) ?_; (try simp only [Act.put, List.setIfInBounds_toArray, List.set_cons_zero, List.set_cons_succ]))
    (refine wpG_call MB.later (HOf.out) rfl (by rfl) (by intro w' hSw; (try dsimp only [MB, Mem, cellsAt] at hSw); go_simp; (try with_reducible rfl)) ?_; (try simp only [Act.put, List.setIfInBounds_toArray, List.set_cons_zero, List.set_cons_succ]))
    (refine wpG_call MB.later (HAdd2.out) rfl (by rfl) (by intro w' hSw; (try dsimp only [MB, Mem, cellsAt] at hSw); go_simp; (try with_reducible rfl)) ?_; (try simp only [Act.put, List.setIfInBounds_toArray, List.set_cons_zero, List.set_cons_succ]))
    iterate 3 (refine wpG_take rfl (by rfl) (by intro w' hSw; (try dsimp only [MB, Mem, cellsAt] at hSw); go_simp; (try with_reducible rfl)) ?_; (try simp only [Act.put, List.setIfInBounds_toArray, List.set_cons_zero, List.set_cons_succ]))
    (refine wpG_nil ?_)
    intro G w2 hG hSw hbx hsz
    obtain ⟨g, eg, hlg, hbm⟩ := box_one hG hbx 6 (by simp) (vs := [.int .u64 0, .int .u64 0, .int .u64 0, .int .u64 0]) rfl
    simp only [putAll, eg, dstOf, ptrOf, List.getElem?_toArray, List.getElem?_cons_zero, List.getElem?_cons_succ, Option.bind_some, Act.put, List.setIfInBounds_toArray, List.set_cons_zero, List.set_cons_succ]
    have n2 := set_one hLt.out hlg hbm hSw.1 v0 v1 v2 v3
    have hSw0 := hBs
    have hB := bl_set4 v0 v1 v2 v3 (Nat.le_trans hSw0 hlg) hSw.2
    have hF := hbm
    simp only [Mem, cellsAt, wset4, Nat.zero_add, Nat.reduceAdd, and_true] at hF
    (refine wpOps_go rfl ?_; go_simp)
    change wpOps _ _ _ _ _ (wset4 w2 g v0 v1 v2 v3)
    clear hF hSw hbx hG hsz hSw0 hLt hBs eg hlg hbm
    generalize wset4 w2 g v0 v1 v2 v3 = w3 at *
    (refine wpOps_go rfl ?_; go_simp)
    refine wpOps_none ?_
    have hM := Lib.hid n2
    have hF := n2
    simp only [Mem, cellsAt, Nat.zero_add, Nat.reduceAdd, and_true] at hF
    clear n2
    have hgs := Nat.le_refl w.heap.size
    go_wp2
    refine bodyPost_ret (v := U4 v0 v1 v2 v3) (by simp [results, Tryd.results20, go_sem, hF]) rfl ?_
    exact ⟨rfl, by (repeat (first | exact hB | refine bl_al ?_ _ | refine Below.setCell ?_ (by first | exact hgs | exact Nat.le_succ_of_le hgs | exact hgs2 | exact hgs3) _ | refine Below.drew ?_ | refine bl_drewN ?_ _))⟩
end Go.Proofs.YtfbhpkhpkaeagaaDoor

/- Package target: Shrink (made by gen_tg.py). (hM) -/
namespace Go.Proofs.YtfbhpkhpkaeagaaDoor
set_option linter.unusedVariables false
set_option linter.unusedSimpArgs false
open Go.RowKit

/-- the upper three bytes -/
def upV (A : Int) (s : Nat) : Int := A * 2 ^ (8 * (3 - (s : Int))).toNat / 2 ^ (8 * ((s : Int) - 3)).toNat
/-- a target's bits, from the number and its length in digits of two -/
def shrV (A : Int) (L : Nat) : Int := if upV A ((L + 7) / 8) / 8388608 % 2 = 1 then (((L + 7) / 8 : Nat) + 1) * 16777216 + upV A ((L + 7) / 8) / 256 else ((L + 7) / 8 : Nat) * 16777216 + upV A ((L + 7) / 8)

theorem up_small (A : Int) (L : Nat) (h0 : 0 ≤ A) (h1 : A < 2 ^ L) : 0 ≤ upV A ((L + 7) / 8) ∧ upV A ((L + 7) / 8) < 16777216 := by
  obtain ⟨s, hs⟩ : ∃ s, (L + 7) / 8 = s := ⟨_, rfl⟩
  rw [hs]
  unfold upV
  have hA : A < 2 ^ (8 * s) := Int.lt_of_lt_of_le h1 (pow2_le (by omega))
  refine ⟨Int.ediv_nonneg (Int.mul_nonneg h0 (Int.le_of_lt (two_pow_pos _))) (Int.le_of_lt (two_pow_pos _)), ?_⟩
  rw [Int.ediv_lt_iff_lt_mul (two_pow_pos _), show (16777216 : Int) = 2 ^ 24 by decide, ← Int.pow_add]
  have h2 := Int.mul_lt_mul_of_pos_right hA (two_pow_pos (8 * (3 - (s : Int))).toNat)
  rw [← Int.pow_add] at h2
  refine Int.lt_of_lt_of_le h2 (pow2_le (by omega))
theorem or32 (s m : Int) (hs : 0 ≤ s ∧ s < 256) (hm : 0 ≤ m ∧ m < 16777216) : bits .or .u32 (s * 16777216) m = s * 16777216 + m := by
  obtain ⟨S, rfl⟩ := Int.eq_ofNat_of_zero_le hs.1
  obtain ⟨M, rfl⟩ := Int.eq_ofNat_of_zero_le hm.1
  have e : (S : Int) * 16777216 = ((S * 16777216 : Nat) : Int) := by simp
  rw [e, u32_or_nat (S * 16777216) M (by omega) (by omega), nat_join 24 _ _ (by omega) (by omega)]
  simp

end Go.Proofs.YtfbhpkhpkaeagaaDoor

/- Stage 5's beginning (made by gen_tg2.py). (hM) -/
namespace Go.Proofs.YtfbhpkhpkaeagaaDoor
set_option linter.unusedVariables false
set_option linter.unusedSimpArgs false
open Go.RowKit

theorem u32_wf5 {n : Int} (h : (Lit.int .u32 n).wf = true) : 0 ≤ n ∧ n < 4294967296 := by
  simp only [Lit.wf, Bool.and_eq_true, decide_eq_true_eq] at h
  have h1 : IntKind.u32.min = 0 := by decide
  have h2 : IntKind.u32.max = 4294967295 := by decide
  omega
theorem neq_self (a0 a1 a2 a3 : Int) (w : World) : (binOp .neq 42 (U4 a0 a1 a2 a3) (U4 a0 a1 a2 a3)).run Tryd.prog w = .ok (.bool false) w := by
  have := neqArr Tryd.prog 4 42 40 .u64 Tryd.underlying42 Tryd.underlying40 (by kernel_rfl) [a0, a1, a2, a3] [a0, a1, a2, a3] rfl rfl w
  rw [show (!([a0, a1, a2, a3] == [a0, a1, a2, a3])) = false by simp] at this
  exact this
theorem work_ex (b : Int) (hb : 0 ≤ b ∧ b < 4294967296) : ∃ v0 v1 v2 v3 : Int, B4 v0 v1 v2 v3 ∧ N4 v0 v1 v2 v3 = workV b := by
  refine b4_of _ ?_
  unfold workV
  split
  · rename_i h
    have hs := exp_small b hb h
    refine ⟨Int.ediv_nonneg (by decide) (by omega), ?_⟩
    rw [Int.ediv_lt_iff_lt_mul (by omega)]
    have : WW * 2 ≤ WW * (expV b + 1) := Int.mul_le_mul_of_nonneg_left (by omega) (by decide)
    have : 0 < WW := by decide
    omega
  · exact ⟨Int.le_refl 0, by decide⟩

end Go.Proofs.YtfbhpkhpkaeagaaDoor

/- U256Divides: the walk of the law (made by gen_dvs.py). -/
namespace Go.Proofs.YtfbhpkhpkaeagaaDoor
set_option linter.unusedVariables false
set_option linter.unusedSimpArgs false
open Go.RowKit

theorem mul_ex {a0 a1 a2 a3 : Int} (ha : B4 a0 a1 a2 a3) (k : Int) (hk : 0 ≤ k) : ∃ s0 s1 s2 s3 c : Int, B4 s0 s1 s2 s3 ∧ 0 ≤ c ∧ N4 a0 a1 a2 a3 * k = N4 s0 s1 s2 s3 + WW * c := by
  have hn := ha.nn
  have hp : 0 ≤ N4 a0 a1 a2 a3 * k := Int.mul_nonneg hn.1 hk
  obtain ⟨s0, s1, s2, s3, hs, he⟩ := b4_of (N4 a0 a1 a2 a3 * k % WW) ⟨Int.emod_nonneg _ (by decide), Int.emod_lt_of_pos _ (by decide)⟩
  refine ⟨s0, s1, s2, s3, N4 a0 a1 a2 a3 * k / WW, hs, Int.ediv_nonneg hp (by decide), ?_⟩
  rw [he]
  have := Int.mul_ediv_add_emod (N4 a0 a1 a2 a3 * k) WW
  omega
theorem neq_same (a0 a1 a2 a3 : Int) (w : World) : (binOp .neq 42 (U4 a0 a1 a2 a3) (U4 a0 a1 a2 a3)).run Tryd.prog w = .ok (.bool false) w := by
  have := neqArr Tryd.prog 4 42 40 .u64 Tryd.underlying42 Tryd.underlying40 (by kernel_rfl) [a0, a1, a2, a3] [a0, a1, a2, a3] rfl rfl w
  rw [show (!([a0, a1, a2, a3] == [a0, a1, a2, a3])) = false by simp] at this
  exact this
end Go.Proofs.YtfbhpkhpkaeagaaDoor

/- Package target: ratio (made by gen_tg5.py). (hM) -/
namespace Go.Proofs.YtfbhpkhpkaeagaaDoor
set_option linter.unusedVariables false
set_option linter.unusedSimpArgs false
open Go.RowKit
end Go.Proofs.YtfbhpkhpkaeagaaDoor

/- Package target: Scale (made by gen_tg5.py). (hM) -/
namespace Go.Proofs.YtfbhpkhpkaeagaaDoor
set_option linter.unusedVariables false
set_option linter.unusedSimpArgs false
open Go.RowKit

/-- how many digits of two -/
def natLen (A : Int) : Nat := if A = 0 then 0 else Nat.log2 A.toNat + 1
theorem natLen_is {a0 a1 a2 a3 : Int} (ha : B4 a0 a1 a2 a3) : lenN a0 a1 a2 a3 = (natLen (N4 a0 a1 a2 a3) : Int) := by
  obtain ⟨L, hL, hL1, hL2, hL3⟩ := len_holds ha
  have hn := ha.nn
  rw [hL]
  unfold natLen
  by_cases hz : N4 a0 a1 a2 a3 = 0
  · rw [if_pos hz]
    rcases Nat.eq_zero_or_pos L with h | h
    · rw [h]
    · have := hL3 h
      have := two_pow_pos (L - 1)
      omega
  · rw [if_neg hz]
    have h0 : 0 < L := by
      rcases Nat.eq_zero_or_pos L with h | h
      · subst h; simp at hL2; omega
      · exact h
    obtain ⟨A, hA⟩ := Int.eq_ofNat_of_zero_le hn.1
    have h3 := hL3 h0
    rw [hA] at hL2 h3 ⊢
    have e1 : ((2 ^ L : Nat) : Int) = 2 ^ L := by simp
    have e2 : ((2 ^ (L - 1) : Nat) : Int) = 2 ^ (L - 1) := by simp
    have h4 : A < 2 ^ L := by omega
    have h5 : 2 ^ (L - 1) ≤ A := by omega
    have : Nat.log2 A = L - 1 := (Nat.log2_eq_iff (by omega)).2 ⟨h5, by rw [show L - 1 + 1 = L by omega]; exact h4⟩
    simp only [Int.toNat_natCast]
    rw [this]
    omega
/-- a target's bits -/
def shrI (X : Int) : Int := shrV X (natLen X)
def scaleV (b num den lim : Int) : Int :=
  if expOk b = true ∧ expOk lim = true ∧ num ≠ 0 ∧ den ≠ 0 then (if expV b * num / den = 0 ∨ expV lim < expV b * num / den then shrI (expV lim) else shrI (expV b * num / den)) else lim

end Go.Proofs.YtfbhpkhpkaeagaaDoor

/- TargetBack: the numbers. -/
namespace Go.Proofs.YtfbhpkhpkaeagaaDoor
set_option linter.unusedVariables false
set_option linter.unusedSimpArgs false
open Go.RowKit

theorem pow2_lt {a b : Nat} (h : (2 : Int) ^ a < 2 ^ b) : a < b := by
  rcases Nat.lt_or_ge a b with h1 | h1
  · exact h1
  · have := pow2_le h1; omega
theorem size_of {Y : Int} {s L : Nat} (hs : 1 ≤ s) (h1 : 2 ^ (8 * (s - 1)) ≤ Y) (h2 : Y < 2 ^ (8 * s)) (h3 : 2 ^ (L - 1) ≤ Y) (h4 : Y < 2 ^ L) : (L + 7) / 8 = s := by
  have a1 := pow2_lt (Int.lt_of_le_of_lt h1 h4)
  have a2 := pow2_lt (Int.lt_of_le_of_lt h3 h2)
  omega
/-- bits from size and upper bytes -/
def mk3 (s : Nat) (M : Int) : Int := if M / 8388608 % 2 = 1 then ((s : Int) + 1) * 16777216 + M / 256 else (s : Int) * 16777216 + M
theorem shr_mk (A : Int) (L s : Nat) (h : (L + 7) / 8 = s) : shrV A L = mk3 s (upV A s) := by
  unfold shrV mk3
  rw [h]
theorem exp_mk (B m : Int) (z : Int) (hm : 0 ≤ m ∧ m < 8388608) (hB : B = z * 16777216 + m) : expV B = m / 2 ^ (-(8 * (z - 3))).toNat * 2 ^ (8 * (z - 3)).toNat ∧ B / 8388608 % 2 = 0 := by
  subst hB
  have h1 : (z * 16777216 + m) % 8388608 = m := by omega
  have h2 : (z * 16777216 + m) / 16777216 = z := by omega
  refine ⟨?_, by omega⟩
  unfold expV
  rw [h1, h2]

theorem back_num (A : Int) (L : Nat) (hA : 1 ≤ A) (hL : L ≤ 256) (h3 : 2 ^ (L - 1) ≤ A) (h4 : A < 2 ^ L) (hW : A < WW) :
    (0 ≤ shrV A L ∧ shrV A L < 4294967296) ∧ expOk (shrV A L) = true ∧ expV (shrV A L) ≤ A ∧ A - expV (shrV A L) ≤ A / 2 ^ 14 ∧ shrV A L / 8388608 % 2 = 0 ∧
      ∀ L', 2 ^ (L' - 1) ≤ expV (shrV A L) → expV (shrV A L) < 2 ^ L' → shrV (expV (shrV A L)) L' = shrV A L := by
  have hL0 : 1 ≤ L := by
    rcases Nat.eq_zero_or_pos L with h | h
    · subst h; simp at h4; omega
    · exact h
  obtain ⟨s, hs⟩ : ∃ s, (L + 7) / 8 = s := ⟨_, rfl⟩
  have hlo : 2 ^ (8 * (s - 1)) ≤ A := Int.le_trans (pow2_le (by omega)) h3
  have hhi : A < 2 ^ (8 * s) := Int.lt_of_lt_of_le h4 (pow2_le (by omega))
  rw [shr_mk A L s hs]
  -- it is enough to know what the bits tell
  have fin : ∀ (M m Y : Int) (z : Nat), upV A s = M → mk3 s M = (z : Int) * 16777216 + m → (0 ≤ m ∧ m < 8388608) → z ≤ 33 → m / 2 ^ (-(8 * ((z : Int) - 3))).toNat * 2 ^ (8 * ((z : Int) - 3)).toNat = Y → 2 ^ (8 * (s - 1)) ≤ Y → Y ≤ A → A - Y ≤ A / 2 ^ 14 → mk3 s (upV Y s) = mk3 s M →
      (0 ≤ mk3 s (upV A s) ∧ mk3 s (upV A s) < 4294967296) ∧ expOk (mk3 s (upV A s)) = true ∧ expV (mk3 s (upV A s)) ≤ A ∧ A - expV (mk3 s (upV A s)) ≤ A / 2 ^ 14 ∧ mk3 s (upV A s) / 8388608 % 2 = 0 ∧
      ∀ L', 2 ^ (L' - 1) ≤ expV (mk3 s (upV A s)) → expV (mk3 s (upV A s)) < 2 ^ L' → shrV (expV (mk3 s (upV A s))) L' = mk3 s (upV A s) := by
    intro M m Y z hM hB hm hz hY hY1 hY2 hY3 hY4
    rw [hM]
    obtain ⟨e1, e2⟩ := exp_mk (mk3 s M) m z hm hB
    rw [hY] at e1
    have hp := two_pow_pos (8 * (s - 1))
    rw [e1]
    refine ⟨by omega, ?_, hY2, hY3, e2, fun L' a b => ?_⟩
    · unfold expOk
      rw [e1, decide_eq_true e2, decide_eq_true (by omega), decide_eq_true (by omega)]
      rfl
    · rw [shr_mk Y L' s (size_of (by omega) hY1 (by omega) a b)]
      exact hY4
  have hsc : s = 1 ∨ s = 2 ∨ 3 ≤ s := by omega
  rcases hsc with rfl | rfl | h3s
  · have hup : ∀ Y : Int, upV Y 1 = Y * 65536 := fun Y => by unfold upV; simp
    simp at hlo hhi
    by_cases hb : A * 65536 / 8388608 % 2 = 1
    · refine fin (A * 65536) (A * 256) A 2 (hup A) (by unfold mk3; rw [if_pos hb]; omega) (by omega) (by omega) ?_ (by simpa using hlo) (Int.le_refl _) (by omega) (by rw [hup])
      simp
    · refine fin (A * 65536) (A * 65536) A 1 (hup A) (by unfold mk3; rw [if_neg hb]) (by omega) (by omega) ?_ (by simpa using hlo) (Int.le_refl _) (by omega) (by rw [hup])
      simp
  · have hup : ∀ Y : Int, upV Y 2 = Y * 256 := fun Y => by unfold upV; simp
    simp at hlo hhi
    by_cases hb : A * 256 / 8388608 % 2 = 1
    · refine fin (A * 256) A A 3 (hup A) (by unfold mk3; rw [if_pos hb]; omega) (by omega) (by omega) ?_ (by simpa using hlo) (Int.le_refl _) (by omega) (by rw [hup])
      simp
    · refine fin (A * 256) (A * 256) A 2 (hup A) (by unfold mk3; rw [if_neg hb]) (by omega) (by omega) ?_ (by simpa using hlo) (Int.le_refl _) (by omega) (by rw [hup])
      simp
  · obtain ⟨k, hk⟩ : ∃ k, k + 3 = s := ⟨s - 3, by omega⟩
    have hup : ∀ Y : Int, upV Y s = Y / 2 ^ (8 * k) := fun Y => by
      unfold upV
      rw [show (8 * (3 - (s : Int))).toNat = 0 by omega, show (8 * ((s : Int) - 3)).toNat = 8 * k by omega]
      simp
    have hp := two_pow_pos (8 * k)
    rw [show 8 * (s - 1) = 8 * k + 16 by omega, Int.pow_add] at hlo
    rw [show 8 * s = 8 * k + 24 by omega, Int.pow_add] at hhi
    have hq1 := Int.mul_ediv_add_emod A (2 ^ (8 * k))
    have hq2 := Int.emod_nonneg A (Int.ne_of_gt hp)
    have hq3 := Int.emod_lt_of_pos A hp
    obtain ⟨q, hq⟩ : ∃ q, A / 2 ^ (8 * k) = q := ⟨_, rfl⟩
    obtain ⟨P, hP⟩ : ∃ P : Int, 2 ^ (8 * k) = P := ⟨_, rfl⟩
    rw [hq, hP] at hq1
    rw [hP] at hlo hhi hq2 hq3 hp
    have hqlo : 65536 ≤ q := by
      rw [← hq, hP, Int.le_ediv_iff_mul_le hp]
      rw [Int.mul_comm]
      simpa using hlo
    have hqhi : q < 16777216 := by
      rw [← hq, hP, Int.ediv_lt_iff_lt_mul hp]
      rw [Int.mul_comm]
      simpa using hhi
    have hs1 : (8 * ((s : Int) - 3)).toNat = 8 * k := by omega
    have hs2 : (-(8 * ((s : Int) - 3))).toNat = 0 := by omega
    by_cases hb : q / 8388608 % 2 = 1
    · have hPq : q / 256 * 256 ≤ q ∧ q < q / 256 * 256 + 256 := by omega
      have e1 : P * (q / 256 * 256) ≤ P * q := Int.mul_le_mul_of_nonneg_left hPq.1 (Int.le_of_lt hp)
      have e2 : P * q ≤ P * (q / 256 * 256 + 255) := Int.mul_le_mul_of_nonneg_left (by omega) (Int.le_of_lt hp)
      have e3 : P * 8388608 ≤ P * q := Int.mul_le_mul_of_nonneg_left (by omega) (Int.le_of_lt hp)
      rw [Int.mul_add] at e2
      have e4 : q / 256 * (P * 256) = P * (q / 256 * 256) := by ac_rfl
      have e5 : P * 65536 ≤ P * (q / 256 * 256) := Int.mul_le_mul_of_nonneg_left (by omega) (Int.le_of_lt hp)
      refine fin q (q / 256) (q / 256 * (P * 256)) (s + 1) ((hup A).trans hq) (by unfold mk3; rw [if_pos hb]; simp) (by omega) (by omega) ?_ ?_ ?_ ?_ ?_
      · rw [show (8 * (((s + 1 : Nat) : Int) - 3)).toNat = 8 * k + 8 by omega, show (-(8 * (((s + 1 : Nat) : Int) - 3))).toNat = 0 by omega, Int.pow_add, hP]
        simp
      · rw [show 8 * (s - 1) = 8 * k + 16 by omega, Int.pow_add, hP, e4]
        simpa using e5
      · rw [e4]; omega
      · rw [e4, Int.le_ediv_iff_mul_le (by decide)]
        simp only [Int.reducePow]
        generalize P * (q / 256 * 256) = X at *
        omega
      · rw [hup, hP, e4, Int.mul_ediv_cancel_left _ (Int.ne_of_gt hp)]
        unfold mk3
        rw [if_pos hb, if_pos (by omega)]
        omega
    · have e3 : P * 65536 ≤ P * q := Int.mul_le_mul_of_nonneg_left (by omega) (Int.le_of_lt hp)
      refine fin q q (q * P) s ((hup A).trans hq) (by unfold mk3; rw [if_neg hb]) (by omega) (by omega) ?_ ?_ ?_ ?_ ?_
      · rw [hs1, hs2, hP]
        simp
      · rw [show 8 * (s - 1) = 8 * k + 16 by omega, Int.pow_add, hP, Int.mul_comm q]
        simpa using e3
      · rw [Int.mul_comm q]; omega
      · rw [Int.mul_comm q, Int.le_ediv_iff_mul_le (by decide)]
        simp only [Int.reducePow]
        omega
      · rw [hup, hP, Int.mul_ediv_cancel _ (Int.ne_of_gt hp)]
end Go.Proofs.YtfbhpkhpkaeagaaDoor
