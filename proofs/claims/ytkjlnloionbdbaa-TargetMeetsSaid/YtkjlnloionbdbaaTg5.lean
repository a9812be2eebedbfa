/- Package target: ratio (made by gen_tg5.py). (hM) -/
import Derived.Test.YtkjlnloionbdbaaUDvs
import Derived.Test.YtkjlnloionbdbaaTg4
namespace Go.Proofs.Ytkjlnloionbdbaa
set_option linter.unusedVariables false
set_option linter.unusedSimpArgs false
open Go.RowKit

set_option maxRecDepth 100000 in
set_option maxHeartbeats 4000000 in
theorem ratio_any {t0 t1 t2 t3 : Int} (ht : B4 t0 t1 t2 t3) (num den : Int) (hnum : 0 ≤ num ∧ num < WI) (hden : 0 < den ∧ den < WI) {s0 s1 s2 s3 : Int} (hs : B4 s0 s1 s2 s3) (h : N4 s0 s1 s2 s3 = N4 t0 t1 t2 t3 * num / den % WW)
    (ov : Bool) (hov : decide (WW ≤ N4 t0 t1 t2 t3 * num / den) = ov) (w : World) :
    Calls Try.prog 62 #[U4 t0 t1 t2 t3, .int .u64 num, .int .u64 den] w fun e w' => e = .returned (.tuple #[U4 s0 s1 s2 s3, .bool ov]) ∧ Below w.heap.size w w' := by
  have hdB := b4_small den ⟨by omega, hden.2⟩
  have htn := ht.nn
  have hr0 := Int.emod_nonneg (N4 t0 t1 t2 t3) (show den ≠ 0 by omega)
  have hr1 := Int.emod_lt_of_pos (N4 t0 t1 t2 t3) hden.1
  have hq0 := Int.ediv_nonneg htn.1 (show 0 ≤ den by omega)
  have hq1 := Int.ediv_le_self den htn.1
  have heq := Int.mul_ediv_add_emod (N4 t0 t1 t2 t3) den
  obtain ⟨q0, q1, q2, q3, hq, hqn⟩ := b4_of (N4 t0 t1 t2 t3 / den) ⟨hq0, by omega⟩
  obtain ⟨r0, r1, r2, r3, hr, hrn⟩ := b4_of (N4 t0 t1 t2 t3 % den) ⟨hr0, by unfold WW WI at *; omega⟩
  obtain ⟨m0, m1, m2, m3, c, hm, hc, hme⟩ := mul_ex hq num hnum.1
  obtain ⟨lost, hlost⟩ : ∃ z, (c != 0) = z := ⟨_, rfl⟩
  have hrnum : 0 ≤ N4 t0 t1 t2 t3 % den * num ∧ N4 t0 t1 t2 t3 % den * num < WW := by
    refine ⟨Int.mul_nonneg hr0 hnum.1, ?_⟩
    have := Int.mul_le_mul (show N4 t0 t1 t2 t3 % den ≤ WI by omega) (show num ≤ WI by omega) hnum.1 (by unfold WI; omega)
    refine Int.lt_of_le_of_lt this (by decide)
  obtain ⟨l0, l1, l2, l3, hl, hln⟩ := b4_of _ hrnum
  have hz0 := Int.ediv_nonneg hrnum.1 (show 0 ≤ den by omega)
  have hz1 := Int.ediv_le_self den hrnum.1
  obtain ⟨y0, y1, y2, y3, hy, hyn⟩ := b4_of (N4 t0 t1 t2 t3 % den * num / den) ⟨hz0, by omega⟩
  have hu0 := Int.emod_nonneg (N4 t0 t1 t2 t3 % den * num) (show den ≠ 0 by omega)
  have hu1 := Int.emod_lt_of_pos (N4 t0 t1 t2 t3 % den * num) hden.1
  obtain ⟨u0, u1, u2, u3, hu, hun⟩ := b4_of (N4 t0 t1 t2 t3 % den * num % den) ⟨hu0, by unfold WW WI at *; omega⟩
  obtain ⟨x0, x1, x2, x3, over, hx, hxe, hxo⟩ := add_ex hm hy
  have hR : N4 t0 t1 t2 t3 * num / den = N4 q0 q1 q2 q3 * num + N4 t0 t1 t2 t3 % den * num / den := by
    rw [hqn, Int.add_comm, ← Int.add_mul_ediv_right _ _ (show den ≠ 0 by omega)]
    congr 1
    have h1 : N4 t0 t1 t2 t3 * num = (den * (N4 t0 t1 t2 t3 / den) + N4 t0 t1 t2 t3 % den) * num := by rw [heq]
    rw [h1, Int.add_mul]
    have h2 : den * (N4 t0 t1 t2 t3 / den) * num = N4 t0 t1 t2 t3 / den * num * den := by ac_rfl
    omega
  have hxn := hx.nn
  have hres : (x0 = s0 ∧ x1 = s1 ∧ x2 = s2 ∧ x3 = s3) ∧ (lost || over) = ov := by
    have e1 : N4 t0 t1 t2 t3 * num / den = N4 x0 x1 x2 x3 + WW * (c + if over = true then 1 else 0) := by
      rw [hR, hme, ← hyn]
      cases over <;> simp at hxe ⊢ <;> (try rw [Int.mul_add]) <;> omega
    refine ⟨hx.inj hs ?_, ?_⟩
    · rw [h, e1, Int.add_mul_emod_self_left, Int.emod_eq_of_lt hxn.1 hxn.2]
    · rw [← hov, ← hlost, e1]
      have hW : 0 < WW := by decide
      cases over
      · simp only [Bool.or_false, Bool.false_eq_true, if_false, Int.add_zero]
        by_cases hc0 : c = 0
        · subst hc0
          rw [Int.mul_zero, Int.add_zero, decide_eq_false (by omega)]
          rfl
        · have : WW * 1 ≤ WW * c := Int.mul_le_mul_of_nonneg_left (by omega) (by omega)
          rw [decide_eq_true (by omega)]
          simpa using hc0
      · simp only [Bool.or_true, if_true]
        have : WW * 1 ≤ WW * (c + 1) := Int.mul_le_mul_of_nonneg_left (by omega) (by omega)
        rw [decide_eq_true (by omega)]
  obtain ⟨⟨rfl, rfl, rfl, rfl⟩, hov2⟩ := hres
  have HOf := Lib.hid (fun w => of_any den w)
  have HDiv1 := Lib.hid (fun w => div_is ht hdB.1 hq hr true (.inl ⟨rfl, by omega, by rw [hdB.2]; exact hqn, by rw [hdB.2]; exact hrn⟩) w)
  have HMul1 := Lib.hid (fun w => mul_is hq hm num c hnum hme lost hlost w)
  have HMul2 := Lib.hid (fun w => mul_is hr hl num 0 hnum (by rw [hrn, hln]; simp) false rfl w)
  have HDiv2 := Lib.hid (fun w => div_is hl hdB.1 hy hu true (.inl ⟨rfl, by omega, by rw [hdB.2, hln]; exact hyn, by rw [hdB.2, hln]; exact hun⟩) w)
  have HAdd := Lib.hid (fun w => add_n hm hy hx over hxe w)
  have hB := Below.refl w.heap.size w
  have hM := Lib.hid (mem_nil w)
  have hF : True := trivial
  clear ht htn hr0 hr1 hq0 hq1 heq hq hqn hr hrn hm hc hme hlost hrnum hl hln hz0 hz1 hy hyn hu0 hu1 hu hun hx hxe hxo hR hxn h hov hs hdB hnum hden
  go_enter Try.func62, Try.ntmps62
  go_wp2
  have hMq := (Mem.al (Mem.al hM.out [.int .u64 t0, .int .u64 t1, .int .u64 t2, .int .u64 t3] 26) [.int .u64 0, .int .u64 0, .int .u64 0, .int .u64 0] 26)
  (try simp only [World.size_alloc] at hMq)
  have hBq := (bl_al (bl_al hB (.cells #[.int .u64 t0, .int .u64 t1, .int .u64 t2, .int .u64 t3] 26)) (.cells #[.int .u64 0, .int .u64 0, .int .u64 0, .int .u64 0] 26))
  have hBs := hBq.size
  obtain ⟨LL, HLL, hMl⟩ := mem_name hMq
  have hLt := Lib.hid (Mem.lt hMl)
  refine wp_float (MB w LL) (fun _ => .cells #[.int .u64 0, .int .u64 0, .int .u64 0, .int .u64 0] 26) [0, 1, 2, 3, 4, 5, 6, 7] [8, 9] [10, 11, 12] [6, 7] (by kernel_rfl) (by kernel_rfl) ?_ MB.later ⟨hMl, hBq⟩ ?_
  · intro k hk
    simp only [List.mem_cons, List.not_mem_nil, or_false] at hk
    rcases hk with rfl | rfl <;> exact ⟨_, rfl, rfl, fun a w => by go_simp; rfl⟩
  have hLL := HLL.out
  subst hLL
  clear HLL hMq hM hF hB hBq hMl
  iterate 2 (refine wpG_take rfl (by rfl) (by intro w' hSw; (try dsimp only [MB, Mem, cellsAt] at hSw); go_simp; (try with_reducible rfl)) ?_; (try simp only [Act.put, List.setIfInBounds_toArray, List.set_cons_zero, List.set_cons_succ]))
  (refine wpG_call MB.later (HOf.out) rfl (by rfl) (by intro w' hSw; (try dsimp only [MB, Mem, cellsAt] at hSw); go_simp; (try with_reducible rfl)) ?_; (try simp only [Act.put, List.setIfInBounds_toArray, List.set_cons_zero, List.set_cons_succ]))
  (refine wpG_call MB.later (HDiv1.out) rfl (by rfl) (by intro w' hSw; (try dsimp only [MB, Mem, cellsAt] at hSw); go_simp; (try with_reducible rfl)) ?_; (try simp only [Act.put, List.setIfInBounds_toArray, List.set_cons_zero, List.set_cons_succ]))
  iterate 4 (refine wpG_take rfl (by rfl) (by intro w' hSw; (try dsimp only [MB, Mem, cellsAt] at hSw); go_simp; (try with_reducible rfl)) ?_; (try simp only [Act.put, List.setIfInBounds_toArray, List.set_cons_zero, List.set_cons_succ]))
  (refine wpG_nil ?_)
  intro G w2 hG hSw hbx hsz
  obtain ⟨g, g', eg, eg', hlg, hlg', hne, hbm⟩ := box_two hG hbx (by decide) (vs := [.int .u64 0, .int .u64 0, .int .u64 0, .int .u64 0]) (us := [.int .u64 0, .int .u64 0, .int .u64 0, .int .u64 0]) rfl rfl
  simp only [putAll, eg, eg', dstOf, ptrOf, List.getElem?_toArray, List.getElem?_cons_zero, List.getElem?_cons_succ, Option.bind_some, Act.put, List.setIfInBounds_toArray, List.set_cons_zero, List.set_cons_succ]
  obtain ⟨n1, n2⟩ := set_two hLt.out hlg hlg' hne hbm hSw.1 q0 q1 q2 q3 r0 r1 r2 r3
  have hSw0 := hBs
  have hB := bl_set4 r0 r1 r2 r3 (Nat.le_trans hSw0 hlg') (bl_set4 q0 q1 q2 q3 (Nat.le_trans hSw0 hlg) hSw.2)
  have hF := hbm
  simp only [Mem, cellsAt, wset4, Nat.zero_add, Nat.reduceAdd, and_true] at hF
  (refine wpOps_go rfl ?_; go_simp)
  clear hF
  have hF := n1
  simp only [Mem, cellsAt, wset4, Nat.zero_add, Nat.reduceAdd, and_true] at hF
  (refine wpOps_go rfl ?_; go_simp)
  have HNE := Lib.hid (And.intro hne (And.intro hlg (And.intro hlg' (And.intro hBs hLt.out))))
  change wpOps _ _ _ _ _ (wset4 (wset4 w2 g q0 q1 q2 q3) g' r0 r1 r2 r3)
  clear hF hSw hbx hG hsz hSw0 hLt hBs eg eg' hlg hlg' hne hbm n1
  generalize wset4 (wset4 w2 g q0 q1 q2 q3) g' r0 r1 r2 r3 = w3 at *
  (refine wpOps_go rfl ?_; go_simp)
  refine wpOps_none ?_
  have hM := Lib.hid n2
  have hF := n2
  simp only [Mem, cellsAt, Nat.zero_add, Nat.reduceAdd, and_true] at hF
  clear n2
  have hne1 := HNE.out.1
  have hne2 := HNE.out.1.symm
  have hg1 : w.heap.size ≤ g := Nat.le_trans HNE.out.2.2.2.1 HNE.out.2.1
  have hg2 : w.heap.size ≤ g' := Nat.le_trans HNE.out.2.2.2.1 HNE.out.2.2.1
  have HD1 : Hid (∀ p ∈ (g', [Value.int .u64 r0, .int .u64 r1, .int .u64 r2, .int .u64 r3]) :: [(w.heap.size + 1, [.int .u64 0, .int .u64 0, .int .u64 0, .int .u64 0]), (w.heap.size, [.int .u64 t0, .int .u64 t1, .int .u64 t2, .int .u64 t3])], p.1 ≠ g) := by
    intro p hp
    rcases List.mem_cons.1 hp with rfl | hp
    · exact hne2
    · have h1 := HNE.out.2.2.2.2 p hp
      exact Nat.ne_of_lt (Nat.lt_of_lt_of_le h1 HNE.out.2.1)
  have HD2 : Hid (∀ p ∈ (g, [Value.int .u64 m0, .int .u64 m1, .int .u64 m2, .int .u64 m3]) :: [(w.heap.size + 1, [.int .u64 0, .int .u64 0, .int .u64 0, .int .u64 0]), (w.heap.size, [.int .u64 t0, .int .u64 t1, .int .u64 t2, .int .u64 t3])], p.1 ≠ g') := by
    intro p hp
    rcases List.mem_cons.1 hp with rfl | hp
    · exact hne1
    · have h1 := HNE.out.2.2.2.2 p hp
      exact Nat.ne_of_lt (Nat.lt_of_lt_of_le h1 HNE.out.2.2.1)
  clear HNE
  go_wp2_with (go_at_call 23; first | ((with_reducible refine (HMul1.out _).mono ?_); rintro e w1 ⟨rfl, hb⟩; have hB : Below w.heap.size w w1 := (by refine bl_then ?_ hb; (repeat (first | exact hB | refine bl_al ?_ _ | refine Below.setCell ?_ (by first | exact hgs | exact Nat.le_succ_of_le hgs | exact hgs2 | exact hgs3) _ | refine Below.drew ?_ | refine bl_drewN ?_ _))); (first | with_reducible have hM2 := Mem.later hb (hM.out) | with_reducible have hM2 := Mem.later hb (Mem.al (hM.out) _ _) | with_reducible have hM2 := Mem.later hb (Mem.al (Mem.al (hM.out) _ _) _ _) | with_reducible have hM2 := Mem.later hb (Mem.al (Mem.al (Mem.al (hM.out) _ _) _ _) _ _) | with_reducible have hM2 := Mem.later hb (Mem.al (Mem.al (Mem.al (Mem.al (hM.out) _ _) _ _) _ _) _ _) | with_reducible have hM2 := Mem.later hb (Mem.drew (hM.out)) | with_reducible have hM2 := Mem.later hb (Mem.drew (Mem.al (hM.out) _ _)) | with_reducible have hM2 := Mem.later hb (Mem.al (Mem.drew (hM.out)) _ _) | with_reducible have hM2 := Mem.later hb (Mem.al (Mem.drew (Mem.al (hM.out) _ _)) _ _) | with_reducible have hM2 := Mem.later hb (Mem.drew (Mem.al (Mem.al (hM.out) _ _) _ _)) | with_reducible have hM2 := Mem.later hb (Mem.al (Mem.al (Mem.drew (hM.out)) _ _) _ _) | with_reducible have hM2 := Mem.later hb (Mem.drew (Mem.drew (hM.out))) | with_reducible have hM2 := Mem.later hb (Mem.drew (Mem.al (Mem.drew (hM.out)) _ _)) | with_reducible have hM2 := Mem.later hb (Mem.drew (Mem.al (Mem.al (Mem.al (hM.out) _ _) _ _) _ _)) | with_reducible have hM2 := Mem.later hb (Mem.al (Mem.al (Mem.drew (Mem.al (hM.out) _ _)) _ _) _ _) | with_reducible have hM2 := Mem.later hb (Mem.drew (Mem.al (Mem.drew (Mem.al (hM.out) _ _)) _ _)) | with_reducible have hM2 := Mem.later hb (Mem.al (Mem.al (Mem.al (Mem.al (Mem.al (hM.out) _ _) _ _) _ _) _ _) _ _) | with_reducible have hM2 := Mem.later hb (Mem.al (Mem.al (Mem.al (Mem.al (Mem.al (Mem.al (hM.out) _ _) _ _) _ _) _ _) _ _) _ _) | with_reducible have hM2 := Mem.later hb (Mem.al (Mem.al (Mem.al (Mem.al (Mem.al (Mem.al (Mem.al (hM.out) _ _) _ _) _ _) _ _) _ _) _ _) _ _) | with_reducible have hM2 := Mem.later hb (Mem.al (Mem.al (Mem.al (Mem.al (Mem.al (Mem.al (Mem.al (Mem.al (hM.out) _ _) _ _) _ _) _ _) _ _) _ _) _ _) _ _)); (try simp only [World.size_alloc, size_drew] at hM2); clear hM; have hM := Lib.hid hM2; clear hF; have hF := hM2; (try simp only [Mem, cellsAt, World.size_alloc, Nat.zero_add, Nat.reduceAdd, and_true] at hF); clear hM2; clear hb) | ((with_reducible refine (HMul2.out _).mono ?_); rintro e w2 ⟨rfl, hb⟩; have hMs := Mem.swap (Mem.set4 m0 m1 m2 m3 HD1.out (Mem.swap hM.out)); have hB2 := bl_then (bl_set4 m0 m1 m2 m3 hg1 hB) hb; have hM2 := Mem.later hb hMs; clear hM hF hB; have hM := Lib.hid hM2; have hF := hM2; (simp only [Mem, cellsAt, Nat.zero_add, Nat.reduceAdd, and_true] at hF); have hB := hB2; clear hb hM2 hMs hB2))
  have hMq := (Mem.set4 l0 l1 l2 l3 HD2.out hM.out)
  have hBq := (bl_set4 l0 l1 l2 l3 hg2 hB)
  have hBs := hBq.size
  obtain ⟨LL, HLL, hMl⟩ := mem_name hMq
  have hLt := Lib.hid (Mem.lt hMl)
  refine wp_float (MB w LL) (fun _ => .cells #[.int .u64 0, .int .u64 0, .int .u64 0, .int .u64 0] 26) [0, 1, 2, 3, 4, 5, 6, 7] [8, 9] [10, 11, 12] [6, 7] (by kernel_rfl) (by kernel_rfl) ?_ MB.later ⟨hMl, hBq⟩ ?_
  · intro k hk
    simp only [List.mem_cons, List.not_mem_nil, or_false] at hk
    rcases hk with rfl | rfl <;> exact ⟨_, rfl, rfl, fun a w => by go_simp; rfl⟩
  have hLL := HLL.out
  subst hLL
  clear HLL hMq hM hF hB hBq hMl
  iterate 2 (refine wpG_take rfl (by rfl) (by intro w' hSw; (try dsimp only [MB, Mem, cellsAt] at hSw); go_simp; (try with_reducible rfl)) ?_; (try simp only [Act.put, List.setIfInBounds_toArray, List.set_cons_zero, List.set_cons_succ]))
  (refine wpG_call MB.later (HOf.out) rfl (by rfl) (by intro w' hSw; (try dsimp only [MB, Mem, cellsAt] at hSw); go_simp; (try with_reducible rfl)) ?_; (try simp only [Act.put, List.setIfInBounds_toArray, List.set_cons_zero, List.set_cons_succ]))
  (refine wpG_call MB.later (HDiv2.out) rfl (by rfl) (by intro w' hSw; (try dsimp only [MB, Mem, cellsAt] at hSw); go_simp; (try with_reducible rfl)) ?_; (try simp only [Act.put, List.setIfInBounds_toArray, List.set_cons_zero, List.set_cons_succ]))
  iterate 4 (refine wpG_take rfl (by rfl) (by intro w' hSw; (try dsimp only [MB, Mem, cellsAt] at hSw); go_simp; (try with_reducible rfl)) ?_; (try simp only [Act.put, List.setIfInBounds_toArray, List.set_cons_zero, List.set_cons_succ]))
  (refine wpG_nil ?_)
  intro G w2 hG hSw hbx hsz
  obtain ⟨g, g', eg, eg', hlg, hlg', hne, hbm⟩ := box_two hG hbx (by decide) (vs := [.int .u64 0, .int .u64 0, .int .u64 0, .int .u64 0]) (us := [.int .u64 0, .int .u64 0, .int .u64 0, .int .u64 0]) rfl rfl
  simp only [putAll, eg, eg', dstOf, ptrOf, List.getElem?_toArray, List.getElem?_cons_zero, List.getElem?_cons_succ, Option.bind_some, Act.put, List.setIfInBounds_toArray, List.set_cons_zero, List.set_cons_succ]
  obtain ⟨n1, n2⟩ := set_two hLt.out hlg hlg' hne hbm hSw.1 y0 y1 y2 y3 u0 u1 u2 u3
  have hSw0 := hBs
  have hB := bl_set4 u0 u1 u2 u3 (Nat.le_trans hSw0 hlg') (bl_set4 y0 y1 y2 y3 (Nat.le_trans hSw0 hlg) hSw.2)
  have hF := hbm
  simp only [Mem, cellsAt, wset4, Nat.zero_add, Nat.reduceAdd, and_true] at hF
  (refine wpOps_go rfl ?_; go_simp)
  clear hF
  have hF := n1
  simp only [Mem, cellsAt, wset4, Nat.zero_add, Nat.reduceAdd, and_true] at hF
  (refine wpOps_go rfl ?_; go_simp)
  change wpOps _ _ _ _ _ (wset4 (wset4 w2 g y0 y1 y2 y3) g' u0 u1 u2 u3)
  clear hF hSw hbx hG hsz hSw0 hLt hBs eg eg' hlg hlg' hne hbm n1
  generalize wset4 (wset4 w2 g y0 y1 y2 y3) g' u0 u1 u2 u3 = w3 at *
  (refine wpOps_go rfl ?_; go_simp)
  refine wpOps_none ?_
  have hM := Lib.hid n2
  have hF := n2
  simp only [Mem, cellsAt, Nat.zero_add, Nat.reduceAdd, and_true] at hF
  clear n2
  clear hne1 hne2 hg1 hg2 HD1 HD2
  have hgs : w.heap.size ≤ w.heap.size + 1 := Nat.le_succ _
  cases lost
  all_goals
    simp only [Bool.true_or, Bool.false_or] at hov2
    subst hov2
    go_wp2_with (go_at_call 24; (with_reducible refine (HAdd.out _).mono ?_); rintro e w1 ⟨rfl, hb⟩; have hB : Below w.heap.size w w1 := (by refine bl_then ?_ hb; (repeat (first | exact hB | refine bl_al ?_ _ | refine Below.setCell ?_ (by first | exact hgs | exact Nat.le_succ_of_le hgs | exact hgs2 | exact hgs3) _ | refine Below.drew ?_ | refine bl_drewN ?_ _))); (first | with_reducible have hM2 := Mem.later hb (hM.out) | with_reducible have hM2 := Mem.later hb (Mem.al (hM.out) _ _) | with_reducible have hM2 := Mem.later hb (Mem.al (Mem.al (hM.out) _ _) _ _) | with_reducible have hM2 := Mem.later hb (Mem.al (Mem.al (Mem.al (hM.out) _ _) _ _) _ _) | with_reducible have hM2 := Mem.later hb (Mem.al (Mem.al (Mem.al (Mem.al (hM.out) _ _) _ _) _ _) _ _) | with_reducible have hM2 := Mem.later hb (Mem.drew (hM.out)) | with_reducible have hM2 := Mem.later hb (Mem.drew (Mem.al (hM.out) _ _)) | with_reducible have hM2 := Mem.later hb (Mem.al (Mem.drew (hM.out)) _ _) | with_reducible have hM2 := Mem.later hb (Mem.al (Mem.drew (Mem.al (hM.out) _ _)) _ _) | with_reducible have hM2 := Mem.later hb (Mem.drew (Mem.al (Mem.al (hM.out) _ _) _ _)) | with_reducible have hM2 := Mem.later hb (Mem.al (Mem.al (Mem.drew (hM.out)) _ _) _ _) | with_reducible have hM2 := Mem.later hb (Mem.drew (Mem.drew (hM.out))) | with_reducible have hM2 := Mem.later hb (Mem.drew (Mem.al (Mem.drew (hM.out)) _ _)) | with_reducible have hM2 := Mem.later hb (Mem.drew (Mem.al (Mem.al (Mem.al (hM.out) _ _) _ _) _ _)) | with_reducible have hM2 := Mem.later hb (Mem.al (Mem.al (Mem.drew (Mem.al (hM.out) _ _)) _ _) _ _) | with_reducible have hM2 := Mem.later hb (Mem.drew (Mem.al (Mem.drew (Mem.al (hM.out) _ _)) _ _)) | with_reducible have hM2 := Mem.later hb (Mem.al (Mem.al (Mem.al (Mem.al (Mem.al (hM.out) _ _) _ _) _ _) _ _) _ _) | with_reducible have hM2 := Mem.later hb (Mem.al (Mem.al (Mem.al (Mem.al (Mem.al (Mem.al (hM.out) _ _) _ _) _ _) _ _) _ _) _ _) | with_reducible have hM2 := Mem.later hb (Mem.al (Mem.al (Mem.al (Mem.al (Mem.al (Mem.al (Mem.al (hM.out) _ _) _ _) _ _) _ _) _ _) _ _) _ _) | with_reducible have hM2 := Mem.later hb (Mem.al (Mem.al (Mem.al (Mem.al (Mem.al (Mem.al (Mem.al (Mem.al (hM.out) _ _) _ _) _ _) _ _) _ _) _ _) _ _) _ _)); (try simp only [World.size_alloc, size_drew] at hM2); clear hM; have hM := Lib.hid hM2; clear hF; have hF := hM2; (try simp only [Mem, cellsAt, World.size_alloc, Nat.zero_add, Nat.reduceAdd, and_true] at hF); clear hM2; clear hb)
    refine bodyPost_ret (v := .tuple #[U4 x0 x1 x2 x3, .bool _]) (by simp [results, Try.results62, go_sem, hF]; rfl) rfl ?_
    exact ⟨rfl, by (repeat (first | exact hB | refine bl_al ?_ _ | refine Below.setCell ?_ (by first | exact hgs | exact Nat.le_succ_of_le hgs | exact hgs2 | exact hgs3) _ | refine Below.drew ?_ | refine bl_drewN ?_ _))⟩
end Go.Proofs.Ytkjlnloionbdbaa
