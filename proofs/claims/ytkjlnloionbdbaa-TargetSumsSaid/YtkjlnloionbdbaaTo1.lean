/- Package target: Total (made by gen_to.py). (hM) -/
import Derived.Test.YtkjlnloionbdbaaTg4
import Derived.Test.YtkjlnloionbdbaaApp
namespace Go.Proofs.Ytkjlnloionbdbaa
set_option linter.unusedVariables false
set_option linter.unusedSimpArgs false
open Go.RowKit

theorem eltU32 : Elt Try.prog 60 49 (.int .u32 0) 1 4 := ⟨Try.underlying60, by kernel_rfl, rfl, by decide, by decide⟩
def c32 (l : List Int) : List Value := l.map (Value.int .u32)
theorem c32_len (l : List Int) : (c32 l).length = l.length := by simp [c32]
theorem c32_one (l : List Int) : ∀ u ∈ c32 l, u.oneCell' = true := by
  intro u hu
  simp only [c32, List.mem_map] at hu
  obtain ⟨x, _, rfl⟩ := hu
  rfl
theorem c32_app (a b : List Int) : c32 (a ++ b) = c32 a ++ c32 b := by simp [c32]
theorem c32_get (l : List Int) (i : Nat) (h : i < l.length) : (c32 l)[i]? = some (.int .u32 (l.getD i 0)) := by simp [c32, h, List.getD]
theorem Row.cell32 {w : World} {b off n c : Nat} {l : List Int} (h : Row w (some ⟨b, off, none⟩) n c 1 (c32 l)) (i : Nat) (hi : i < n) : w.cell? ⟨b, off + i, none⟩ = some (.int .u32 (l.getD i 0)) :=
  (h.cells _ rfl i _ (c32_get l i (by have := h.len; rw [c32_len] at this; omega))).2
theorem Row.len32 {w : World} {ao : Option Addr} {n c : Nat} {l : List Int} (h : Row w ao n c 1 (c32 l)) : n = l.length := by have := h.len; rw [c32_len] at this; omega

/-- works added, not wrapped -/
def totV : List Int → Int
  | [] => 0
  | x :: r => workV x + totV r
theorem totV_app : ∀ a b : List Int, totV (a ++ b) = totV a + totV b
  | [], b => by simp [totV]
  | x :: r, b => by rw [List.cons_append, totV, totV, totV_app r b]; omega
theorem workV_b (x : Int) (hx : 0 ≤ x ∧ x < 4294967296) : 0 ≤ workV x ∧ workV x < WW := by
  obtain ⟨v0, v1, v2, v3, hv, hn⟩ := work_ex x hx
  rw [← hn]; exact hv.nn
theorem totV_nn : ∀ (l : List Int), (∀ x ∈ l, 0 ≤ x ∧ x < 4294967296) → 0 ≤ totV l
  | [], _ => Int.le_refl 0
  | x :: r, h => by
    have h1 := totV_nn r (fun y hy => h y (by simp [hy]))
    have h2 := (workV_b x (h x (by simp))).1
    unfold totV; omega
theorem totV_succ (l : List Int) (j : Nat) (h : j < l.length) : totV (l.take (j + 1)) = totV (l.take j) + workV (l.getD j 0) := by
  rw [List.take_succ_eq_append_getElem h, totV_app, totV, totV, Int.add_zero]
  congr 2
  simp [List.getD, h]

def TotRel (w : World) (l : List Int) (n : Nat) (lo i : Value) (wr : World) : Prop :=
  ∃ (j : Nat) (s0 s1 s2 s3 : Int), j ≤ n ∧ i = .int .i64 (j : Int) ∧ lo = .bool (decide (WW ≤ totV (l.take j))) ∧ B4 s0 s1 s2 s3 ∧ N4 s0 s1 s2 s3 = totV (l.take j) % WW ∧ Below w.heap.size w wr ∧
    Mem wr [(w.heap.size + 1, [.int .u64 s0, .int .u64 s1, .int .u64 s2, .int .u64 s3]), (w.heap.size, [.int .u64 0, .int .u64 0, .int .u64 0, .int .u64 0])]

set_option maxRecDepth 100000 in
set_option maxHeartbeats 2000000 in
theorem total_any (ao : Option Addr) (n c : Nat) (l : List Int) (w : World) (hr : Row w ao n c 1 (c32 l)) (hl : ∀ x ∈ l, 0 ≤ x ∧ x < 4294967296) (hn : n ≤ 1000000) {t0 t1 t2 t3 : Int} (ht : B4 t0 t1 t2 t3) (htn : N4 t0 t1 t2 t3 = totV l % WW)
    (ov : Bool) (hov : decide (WW ≤ totV l) = ov) :
    Calls Try.prog 39 #[.slice ao n c] w fun e w' => e = .returned (.tuple #[U4 t0 t1 t2 t3, .bool ov]) ∧ Below w.heap.size w w' := by
  have HL := Lib.hid hr.len32
  have HR := Lib.hid hr
  have HE := Lib.hid hl
  have HT := Lib.hid (show B4 t0 t1 t2 t3 ∧ N4 t0 t1 t2 t3 = totV l % WW ∧ decide (WW ≤ totV l) = ov from ⟨ht, htn, hov⟩)
  clear hr hl ht htn hov
  go_enter Try.func39, Try.ntmps39
  go_wp2
  go_loopw [5, 11] (fun lo i wr => TotRel w l n lo i wr) (fun _ i _ => n - (intOf i).toNat)
  case atStart =>
    refine ⟨0, 0, 0, 0, 0, Nat.zero_le _, rfl, ?_, b4_zero, ?_, by (repeat (first | exact Below.refl _ _ | refine Below.drew ?_ | refine bl_drewN ?_ _ | (refine Below.alloc ?_ (by first | exact Nat.le_refl _ | (simp; done) | (simp; omega)) _))), ?_⟩
    · rw [List.take_zero]; rfl
    · rw [List.take_zero, n4_zero]; rfl
    · have h := Mem.al (Mem.al (mem_nil w) [.int .u64 0, .int .u64 0, .int .u64 0, .int .u64 0] 26) [.int .u64 0, .int .u64 0, .int .u64 0, .int .u64 0] 26
      simp only [World.size_alloc] at h
      exact h
  case round =>
    obtain ⟨j, s0, s1, s2, s3, hj, rfl, rfl, hs, hsn, hB, hm⟩ := hrel
    have hM := Lib.hid hm
    have hF := hm
    simp only [Mem, cellsAt, Nat.zero_add, Nat.reduceAdd, and_true] at hF
    clear hm
    obtain ⟨lost, hlost⟩ : ∃ z, decide (WW ≤ totV (l.take j)) = z := ⟨_, rfl⟩
    rw [hlost]
    have HS := Lib.hid (show B4 s0 s1 s2 s3 ∧ N4 s0 s1 s2 s3 = totV (l.take j) % WW ∧ decide (WW ≤ totV (l.take j)) = lost from ⟨hs, hsn, hlost⟩)
    clear hs hsn hlost
    by_cases hlt : j < n
    · obtain ⟨b, off, rfl⟩ : ∃ b off, ao = some ⟨b, off, none⟩ := row_addr HR.out (by intro e; have := HR.out.len; rw [e] at this; simp at this; omega)
      obtain ⟨x, hx⟩ : ∃ x, l.getD j 0 = x := ⟨_, rfl⟩
      have hjl : j < l.length := by have := HL.out; omega
      have hxr : 0 ≤ x ∧ x < 4294967296 := by
        rw [← hx]
        refine HE.out _ ?_
        simp [List.getD, hjl]
      have HRow : Hid (∀ x', Below w.heap.size w x' → x'.cell? ⟨b, off + j, none⟩ = some (.int .u32 x)) := fun x' h => by rw [← hx]; exact (HR.out.later h).cell32 j hlt
      obtain ⟨v0, v1, v2, v3, hv, hvn⟩ := work_ex x hxr
      have HW := Lib.hid (fun w => work_any x hxr hv hvn w)
      obtain ⟨m0, m1, m2, m3, over, hmB, hme, hmo⟩ := add_ex HS.out.1 hv
      have HAdd := Lib.hid (fun w => add_n HS.out.1 hv hmB over hme w)
      have HV : Hid (N4 m0 m1 m2 m3 = totV (l.take (j + 1)) % WW ∧ (lost || over) = decide (WW ≤ totV (l.take (j + 1)))) := by
        have h1 := totV_succ l j hjl
        rw [hx] at h1
        have h2 := HS.out.2.1
        have h3 := HS.out.2.2
        have h4 := totV_nn (l.take j) (fun y hy => HE.out y (List.mem_of_mem_take hy))
        have h5 := workV_b x hxr
        have h6 := HS.out.1.nn
        have h7 := hmB.nn
        have hW : 0 < WW := by decide
        rw [hvn] at hme hmo
        have h8 := Int.mul_ediv_add_emod (totV (l.take j)) WW
        have h9 : 0 ≤ totV (l.take j) / WW := Int.ediv_nonneg h4 (Int.le_of_lt hW)
        refine ⟨?_, ?_⟩
        · have e : totV (l.take (j + 1)) = N4 m0 m1 m2 m3 + WW * (totV (l.take j) / WW + if over = true then 1 else 0) := by
            rw [h1]
            rw [← h2] at h8
            cases over <;> simp at hme ⊢ <;> (try rw [Int.mul_add]) <;> omega
          rw [e, Int.add_mul_emod_self_left, Int.emod_eq_of_lt h7.1 h7.2]
        · rw [h1, ← h3, hmo]
          by_cases c1 : WW ≤ totV (l.take j)
          · rw [decide_eq_true c1, decide_eq_true (show WW ≤ totV (l.take j) + workV x by omega)]
            rfl
          · rw [decide_eq_false c1, Bool.false_or]
            rw [Int.emod_eq_of_lt h4 (by omega)] at h2
            rw [h2]
      have HMB := Lib.hid hmB
      have hjn : (j : Int) < (n : Int) := by omega
      clear hx hxr hv hvn hmB hme hmo hjl
      go_wp2
      have hMq := hM.out
      have hBq := hB
      have hBs := hBq.size
      obtain ⟨LL, HLL, hMl⟩ := mem_name hMq
      have hLt := Lib.hid (Mem.lt hMl)
      refine wp_float (MB w LL) (fun _ => .cells #[.int .u64 0, .int .u64 0, .int .u64 0, .int .u64 0] 26) [0, 1, 2, 3, 4, 5, 6, 7, 8, 9] [10] [11, 12] [9] (by kernel_rfl) (by kernel_rfl) ?_ MB.later ⟨hMl, hBq⟩ ?_
      · intro k hk
        simp only [List.mem_cons, List.not_mem_nil, or_false] at hk
        subst hk; exact ⟨_, rfl, rfl, fun a w => by go_simp; rfl⟩
      have hLL := HLL.out
      subst hLL
      clear HLL hMq hM hF hB hBq hMl
      iterate 4 (refine wpG_take rfl (by rfl) (by intro w' hSw; (try dsimp only [MB, Mem, cellsAt] at hSw); go_simp; (try with_reducible rfl)) ?_; (try simp only [Act.put, List.setIfInBounds_toArray, List.set_cons_zero, List.set_cons_succ]))
      (refine wpG_take rfl (by rfl) (by intro w' hSw; have hcr := HRow.out w' hSw.2; (try dsimp only [MB, Mem, cellsAt] at hSw); go_simp; (try with_reducible rfl)) ?_; (try simp only [Act.put, List.setIfInBounds_toArray, List.set_cons_zero, List.set_cons_succ]))
      (refine wpG_call MB.later (HW.out) rfl (by rfl) (by intro w' hSw; (try dsimp only [MB, Mem, cellsAt] at hSw); go_simp; (try with_reducible rfl)) ?_; (try simp only [Act.put, List.setIfInBounds_toArray, List.set_cons_zero, List.set_cons_succ]))
      (refine wpG_call MB.later (HAdd.out) rfl (by rfl) (by intro w' hSw; (try dsimp only [MB, Mem, cellsAt] at hSw); go_simp; (try with_reducible rfl)) ?_; (try simp only [Act.put, List.setIfInBounds_toArray, List.set_cons_zero, List.set_cons_succ]))
      iterate 3 (refine wpG_take rfl (by rfl) (by intro w' hSw; (try dsimp only [MB, Mem, cellsAt] at hSw); go_simp; (try with_reducible rfl)) ?_; (try simp only [Act.put, List.setIfInBounds_toArray, List.set_cons_zero, List.set_cons_succ]))
      (refine wpG_nil ?_)
      intro G w2 hG hSw hbx hsz
      obtain ⟨g, eg, hlg, hbm⟩ := box_one hG hbx 10 (by simp) (vs := [.int .u64 0, .int .u64 0, .int .u64 0, .int .u64 0]) rfl
      simp only [putAll, eg, dstOf, ptrOf, List.getElem?_toArray, List.getElem?_cons_zero, List.getElem?_cons_succ, Option.bind_some, Act.put, List.setIfInBounds_toArray, List.set_cons_zero, List.set_cons_succ]
      have n2 := set_one hLt.out hlg hbm hSw.1 m0 m1 m2 m3
      have hSw0 := hBs
      have hB := bl_set4 m0 m1 m2 m3 (Nat.le_trans hSw0 hlg) hSw.2
      have hF := hbm
      simp only [Mem, cellsAt, wset4, Nat.zero_add, Nat.reduceAdd, and_true] at hF
      (refine wpOps_go rfl ?_; go_simp)
      have HNE := Lib.hid (And.intro hlg (And.intro hBs hLt.out))
      change wpOps _ _ _ _ _ (wset4 w2 g m0 m1 m2 m3)
      clear hF hSw hbx hG hsz hSw0 hLt hBs eg hlg hbm
      generalize wset4 w2 g m0 m1 m2 m3 = w3 at *
      (refine wpOps_go rfl ?_; go_simp)
      refine wpOps_none ?_
      have hM := Lib.hid n2
      have hF := n2
      simp only [Mem, cellsAt, Nat.zero_add, Nat.reduceAdd, and_true] at hF
      clear n2
      have HD : Hid (∀ p ∈ [(g, [Value.int .u64 m0, .int .u64 m1, .int .u64 m2, .int .u64 m3]), (w.heap.size, [.int .u64 0, .int .u64 0, .int .u64 0, .int .u64 0])], p.1 ≠ w.heap.size + 1) := by
        intro p hp
        rcases List.mem_cons.1 hp with rfl | hp
        · have h1 := HNE.out.2.2 (w.heap.size + 1, [.int .u64 s0, .int .u64 s1, .int .u64 s2, .int .u64 s3]) (by simp)
          exact Nat.ne_of_gt (Nat.lt_of_lt_of_le h1 HNE.out.1)
        · simp at hp
          subst hp
          simp
      have hjw : IntKind.i64.wrap ((j : Int) + 1) = (j : Int) + 1 := wrap_small _ (by omega) (by omega)
      cases lost
      all_goals
        go_wp2
        go_roundw
        case rel =>
          have h1 := Mem.set4 m0 m1 m2 m3 HD.out (Mem.swap hM.out)
          refine ⟨j + 1, m0, m1, m2, m3, by omega, by go_num, ?_, HMB.out, HV.out.1, bl_set4 m0 m1 m2 m3 (Nat.le_succ _) hB, ⟨h1.1, h1.2.2.1, trivial⟩⟩
          have h2 := HV.out.2
          simp only [Bool.true_or, Bool.false_or] at h2
          rw [← h2]
        case measure => first | (simp [intOf]; done) | (simp [intOf]; omega)
    · have hjn : j = n := by omega
      subst hjn
      have hall : l.take j = l := List.take_of_length_le (by have := HL.out; omega)
      rw [hall] at HS
      obtain ⟨rfl, rfl, rfl, rfl⟩ := HS.out.1.inj HT.out.1 (HS.out.2.1.trans HT.out.2.1.symm)
      obtain rfl : lost = ov := HS.out.2.2.symm.trans HT.out.2.2
      clear hall
      have hgs := Nat.le_refl w.heap.size
      go_wp2
      refine bodyPost_ret (v := .tuple #[U4 s0 s1 s2 s3, .bool lost]) (by simp [results, Try.results39, go_sem, hF]) rfl ?_
      exact ⟨rfl, by (repeat (first | exact hB | refine bl_al ?_ _ | refine Below.setCell ?_ (by first | exact hgs | exact Nat.le_succ_of_le hgs | exact hgs2 | exact hgs3) _ | refine Below.drew ?_ | refine bl_drewN ?_ _))⟩
end Go.Proofs.Ytkjlnloionbdbaa
