/- florinref02: turn. (hM) -/
import Derived.Test.YtddcceifblpmbaaDoorSh8
namespace Go.Proofs.YtddcceifblpmbaaDoor
set_option linter.unusedVariables false
set_option linter.unusedSimpArgs false
open Go.RowKit

theorem or32_comm (a b : Int) : bits .or .u32 a b = bits .or .u32 b a := by
  show IntKind.u32.wrap ((BitVec.ofInt 32 a ||| BitVec.ofInt 32 b).toNat : Int) = IntKind.u32.wrap ((BitVec.ofInt 32 b ||| BitVec.ofInt 32 a).toNat : Int)
  rw [BitVec.or_comm]
set_option maxRecDepth 100000 in
theorem rturn_any (x : Int) (n : Nat) (hn : n = 7 ∨ n = 18 ∨ n = 17 ∨ n = 19 ∨ n = 6 ∨ n = 11 ∨ n = 25 ∨ n = 2 ∨ n = 13 ∨ n = 22) (w : World) :
    Calls Tryd.prog 125 #[.int .u32 x, .int .u64 (n : Int)] w fun e w' => e = .returned (.int .u32 (rotR x n)) ∧ w = w' := by
  unfold rotR
  rw [or32_comm]
  rcases hn with rfl | rfl | rfl | rfl | rfl | rfl | rfl | rfl | rfl | rfl <;> (go_enter Tryd.func125, Tryd.ntmps125; go_wp2; go_ret; exact ⟨rfl, rfl⟩)
theorem rturn_lit (x m : Int) (n : Nat) (hm : m = (n : Int)) (hn : n = 7 ∨ n = 18 ∨ n = 17 ∨ n = 19 ∨ n = 6 ∨ n = 11 ∨ n = 25 ∨ n = 2 ∨ n = 13 ∨ n = 22) (w : World) :
    Calls Tryd.prog 125 #[.int .u32 x, .int .u64 m] w fun e w' => e = .returned (.int .u32 (rotR x n)) ∧ w = w' := hm ▸ rturn_any x n hn w

set_option maxRecDepth 100000 in
set_option maxHeartbeats 2000000 in
theorem rwords_any (ao : Option Addr) (cap : Nat) (f : Nat → Int) (w : World) (hr : Row w ao 64 cap 1 (bcells f 64)) (hf : ∀ i, 0 ≤ f i ∧ f i < 256) :
    Calls Tryd.prog 123 #[.slice ao 64 cap] w fun e w' => e = .returned (.agg (u32l (wds f 48) 64).toArray) ∧ Below w.heap.size w w' := by
  obtain ⟨b, off, rfl⟩ : ∃ b off, ao = some ⟨b, off, none⟩ := row_addr hr (by intro e; have := hr.len; rw [e] at this; simp at this)
  have hblt := hr.lt _ rfl (by intro e; have := hr.len; rw [e] at this; simp at this)
  dsimp only at hblt
  have HR := Lib.hid hr
  have HFf := Lib.hid hf
  clear hr hf
  go_enter Tryd.func123, Tryd.ntmps123
  go_wp2
  go_loopw [4] (fun i wr => WdRel w f i wr) (fun i _ => 16 - (intOf i).toNat)
  case atStart =>
    refine ⟨0, Nat.zero_le _, rfl, by (repeat (first | exact Below.refl _ _ | refine Below.drew ?_ | refine bl_drewN ?_ _ | (refine Below.alloc ?_ (by first | exact Nat.le_refl _ | (simp; done) | (simp; omega)) _))), ?_⟩
    rw [u32l_congr (g := fun _ => 0) (fun k _ => by unfold wd0; rw [if_neg (by omega)])]
    have h := Mem.al (Mem.al (mem_nil w) (u32l (fun _ => 0) 64) 142) (u32l (fun _ => 0) 64) 142
    simp only [World.size_alloc] at h
    exact h
  case round =>
    obtain ⟨j, hj, rfl, hB, hm⟩ := hrel
    have HM3 := Lib.hid hm
    by_cases hlt : j < 16
    · obtain ⟨t, ht⟩ : ∃ t, 4 * j = t := ⟨_, rfl⟩
      obtain ⟨p1, hp1⟩ : ∃ p, t + 1 = p := ⟨_, rfl⟩
      obtain ⟨p2, hp2⟩ : ∃ p, t + 2 = p := ⟨_, rfl⟩
      obtain ⟨p3, hp3⟩ : ∃ p, t + 3 = p := ⟨_, rfl⟩
      obtain ⟨y0, hy0⟩ : ∃ y, f t = y := ⟨_, rfl⟩
      obtain ⟨y1, hy1⟩ : ∃ y, f p1 = y := ⟨_, rfl⟩
      obtain ⟨y2, hy2⟩ : ∃ y, f p2 = y := ⟨_, rfl⟩
      obtain ⟨y3, hy3⟩ : ∃ y, f p3 = y := ⟨_, rfl⟩
      have hbe : be4 f j = bits .or .u32 (bits .or .u32 (bits .or .u32 (IntKind.u32.wrap (y0 * 2 ^ 24)) (IntKind.u32.wrap (y1 * 2 ^ 16))) (IntKind.u32.wrap (y2 * 2 ^ 8))) y3 := by
        unfold be4
        rw [ht, hp1, hp2, hp3, hy0, hy1, hy2, hy3]
      have HRow : Hid (∀ x, Below w.heap.size w x → x.cell? ⟨b, off + t, none⟩ = some (.int .u8 y0) ∧ x.cell? ⟨b, off + p1, none⟩ = some (.int .u8 y1) ∧ x.cell? ⟨b, off + p2, none⟩ = some (.int .u8 y2) ∧ x.cell? ⟨b, off + p3, none⟩ = some (.int .u8 y3)) := fun x h => by
        rw [← hy0, ← hy1, ← hy2, ← hy3]
        have hc := (HR.out.later h).cells _ rfl
        exact ⟨(hc t _ (bcells_get f 64 t (by omega))).2, (hc p1 _ (bcells_get f 64 p1 (by omega))).2, (hc p2 _ (bcells_get f 64 p2 (by omega))).2, (hc p3 _ (bcells_get f 64 p3 (by omega))).2⟩
      have b0 := HFf.out t
      have b1 := HFf.out p1
      have b2 := HFf.out p2
      have b3 := HFf.out p3
      rw [hy0] at b0
      rw [hy1] at b1
      rw [hy2] at b2
      rw [hy3] at b3
      have v0 : IntKind.u32.wrap y0 = y0 := by rw [IntKind.wrap_u32]; omega
      have v1 : IntKind.u32.wrap y1 = y1 := by rw [IntKind.wrap_u32]; omega
      have v2 : IntKind.u32.wrap y2 = y2 := by rw [IntKind.wrap_u32]; omega
      have v3 : IntKind.u32.wrap y3 = y3 := by rw [IntKind.wrap_u32]; omega
      have t0 : IntKind.i64.wrap (4 * (j : Int)) = (t : Int) := by rw [IntKind.wrap_i64]; omega
      have t1 : IntKind.i64.wrap ((t : Int) + 1) = (p1 : Int) := by rw [IntKind.wrap_i64]; omega
      have t2 : IntKind.i64.wrap ((t : Int) + 2) = (p2 : Int) := by rw [IntKind.wrap_i64]; omega
      have t3 : IntKind.i64.wrap ((t : Int) + 3) = (p3 : Int) := by rw [IntKind.wrap_i64]; omega
      have l0 : (t : Int) < 64 := by omega
      have l1 : (p1 : Int) < 64 := by omega
      have l2 : (p2 : Int) < 64 := by omega
      have l3 : (p3 : Int) < 64 := by omega
      have hcq := cellsAt_get hm.1.2.2 (u32l_get (wd0 f j) 64 j (by omega))
      have hfz := hm.1.2.1 j
      have HBE := Lib.hid hbe
      have hj64 : (j : Int) < 64 := by omega
      clear hm ht hp1 hp2 hp3 hy0 hy1 hy2 hy3 b0 b1 b2 b3 hbe
      go_wp2
      refine wp_plan (fun x => x.cell? ⟨b, off + t, none⟩ = some (.int .u8 y0) ∧ x.cell? ⟨b, off + p1, none⟩ = some (.int .u8 y1) ∧ x.cell? ⟨b, off + p2, none⟩ = some (.int .u8 y2) ∧ x.cell? ⟨b, off + p3, none⟩ = some (.int .u8 y3)) [35] [0, 1, 2, 3, 4, 5, 6, 7, 8, 9, 10, 11, 12, 13, 14, 15, 16, 17, 18, 19, 20, 21, 22, 23, 24, 25, 26, 27, 28, 29, 30, 31, 32, 33, 34, 35] (by kernel_rfl) (by kernel_rfl) (HRow.out _ hB.drew) (fun hHeld => ?_)
      iterate 35 (refine wpT_take rfl (by rfl) (by rfl) (by intro w' hSw; (try dsimp only [Mem, cellsAt] at hSw); go_simp; (try with_reducible rfl)) (by assumption) ?_; (try simp only [Act.put, List.setIfInBounds_toArray, List.set_cons_zero, List.set_cons_succ]))
      (refine wpT_step rfl (by rfl) (fun K hK => ?_); go_simp)
      (refine hK.out _ _ _ (fun _ h => h) (HRow.out _ (hB.drew.setCell (by show w.heap.size ≤ w.heap.size + 1; omega) _)) (fun hHeld => ?_); clear hK; clear K; (try simp only [Act.put, List.setIfInBounds_toArray, List.set_cons_zero, List.set_cons_succ]))
      (refine wpT_nil ?_)
      go_wp2
      have hM2 := Mem.setN (k := j) (v := .int .u32 (be4 f j)) (b := w.heap.size + 1) (by intro p hp; simp at hp; subst hp; simp) HM3.out
      rw [u32l_set, wd0_set, HBE.out] at hM2
      refine ⟨⟨j + 1, by omega, by go_num, hB.drew.setCell (by show w.heap.size ≤ w.heap.size + 1; omega) _, Mem.drew hM2⟩, by simp [intOf]; omega⟩
    · have hjn : j = 16 := by omega
      subst hjn
      have h16 : ((16 : Nat) : Int) = 16 := rfl
      rw [h16]
      clear hm
      go_wp2
      go_loopw [5] (fun i wr => WdRel2 w f i wr) (fun i _ => 64 - (intOf i).toNat)
      case atStart => exact ⟨0, Nat.zero_le _, rfl, hB, HM3.out⟩
      case round =>
        obtain ⟨t, ht, rfl, hB, hm⟩ := hrel
        have HM4 := Lib.hid hm
        obtain ⟨q, hq⟩ : ∃ q, 16 + t = q := ⟨_, rfl⟩
        simp only [hq]
        by_cases hlt : t < 48
        · obtain ⟨m15, h15⟩ : ∃ m, 16 + t - 15 = m := ⟨_, rfl⟩
          obtain ⟨m2, h2⟩ : ∃ m, 16 + t - 2 = m := ⟨_, rfl⟩
          obtain ⟨m7, h7⟩ : ∃ m, 16 + t - 7 = m := ⟨_, rfl⟩
          obtain ⟨m16, h16'⟩ : ∃ m, 16 + t - 16 = m := ⟨_, rfl⟩
          obtain ⟨g, hg⟩ : ∃ g, wds f t = g := ⟨_, rfl⟩
          have hst : wds f (t + 1) = setF g q (add32 (add32 (add32 (sg1 (g m2)) (g m7)) (sg0 (g m15))) (g m16)) := by
            rw [← hg, ← hq, ← h15, ← h2, ← h7, ← h16']
            rfl
          rw [hg] at hm HM4
          obtain ⟨x15, hx15⟩ : ∃ x, g m15 = x := ⟨_, rfl⟩
          obtain ⟨x2, hx2⟩ : ∃ x, g m2 = x := ⟨_, rfl⟩
          obtain ⟨x7, hx7⟩ : ∃ x, g m7 = x := ⟨_, rfl⟩
          obtain ⟨x16, hx16⟩ : ∃ x, g m16 = x := ⟨_, rfl⟩
          have c15 := cellsAt_get hm.1.2.2 (u32l_get g 64 m15 (by omega))
          have c2 := cellsAt_get hm.1.2.2 (u32l_get g 64 m2 (by omega))
          have c7 := cellsAt_get hm.1.2.2 (u32l_get g 64 m7 (by omega))
          have c16 := cellsAt_get hm.1.2.2 (u32l_get g 64 m16 (by omega))
          have cq := cellsAt_get hm.1.2.2 (u32l_get g 64 q (by omega))
          have hfz := hm.1.2.1 q
          rw [hx15] at c15
          rw [hx2] at c2
          rw [hx7] at c7
          rw [hx16] at c16
          rw [hx15, hx2, hx7, hx16] at hst
          have w15 : IntKind.i64.wrap ((q : Int) - 15) = (m15 : Int) := by rw [IntKind.wrap_i64]; omega
          have w2 : IntKind.i64.wrap ((q : Int) - 2) = (m2 : Int) := by rw [IntKind.wrap_i64]; omega
          have w7 : IntKind.i64.wrap ((q : Int) - 7) = (m7 : Int) := by rw [IntKind.wrap_i64]; omega
          have w16 : IntKind.i64.wrap ((q : Int) - 16) = (m16 : Int) := by rw [IntKind.wrap_i64]; omega
          have hq64 : (q : Int) < 64 := by omega
          have hm15 : (m15 : Int) < 64 := by omega
          have hm2 : (m2 : Int) < 64 := by omega
          have hm7 : (m7 : Int) < 64 := by omega
          have hm16 : (m16 : Int) < 64 := by omega
          have HC := Lib.hid (And.intro c15 (And.intro c2 (And.intro c7 c16)))
          have far : ∀ (m : Nat) (x : Int) (v : Value), m ≠ q → wr.cell? ⟨w.heap.size + 1, m, none⟩ = some (.int .u32 x) → (wr.setCell ⟨w.heap.size + 1, q, none⟩ v).cell? ⟨w.heap.size + 1, m, none⟩ = some (.int .u32 x) := fun m x v hne h => by
            rw [World.cell?_setCell_other _ _ _ _ (by intro e; simp at e <;> omega)]
            exact h
          have HS : Hid (∀ v : Value, (wr.setCell ⟨w.heap.size + 1, q, none⟩ v).cell? ⟨w.heap.size + 1, m15, none⟩ = some (.int .u32 x15) ∧ (wr.setCell ⟨w.heap.size + 1, q, none⟩ v).cell? ⟨w.heap.size + 1, m2, none⟩ = some (.int .u32 x2) ∧ (wr.setCell ⟨w.heap.size + 1, q, none⟩ v).cell? ⟨w.heap.size + 1, m7, none⟩ = some (.int .u32 x7) ∧ (wr.setCell ⟨w.heap.size + 1, q, none⟩ v).cell? ⟨w.heap.size + 1, m16, none⟩ = some (.int .u32 x16)) := fun v =>
            ⟨far _ _ v (by omega) c15, far _ _ v (by omega) c2, far _ _ v (by omega) c7, far _ _ v (by omega) c16⟩
          clear far
          have HQ := Lib.hid (And.intro hq hst)
          have hvis := HC.out
          clear hm hq hst h15 h2 h7 h16' hx15 hx2 hx7 hx16 c15 c2 c7 c16 hg HM3
          go_wp2_with (go_at_call 125; first | ((with_reducible refine (rturn_lit _ 7 7 rfl (by decide) _).mono ?_); rintro e w1 ⟨rfl, rfl⟩) | ((with_reducible refine (rturn_lit _ 18 18 rfl (by decide) _).mono ?_); rintro e w1 ⟨rfl, rfl⟩) | ((with_reducible refine (rturn_lit _ 17 17 rfl (by decide) _).mono ?_); rintro e w1 ⟨rfl, rfl⟩) | ((with_reducible refine (rturn_lit _ 19 19 rfl (by decide) _).mono ?_); rintro e w1 ⟨rfl, rfl⟩))
          refine wp_plan (fun x => x.cell? ⟨w.heap.size + 1, m15, none⟩ = some (.int .u32 x15) ∧ x.cell? ⟨w.heap.size + 1, m2, none⟩ = some (.int .u32 x2) ∧ x.cell? ⟨w.heap.size + 1, m7, none⟩ = some (.int .u32 x7) ∧ x.cell? ⟨w.heap.size + 1, m16, none⟩ = some (.int .u32 x16)) [15] [0, 1, 2, 3, 4, 5, 6, 7, 8, 9, 10, 11, 12, 13, 14, 15] (by kernel_rfl) (by kernel_rfl) HC.out (fun hHeld => ?_)
          iterate 15 (refine wpT_take rfl (by rfl) (by rfl) (by intro w' hSw; (try dsimp only [Mem, cellsAt] at hSw); go_simp; (try with_reducible rfl)) (by assumption) ?_; (try simp only [Act.put, List.setIfInBounds_toArray, List.set_cons_zero, List.set_cons_succ]))
          (refine wpT_step rfl (by rfl) (fun K hK => ?_); go_simp)
          (refine hK.out _ _ _ (fun _ h => h) (HS.out _) (fun hHeld => ?_); clear hK; clear K; (try simp only [Act.put, List.setIfInBounds_toArray, List.set_cons_zero, List.set_cons_succ]))
          (refine wpT_nil ?_)
          go_wp2
          have hM2 := Mem.setN (k := q) (v := .int .u32 (add32 (add32 (add32 (sg1 x2) x7) (sg0 x15)) x16)) (b := w.heap.size + 1) (by intro p hp; simp at hp; subst hp; simp) HM4.out
          rw [u32l_set, ← HQ.out.2] at hM2
          refine ⟨⟨t + 1, by omega, ?_, hB.drew.setCell (by show w.heap.size ≤ w.heap.size + 1; omega) _, Mem.drew hM2⟩, by simp [intOf] <;> omega⟩
          rw [← HQ.out.1]
          go_num
        · have hte : t = 48 := by omega
          subst hte
          have hq64 : ¬ (q : Int) < 64 := by omega
          have hge : 64 ≤ (q : Int) := by omega
          clear hm HM3 hq
          have HTh := Lib.hid (thereW (n := (u32l (wds f 48) 64).length) HM4.out.2.1 (by rw [u32l_len, u32l_len]; exact Nat.le_refl _))
          go_wp2_with (first | (refine Go.wpList_load_mid rfl 142 (.tmp 3) rfl (w.heap.size + 1) 0 rfl (u32l (wds f 48) 64) _ (rangeAt_of HM4.out.1.2.2) Tryd.underlying142 rfl (by rw [u32l_len]; kernel_rfl) ?_) | (refine Go.wpList_store_mid rfl 142 (.tmp 2) (.tmp 92) rfl w.heap.size 0 (u32l (wds f 48) 64).toArray rfl rfl (by simpa using HTh.out) (by simp only [List.size_toArray, u32l_len]; kernel_rfl) (Go.all_oneCell_toArray (u32l_one _ 64)) ?_))
          have hl := Go.run_loadVar_mid (P := Tryd.prog) (wr.setCells w.heap.size 0 (u32l (wds f 48) 64)) w.heap.size 0 142 (u32l (wds f 48) 64) _ (World.rangeAt_setCells_same wr w.heap.size 0 (u32l (wds f 48) 64) HTh.out) Tryd.underlying142 rfl (by rw [u32l_len]; kernel_rfl)
          refine bodyPost_ret (v := .agg (u32l (wds f 48) 64).toArray) (by simp [results, Tryd.results123, asAddr, hl, Act.put]) rfl ⟨rfl, bl_setCellsW (Nat.le_refl _) _ _ _ hB⟩
end Go.Proofs.YtddcceifblpmbaaDoor
