/- Disk: Sane, sane. -/
import Derived.Test.YtoihponjnhhgbaaDk0
namespace Go.Proofs.Ytoihponjnhhgbaa
set_option linter.unusedVariables false
set_option linter.unusedSimpArgs false
open Go.RowKit

def SaneRel (w1 : World) (k : Int) (m : Nat) (R : List Rep) (i : Value) (wr : World) : Prop :=
  ∃ j : Nat, j ≤ m ∧ i = .int .i64 (j : Int) ∧ (∀ t r, t < j → R[t]? = some r → okW k r.plain = true) ∧ Below w1.heap.size w1 wr

theorem saneD_bad (base : List Int) (R : List Rep) (r : Rep) (h : r ∈ R) (hb : okW ((base.length : Int) / 32) r.plain = false) : saneD base (R.map Rep.plain) = false := by
  have : (R.map Rep.plain).all (okW ((base.length : Int) / 32)) = false := by
    rw [List.all_eq_false]
    exact ⟨r.plain, List.mem_map.2 ⟨r, h, rfl⟩, by simp [hb]⟩
  simp only [saneD, this, Bool.and_false]

theorem sane_held {w w1 wr x : World} {u v u' v' : Value} {T T' : TypeId} (hb1 : Below (w.alloc (.cells #[u, v] T)).heap.size (w.alloc (.cells #[u, v] T)) w1) (hbr : Below w1.heap.size w1 wr) (hx : Below (wr.alloc (.cells #[u', v'] T')).heap.size (wr.alloc (.cells #[u', v'] T')) x) :
    x.cell? ⟨wr.heap.size, 0, none⟩ = some u' ∧ x.cell? ⟨wr.heap.size, 1, none⟩ = some v' ∧ x.cell? ⟨w.heap.size, 0, none⟩ = some u ∧ x.cell? ⟨w.heap.size, 1, none⟩ = some v := by
  obtain ⟨h1, h2, _⟩ := box2 hx
  obtain ⟨h3, h4, _⟩ := box2 (bl_then (bl_al (bl_then hb1 hbr) _) hx)
  exact ⟨h1, h2, h3, h4⟩

set_option maxHeartbeats 1000000 in
theorem sane_any (ao : Option Addr) (n c : Nat) (base : List Int) (po : Option Addr) (m pc : Nat) (R : List Rep) (w : World) (h : DP w ao n c base po m pc R) (hn : n ≤ 1000000) (hm : m ≤ 1000000) :
    Calls Try.prog 20 #[.agg #[.slice ao n c, .slice po m pc]] w fun e w' => e = .returned (.bool (saneD base (R.map Rep.plain))) ∧ Below w.heap.size w w' := by
  have hl := h.row.len8
  have hlm := h.pend.lenw
  have hmp := h.pend.le
  have H := Lib.hid h
  have HL := Lib.hid hl
  have HLM := Lib.hid hlm
  obtain ⟨s, hs⟩ : ∃ s, saneD base (R.map Rep.plain) = s := ⟨_, rfl⟩
  rw [hs]
  have HS := Lib.hid hs
  have HC := Lib.hid (fun w' => count_any ao n c po m pc w' hn)
  clear h hl hlm hs
  by_cases h32 : ¬ n % 32 = 0
  · have h32' : ¬ (n : Int) % 32 = 0 := by omega
    have hsf : s = false := by rw [← HS.out]; simp only [saneD, ← HL.out, h32, decide_false, Bool.false_and]
    subst hsf
    go_enter Try.func20, Try.ntmps20
    go_wp2
    go_ret
    exact ⟨rfl, below_alloc _ _⟩
  have h32' : (n : Int) % 32 = 0 := by omega
  by_cases h4 : (4096 : Int) < (n : Int) / 32
  · have hsf : s = false := by rw [← HS.out]; simp only [saneD, ← HL.out, show ¬ n / 32 ≤ 4096 by omega, decide_false, Bool.and_false, Bool.false_and]
    subst hsf
    go_enter Try.func20, Try.ntmps20
    go_wp2_with (go_at_call 31; (with_reducible refine (HC.out _).mono ?_); rintro e w1 ⟨rfl, hb1⟩; obtain ⟨hc1, hc2, hc3, hc4, hc5⟩ := box2 hb1)
    go_ret
    exact ⟨rfl, bl_then (below_alloc _ _) hb1⟩
  by_cases h5 : (100000 : Int) < (m : Int)
  · have hsf : s = false := by rw [← HS.out]; simp only [saneD, List.length_map, ← HLM.out, show ¬ m ≤ 100000 by omega, decide_false, Bool.and_false, Bool.false_and]
    subst hsf
    go_enter Try.func20, Try.ntmps20
    go_wp2_with (go_at_call 31; (with_reducible refine (HC.out _).mono ?_); rintro e w1 ⟨rfl, hb1⟩; obtain ⟨hc1, hc2, hc3, hc4, hc5⟩ := box2 hb1)
    go_ret
    exact ⟨rfl, bl_then (below_alloc _ _) hb1⟩
  go_enter Try.func20, Try.ntmps20
  go_wp2_with (go_at_call 31; (with_reducible refine (HC.out _).mono ?_); rintro e w1 ⟨rfl, hb1⟩; obtain ⟨hc1, hc2, hc3, hc4, hc5⟩ := box2 hb1)
  have hB0 := bl_then (below_alloc w (.cells #[.slice ao n c, .slice po m pc] 30)) hb1
  go_loopw [24] (fun i wr => SaneRel w1 ((n : Int) / 32) m R i wr) (fun i _ => m - (intOf i).toNat)
  case atStart => exact ⟨0, by omega, rfl, fun t ht => by omega, Below.refl _ _⟩
  case round =>
    obtain ⟨j, hj, rfl, hq, hbr⟩ := hrel
    have HQ := Lib.hid hq
    clear hq
    clear hc1 hc2 hc3 hc4
    obtain ⟨hc1, hc2, hc3, hc4, hc6⟩ := box2 (bl_then hb1 hbr)
    by_cases hlt : j < m
    · obtain ⟨b, off, rfl⟩ := row_addr H.out.pend (by intro e; have := wc_len R; rw [e] at this; simp at this; have := HLM.out; omega)
      obtain ⟨r, hr⟩ : ∃ r, R[j]? = some r := ⟨_, List.getElem?_eq_getElem (by have := HLM.out; omega)⟩
      have HR := Lib.hid hr
      clear hr
      have hjn : (j : Int) < (m : Int) := by omega
      obtain ⟨hw1, hw2⟩ := (H.out.later (bl_then hB0 hbr)).pend.wcell j r HR.out
      go_wp2
      have hS := fun x (hx : Below (wr.alloc (.cells #[.int .i64 r.at_, .slice r.ao r.n r.c] 57)).heap.size (wr.alloc (.cells #[.int .i64 r.at_, .slice r.ao r.n r.c] 57)) x) => sane_held hb1 hbr hx
      have HSd := Lib.hid hS
      clear hS
      have hBW := bl_al (bl_then hB0 hbr) (.cells #[.int .i64 r.at_, .slice r.ao r.n r.c] 57)
      by_cases hat : r.at_ < 0
      · have hsf : s = false := by rw [← HS.out]; exact saneD_bad base R r (List.mem_of_getElem? HR.out) (by rw [← HL.out]; simp only [okW, Rep.plain, show ¬ 0 ≤ r.at_ by omega, decide_false, Bool.false_and])
        subst hsf
        refine wp_plan (fun x => (x.cell? ⟨wr.heap.size, 0, none⟩ = some (.int .i64 r.at_) ∧ x.cell? ⟨wr.heap.size, 1, none⟩ = some (.slice r.ao r.n r.c) ∧ x.cell? ⟨w.heap.size, 0, none⟩ = some (.slice ao n c) ∧ x.cell? ⟨w.heap.size, 1, none⟩ = some (.slice (some ⟨b, off, none⟩) m pc)) ∧ Below (wr.alloc (.cells #[.int .i64 r.at_, .slice r.ao r.n r.c] 57)).heap.size (wr.alloc (.cells #[.int .i64 r.at_, .slice r.ao r.n r.c] 57)) x) [7] [0, 1, 2, 3, 4, 5, 6, 7, 8, 9, 10, 11, 12, 13, 14, 15] (by kernel_rfl) (by kernel_rfl) ⟨HSd.out _ (Below.refl _ _).drew, (Below.refl _ _).drew⟩ (fun hHeld => ?_)
        iterate 4 (refine wpT_take rfl (by rfl) (by rfl) (by intro w' hSw; (try dsimp only at hSw); go_simp; (try with_reducible rfl)) (by assumption) ?_; (try simp only [Act.put, List.setIfInBounds_toArray, List.set_cons_zero, List.set_cons_succ]))
        iterate 3 (refine wpT_pass rfl (by rfl) (by rfl) (by assumption) ?_; (try simp only [Act.put, List.setIfInBounds_toArray, List.set_cons_zero, List.set_cons_succ]))
        (refine wpT_step rfl (by rfl) (fun K hK => ?_); go_simp)
        (refine hK.out _ _ _ (fun _ h => h) (hHeld) (fun hHeld => ?_); clear hK; clear K; (try simp only [Act.put, List.setIfInBounds_toArray, List.set_cons_zero, List.set_cons_succ]))
        iterate 1 (refine wpT_pass rfl (by rfl) (by rfl) (by assumption) ?_; (try simp only [Act.put, List.setIfInBounds_toArray, List.set_cons_zero, List.set_cons_succ]))
        iterate 2 (refine wpT_take rfl (by rfl) (by rfl) (by intro w' hSw; (try dsimp only at hSw); go_simp; (try with_reducible rfl)) (by assumption) ?_; (try simp only [Act.put, List.setIfInBounds_toArray, List.set_cons_zero, List.set_cons_succ]))
        iterate 4 (refine wpT_pass rfl (by rfl) (by rfl) (by assumption) ?_; (try simp only [Act.put, List.setIfInBounds_toArray, List.set_cons_zero, List.set_cons_succ]))
        iterate 1 (refine wpT_take rfl (by rfl) (by rfl) (by intro w' hSw; (try dsimp only at hSw); go_simp; (try with_reducible rfl)) (by assumption) ?_; (try simp only [Act.put, List.setIfInBounds_toArray, List.set_cons_zero, List.set_cons_succ]))
        (refine wpT_nil ?_)
        go_wp2
        go_ret
        exact ⟨rfl, hBW.drew⟩
      by_cases hat2 : (n : Int) / 32 ≤ r.at_
      · have hsf : s = false := by rw [← HS.out]; exact saneD_bad base R r (List.mem_of_getElem? HR.out) (by rw [← HL.out]; simp only [okW, Rep.plain, show ¬ r.at_ < (n : Int) / 32 by omega, decide_false, Bool.and_false, Bool.false_and])
        subst hsf
        refine wp_plan (fun x => (x.cell? ⟨wr.heap.size, 0, none⟩ = some (.int .i64 r.at_) ∧ x.cell? ⟨wr.heap.size, 1, none⟩ = some (.slice r.ao r.n r.c) ∧ x.cell? ⟨w.heap.size, 0, none⟩ = some (.slice ao n c) ∧ x.cell? ⟨w.heap.size, 1, none⟩ = some (.slice (some ⟨b, off, none⟩) m pc)) ∧ Below (wr.alloc (.cells #[.int .i64 r.at_, .slice r.ao r.n r.c] 57)).heap.size (wr.alloc (.cells #[.int .i64 r.at_, .slice r.ao r.n r.c] 57)) x) [7] [0, 1, 2, 3, 4, 5, 6, 7, 8, 9, 10, 11, 12, 13, 14, 15] (by kernel_rfl) (by kernel_rfl) ⟨HSd.out _ (Below.refl _ _).drew, (Below.refl _ _).drew⟩ (fun hHeld => ?_)
        iterate 7 (refine wpT_take rfl (by rfl) (by rfl) (by intro w' hSw; (try dsimp only at hSw); go_simp; (try with_reducible rfl)) (by assumption) ?_; (try simp only [Act.put, List.setIfInBounds_toArray, List.set_cons_zero, List.set_cons_succ]))
        (refine wpT_step rfl (by rfl) (fun K hK => ?_); go_simp)
        refine (HC.out _).mono ?_
        rintro e w4 ⟨rfl, hb4⟩
        replace hb4 := bl_then (Below.refl _ _).drew hb4
        (refine hK.out _ _ _ (fun _ h => h) (⟨HSd.out _ hb4, hb4⟩) (fun hHeld => ?_); clear hK; clear K; (try simp only [Act.put, List.setIfInBounds_toArray, List.set_cons_zero, List.set_cons_succ]))
        iterate 3 (refine wpT_take rfl (by rfl) (by rfl) (by intro w' hSw; (try dsimp only at hSw); go_simp; (try with_reducible rfl)) (by assumption) ?_; (try simp only [Act.put, List.setIfInBounds_toArray, List.set_cons_zero, List.set_cons_succ]))
        iterate 4 (refine wpT_pass rfl (by rfl) (by rfl) (by assumption) ?_; (try simp only [Act.put, List.setIfInBounds_toArray, List.set_cons_zero, List.set_cons_succ]))
        iterate 1 (refine wpT_take rfl (by rfl) (by rfl) (by intro w' hSw; (try dsimp only at hSw); go_simp; (try with_reducible rfl)) (by assumption) ?_; (try simp only [Act.put, List.setIfInBounds_toArray, List.set_cons_zero, List.set_cons_succ]))
        (refine wpT_nil ?_)
        go_wp2
        go_ret
        exact ⟨rfl, bl_then hBW hb4⟩
      by_cases hn32 : (r.n : Int) = 32
      · have hok : okW ((n : Int) / 32) r.plain = true := by
          have hd := (H.out.data r (List.mem_of_getElem? HR.out)).len8
          have he : okW ((n : Int) / 32) r.plain = (decide (0 ≤ r.at_) && decide (r.at_ < (n : Int) / 32) && decide (r.data.length = 32)) := rfl
          rw [he, decide_eq_true (by omega), decide_eq_true (by omega), decide_eq_true (show r.data.length = 32 by omega)]
          rfl
        have HOK := Lib.hid hok
        clear hok
        refine wp_plan (fun x => (x.cell? ⟨wr.heap.size, 0, none⟩ = some (.int .i64 r.at_) ∧ x.cell? ⟨wr.heap.size, 1, none⟩ = some (.slice r.ao r.n r.c) ∧ x.cell? ⟨w.heap.size, 0, none⟩ = some (.slice ao n c) ∧ x.cell? ⟨w.heap.size, 1, none⟩ = some (.slice (some ⟨b, off, none⟩) m pc)) ∧ Below (wr.alloc (.cells #[.int .i64 r.at_, .slice r.ao r.n r.c] 57)).heap.size (wr.alloc (.cells #[.int .i64 r.at_, .slice r.ao r.n r.c] 57)) x) [7] [0, 1, 2, 3, 4, 5, 6, 7, 8, 9, 10, 11, 12, 13, 14, 15] (by kernel_rfl) (by kernel_rfl) ⟨HSd.out _ (Below.refl _ _).drew, (Below.refl _ _).drew⟩ (fun hHeld => ?_)
        iterate 7 (refine wpT_take rfl (by rfl) (by rfl) (by intro w' hSw; (try dsimp only at hSw); go_simp; (try with_reducible rfl)) (by assumption) ?_; (try simp only [Act.put, List.setIfInBounds_toArray, List.set_cons_zero, List.set_cons_succ]))
        (refine wpT_step rfl (by rfl) (fun K hK => ?_); go_simp)
        refine (HC.out _).mono ?_
        rintro e w4 ⟨rfl, hb4⟩
        replace hb4 := bl_then (Below.refl _ _).drew hb4
        (refine hK.out _ _ _ (fun _ h => h) (⟨HSd.out _ hb4, hb4⟩) (fun hHeld => ?_); clear hK; clear K; (try simp only [Act.put, List.setIfInBounds_toArray, List.set_cons_zero, List.set_cons_succ]))
        iterate 8 (refine wpT_take rfl (by rfl) (by rfl) (by intro w' hSw; (try dsimp only at hSw); go_simp; (try with_reducible rfl)) (by assumption) ?_; (try simp only [Act.put, List.setIfInBounds_toArray, List.set_cons_zero, List.set_cons_succ]))
        (refine wpT_nil ?_)
        go_wp2
        go_roundw
        case rel =>
          refine ⟨j + 1, by omega, by go_num, fun t r' ht hr' => ?_, bl_then (bl_al hbr _) hb4⟩
          rcases Nat.lt_or_ge t j with h | h
          · exact HQ.out t r' h hr'
          · have : t = j := by omega
            subst this
            rw [HR.out] at hr'
            cases hr'
            exact HOK.out
        case measure => simp [intOf]; omega
      · have hsf : s = false := by
          have hd := (H.out.data r (List.mem_of_getElem? HR.out)).len8
          rw [← HS.out]; exact saneD_bad base R r (List.mem_of_getElem? HR.out) (by rw [← HL.out]; simp only [okW, Rep.plain, show ¬ r.data.length = 32 by omega, decide_false, Bool.and_false])
        subst hsf
        refine wp_plan (fun x => (x.cell? ⟨wr.heap.size, 0, none⟩ = some (.int .i64 r.at_) ∧ x.cell? ⟨wr.heap.size, 1, none⟩ = some (.slice r.ao r.n r.c) ∧ x.cell? ⟨w.heap.size, 0, none⟩ = some (.slice ao n c) ∧ x.cell? ⟨w.heap.size, 1, none⟩ = some (.slice (some ⟨b, off, none⟩) m pc)) ∧ Below (wr.alloc (.cells #[.int .i64 r.at_, .slice r.ao r.n r.c] 57)).heap.size (wr.alloc (.cells #[.int .i64 r.at_, .slice r.ao r.n r.c] 57)) x) [7] [0, 1, 2, 3, 4, 5, 6, 7, 8, 9, 10, 11, 12, 13, 14, 15] (by kernel_rfl) (by kernel_rfl) ⟨HSd.out _ (Below.refl _ _).drew, (Below.refl _ _).drew⟩ (fun hHeld => ?_)
        iterate 7 (refine wpT_take rfl (by rfl) (by rfl) (by intro w' hSw; (try dsimp only at hSw); go_simp; (try with_reducible rfl)) (by assumption) ?_; (try simp only [Act.put, List.setIfInBounds_toArray, List.set_cons_zero, List.set_cons_succ]))
        (refine wpT_step rfl (by rfl) (fun K hK => ?_); go_simp)
        refine (HC.out _).mono ?_
        rintro e w4 ⟨rfl, hb4⟩
        replace hb4 := bl_then (Below.refl _ _).drew hb4
        (refine hK.out _ _ _ (fun _ h => h) (⟨HSd.out _ hb4, hb4⟩) (fun hHeld => ?_); clear hK; clear K; (try simp only [Act.put, List.setIfInBounds_toArray, List.set_cons_zero, List.set_cons_succ]))
        iterate 8 (refine wpT_take rfl (by rfl) (by rfl) (by intro w' hSw; (try dsimp only at hSw); go_simp; (try with_reducible rfl)) (by assumption) ?_; (try simp only [Act.put, List.setIfInBounds_toArray, List.set_cons_zero, List.set_cons_succ]))
        (refine wpT_nil ?_)
        go_wp2
        go_ret
        exact ⟨rfl, bl_then hBW hb4⟩
    · have hjm : j = m := by omega
      have hst : s = true := by
        rw [← HS.out]
        have e1 := HL.out
        have e2 := HLM.out
        simp only [saneD, List.length_map, ← e1, ← e2, Bool.and_eq_true, decide_eq_true_eq, List.all_eq_true]
        refine ⟨⟨⟨by omega, by omega⟩, by omega⟩, ?_⟩
        intro p hp
        obtain ⟨r, hr, rfl⟩ := List.mem_map.1 hp
        obtain ⟨t, ht, rfl⟩ := List.getElem_of_mem hr
        exact HQ.out t R[t] (by omega) (List.getElem?_eq_getElem ht)
      subst hjm
      subst hst
      go_wp2
      go_ret
      exact ⟨rfl, bl_then hB0 hbr⟩
end Go.Proofs.Ytoihponjnhhgbaa
