/- Disk: the document's Same, of what is the same; Few. -/
import Derived.Test.YtoihponjnhhgbaaDk8
namespace Go.Proofs.Ytoihponjnhhgbaa
set_option linter.unusedVariables false
set_option linter.unusedSimpArgs false
open Go.RowKit

set_option maxHeartbeats 400000 in
theorem few_any (ao : Option Addr) (n c : Nat) (po : Option Addr) (m pc : Nat) (w : World) :
    Calls Try.prog 10 #[.agg #[.slice ao n c, .slice po m pc]] w fun e w' => e = .returned (.bool (decide (n ≤ 9600) && decide (m ≤ 300))) ∧ Below w.heap.size w w' := by
  by_cases h1 : (n : Int) ≤ 9600
  · by_cases h2 : (m : Int) ≤ 300
    · have hd := Lib.hid (show (decide (n ≤ 9600) && decide (m ≤ 300)) = true by simp; omega)
      rw [hd.out]
      go_enter Try.func10, Try.ntmps10
      go_wp2
      go_ret
      exact ⟨rfl, below_alloc _ _⟩
    · have hd := Lib.hid (show (decide (n ≤ 9600) && decide (m ≤ 300)) = false by simp; omega)
      rw [hd.out]
      go_enter Try.func10, Try.ntmps10
      go_wp2
      go_ret
      exact ⟨rfl, below_alloc _ _⟩
  · have hd := Lib.hid (show (decide (n ≤ 9600) && decide (m ≤ 300)) = false by simp; omega)
    rw [hd.out]
    go_enter Try.func10, Try.ntmps10
    go_wp2
    go_ret
    exact ⟨rfl, below_alloc _ _⟩

theorem conv_row {w : World} {ao : Option Addr} {n c : Nat} {l : List Int} (h : Row w ao n c 1 (b8 l)) : (convert 22 9 (.slice ao n c)).run Try.prog w = .ok (.string (strOfNums l)) w :=
  row_string w Try.underlying22 Try.underlying5 Try.underlying9 h

def SmRel (w2 : World) (m : Nat) (i : Value) (wr : World) : Prop := ∃ j : Nat, j ≤ m ∧ i = .int .i64 (j : Int) ∧ Below w2.heap.size w2 wr

set_option maxHeartbeats 1000000 in
theorem same_any (ao : Option Addr) (n c : Nat) (base : List Int) (po : Option Addr) (m pc : Nat) (R : List Rep) (bo : Option Addr) (n2 c2 : Nat) (base2 : List Int) (qo : Option Addr) (m2 qc : Nat) (R2 : List Rep) (w : World)
    (h : DP w ao n c base po m pc R) (h2 : DP w bo n2 c2 base2 qo m2 qc R2) (hb : base = base2) (hR : R.map Rep.plain = R2.map Rep.plain) (hm : m ≤ 1000000) :
    Calls Try.prog 18 #[.agg #[.slice ao n c, .slice po m pc], .agg #[.slice bo n2 c2, .slice qo m2 qc]] w fun e w' => e = .returned (.bool true) ∧ Below w.heap.size w w' := by
  subst hb
  have hl := h.pend.lenw
  have hl2 := h2.pend.lenw
  have hnb := h.row.len8
  have hnb2 := h2.row.len8
  have hRl : R.length = R2.length := by have := congrArg List.length hR; simpa using this
  obtain rfl : m = m2 := by omega
  obtain rfl : n = n2 := by omega
  have H := Lib.hid h
  have H2 := Lib.hid h2
  have HR := Lib.hid hR
  have HL := Lib.hid (And.intro hl hRl)
  clear h h2 hR hl hl2 hRl hnb hnb2
  have hc1 := conv_row (H.out.later (by (repeat (first | exact Below.refl _ _ | refine Below.drew ?_ | refine bl_drewN ?_ _ | (refine Below.alloc ?_ (by first | exact Nat.le_refl _ | (simp; done) | (simp; omega)) _))) : Below w.heap.size w ((w.alloc (.cells #[.slice ao n c, .slice po m pc] 25)).alloc (.cells #[.slice bo n c2, .slice qo m qc] 25)))).row
  have hc2 := conv_row (H2.out.later (by (repeat (first | exact Below.refl _ _ | refine Below.drew ?_ | refine bl_drewN ?_ _ | (refine Below.alloc ?_ (by first | exact Nat.le_refl _ | (simp; done) | (simp; omega)) _))) : Below w.heap.size w ((w.alloc (.cells #[.slice ao n c, .slice po m pc] 25)).alloc (.cells #[.slice bo n c2, .slice qo m qc] 25)))).row
  go_enter Try.func18, Try.ntmps18
  go_wp2
  have hB0 : Below w.heap.size w ((w.alloc (.cells #[.slice ao n c, .slice po m pc] 25)).alloc (.cells #[.slice bo n c2, .slice qo m qc] 25)) := by (repeat (first | exact Below.refl _ _ | refine Below.drew ?_ | refine bl_drewN ?_ _ | (refine Below.alloc ?_ (by first | exact Nat.le_refl _ | (simp; done) | (simp; omega)) _)))
  go_loopw [5] (fun i wr => SmRel ((w.alloc (.cells #[.slice ao n c, .slice po m pc] 25)).alloc (.cells #[.slice bo n c2, .slice qo m qc] 25)) m i wr) (fun i _ => m - (intOf i).toNat)
  case atStart => exact ⟨0, by omega, rfl, Below.refl _ _⟩
  case round =>
    clear hc1 hc2
    obtain ⟨j, hj, rfl, hbr⟩ := hrel
    obtain ⟨hx1, hx2, _⟩ := box2 (bl_then (below_alloc (w.alloc (.cells #[.slice ao n c, .slice po m pc] 25)) (.cells #[.slice bo n c2, .slice qo m qc] 25)) hbr)
    obtain ⟨hy1, hy2, _⟩ := box2 hbr
    simp only [World.size_alloc] at hy1 hy2
    by_cases hlt : j < m
    · have hd1 := H.out.later (bl_then hB0 hbr)
      have hd2 := H2.out.later (bl_then hB0 hbr)
      obtain ⟨hlm, hll⟩ := HL.out
      obtain ⟨b, off, rfl⟩ := row_addr hd1.pend (by intro e; have := wc_len R; rw [e] at this; simp at this; omega)
      obtain ⟨b2, off2, rfl⟩ := row_addr hd2.pend (by intro e; have := wc_len R2; rw [e] at this; simp at this; omega)
      obtain ⟨r, hr⟩ : ∃ r, R[j]? = some r := ⟨_, List.getElem?_eq_getElem (by omega)⟩
      obtain ⟨r2, hr2⟩ : ∃ r, R2[j]? = some r := ⟨_, List.getElem?_eq_getElem (by omega)⟩
      have hrr : r2.plain = r.plain := by
        have h1 : (R.map Rep.plain)[j]? = some r.plain := by rw [List.getElem?_map, hr]; rfl
        have h2 : (R2.map Rep.plain)[j]? = some r2.plain := by rw [List.getElem?_map, hr2]; rfl
        rw [← HR.out, h1] at h2
        exact (Option.some.inj h2).symm
      have hat : r2.at_ = r.at_ := congrArg Prod.fst hrr
      have hdt : r2.data = r.data := congrArg Prod.snd hrr
      obtain ⟨hw1, hw2⟩ := hd1.pend.wcell j r hr
      obtain ⟨hv1, hv2⟩ := hd2.pend.wcell j r2 hr2
      have hk1 := conv_row (hd1.data r (List.mem_of_getElem? hr)).drew
      have hk2 := conv_row (hd2.data r2 (List.mem_of_getElem? hr2)).drew
      rw [hat] at hv1
      rw [hdt] at hk2
      clear hrr hat hdt hr hr2 hd1 hd2 hlm hll
      have hjm : (j : Int) < (m : Int) := by omega
      have hmp1 : (m : Int) ≤ (pc : Int) := by have := H.out.pend.le; omega
      have hmp2 : (m : Int) ≤ (qc : Int) := by have := H2.out.pend.le; omega
      go_wp2
      refine wp_plan (fun x => x.cell? ⟨w.heap.size, 1, none⟩ = some (.slice (some ⟨b, off, none⟩) m pc) ∧ x.cell? ⟨w.heap.size + 1, 1, none⟩ = some (.slice (some ⟨b2, off2, none⟩) m qc) ∧ x.cell? ⟨b, off + j * 2, none⟩ = some (.int .i64 r.at_) ∧ x.cell? ⟨b, off + j * 2 + 1, none⟩ = some (.slice r.ao r.n r.c) ∧ x.cell? ⟨b2, off2 + j * 2, none⟩ = some (.int .i64 r.at_) ∧ x.cell? ⟨b2, off2 + j * 2 + 1, none⟩ = some (.slice r2.ao r2.n r2.c) ∧
        (convert 22 9 (.slice r.ao r.n r.c)).run Try.prog x = .ok (.string (strOfNums r.data)) x ∧ (convert 22 9 (.slice r2.ao r2.n r2.c)).run Try.prog x = .ok (.string (strOfNums r.data)) x) [] [0, 1, 2, 3, 4, 5, 6, 7, 8, 9, 10, 11, 12, 13, 14, 15, 16, 17, 18, 19, 20, 21, 22, 23, 24, 25, 26, 27, 28, 29] (by kernel_rfl) (by kernel_rfl) ⟨hx2, hy2, hw1, hw2, hv1, hv2, hk1, hk2⟩ (fun hHeld => ?_)
      iterate 30 (refine wpT_take rfl (by rfl) (by rfl) (by intro w' hSw; (try dsimp only at hSw); go_simp; (try with_reducible rfl)) (by assumption) ?_; (try simp only [Act.put, List.setIfInBounds_toArray, List.set_cons_zero, List.set_cons_succ]))
      (refine wpT_nil ?_)
      go_wp2
      go_roundw
      case rel => exact ⟨j + 1, by omega, by go_num, hbr.drew⟩
      case measure => simp [intOf]; omega
    · have hjm : j = m := by omega
      subst hjm
      go_wp2
      go_ret
      exact ⟨rfl, bl_then hB0 hbr⟩
end Go.Proofs.Ytoihponjnhhgbaa
