/- Clock: the document's Same. -/
import Derived.Test.YtppbnanhippdaaaCk4
import Derived.Test.YtppbnanhippdaaaApp
namespace Go.Proofs.Ytppbnanhippdaaa
set_option linter.unusedVariables false
set_option linter.unusedSimpArgs false
open Go.RowKit

def SameRel (w : World) (l l2 : List Int) (i : Value) (wr : World) : Prop := ∃ j : Nat, j ≤ l.length ∧ i = .int .i64 (j : Int) ∧ (∀ t, t < j → l.getD t 0 = l2.getD t 0) ∧ Below w.heap.size w wr

set_option maxHeartbeats 1000000 in
theorem same_any (ao : Option Addr) (n c : Nat) (l : List Int) (bo : Option Addr) (n2 c2 : Nat) (l2 : List Int) (w : World) (hr : Row w ao n c 1 (c32 l)) (hr2 : Row w bo n2 c2 1 (c32 l2)) (hn : n ≤ 1000000) :
    Calls Try.prog 9 #[.slice ao n c, .slice bo n2 c2] w fun e w' => e = .returned (.bool (decide (l = l2))) ∧ Below w.heap.size w w' := by
  have hnc := hr.le
  have hnc2 := hr2.le
  have hl := hr.len32
  have hl2 := hr2.len32
  have HR := Lib.hid hr
  have HR2 := Lib.hid hr2
  have HL := Lib.hid hl
  have HL2 := Lib.hid hl2
  obtain ⟨r, hrr⟩ : ∃ r, decide (l = l2) = r := ⟨_, rfl⟩
  rw [hrr]
  have HRR := Lib.hid hrr
  clear hrr
  by_cases hne : n = n2
  · subst hne
    clear hl hl2 hr hr2
    go_enter Try.func9, Try.ntmps9
    go_wp2
    go_loopw [5] (fun i wr => SameRel w l l2 i wr) (fun i _ => n - (intOf i).toNat)
    case atStart => exact ⟨0, by omega, rfl, fun t ht => by omega, Below.refl _ _⟩
    case round =>
      obtain ⟨j, hj, rfl, hq, hb1⟩ := hrel
      have HQ := Lib.hid hq
      clear hq
      rw [← HL.out] at hj
      by_cases hlt : j < n
      · obtain ⟨b, off, rfl⟩ : ∃ b off, ao = some ⟨b, off, none⟩ := row_addr HR.out (by intro e; have := HR.out.len; rw [e] at this; simp at this; omega)
        obtain ⟨b2, off2, rfl⟩ : ∃ b off, bo = some ⟨b, off, none⟩ := row_addr HR2.out (by intro e; have := HR2.out.len; rw [e] at this; simp at this; omega)
        have hc := (HR.out.later hb1).cell32 j hlt
        have hc2 := (HR2.out.later hb1).cell32 j hlt
        obtain ⟨x, hx⟩ : ∃ x, l.getD j 0 = x := ⟨_, rfl⟩
        obtain ⟨y, hy⟩ : ∃ y, l2.getD j 0 = y := ⟨_, rfl⟩
        rw [hx] at hc
        rw [hy] at hc2
        have HX := Lib.hid hx
        have HY := Lib.hid hy
        clear hx hy
        have hjn : (j : Int) < (n : Int) := by omega
        by_cases hxy : x = y
        · subst hxy
          go_wp2
          go_quiet (fail)
          go_wp2
          go_roundw
          case rel =>
            refine ⟨j + 1, by rw [← HL.out]; omega, by go_num, fun t ht => ?_, bl_drewN hb1 _⟩
            rcases Nat.lt_or_ge t j with h | h
            · exact HQ.out t h
            · have : t = j := by omega
              subst this
              rw [HX.out, HY.out]
          case measure => simp [intOf]; omega
        · have hf : r = false := by
            rw [← HRR.out]
            simp only [decide_eq_false_iff_not]
            intro e
            exact hxy (by rw [← HX.out, ← HY.out, e])
          have HF := Lib.hid hf
          clear hf
          go_wp2
          go_quiet (fail)
          go_wp2
          go_ret
          rw [HF.out]
          exact ⟨rfl, bl_drewN hb1 _⟩
      · have hjn : j = n := by omega
        have ht : r = true := by
          rw [← HRR.out]
          simp only [decide_eq_true_eq]
          apply List.ext_getElem (by have := HL.out; have := HL2.out; omega)
          intro t h1 h2
          have := HQ.out t (by have := HL.out; omega)
          rwa [getD_lt _ _ h1, getD_lt _ _ h2] at this
        have HF := Lib.hid ht
        subst hjn
        clear ht
        go_wp2
        go_ret
        rw [HF.out]
        exact ⟨rfl, hb1⟩
  · have hne' : ¬ ((n : Int) = (n2 : Int)) := by omega
    have hf : r = false := by rw [← HRR.out]; simp; rintro rfl; omega
    subst hf
    clear hl hl2 hr hr2
    go_enter Try.func9, Try.ntmps9
    go_wp2
    go_ret
    exact ⟨rfl, Below.refl _ _⟩
end Go.Proofs.Ytppbnanhippdaaa
