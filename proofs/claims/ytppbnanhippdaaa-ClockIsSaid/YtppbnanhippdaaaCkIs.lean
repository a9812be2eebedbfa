/- ClockIs: the walk. -/
import Derived.Test.YtppbnanhippdaaaCkC
namespace Go.Proofs.Ytppbnanhippdaaa
set_option linter.unusedVariables false
set_option linter.unusedSimpArgs false
open Go.RowKit

theorem rd_heads {w : World} {v : Value} (k : Rd Try.prog w 24 v) :
    ∃ ao n c X τ, v = .slice ao n c ∧ SRow w ao n c 68 X ∧ Heads X n τ ∧ n ≤ maxLen := by
  obtain ⟨ao, n, c, X, rfl, hX, hs, hn⟩ := k.slice (sz := 68) Try.underlying24 (by kernel_rfl) (by decide)
  have key : ∀ i, i < n → ∃ t : Int, (X i)[65]? = some (.int .u32 t) ∧ ∀ u ∈ X i, u.oneCell' = true := by
    intro i hi
    have hl := hs.len i hi
    obtain ⟨_, hf⟩ := (hX i hi).struct Try.underlying41
    have c22 : Try.prog.cellsOf 22 = 1 := by kernel_rfl
    have cH : Try.prog.cellsOf 39 = 32 := by kernel_rfl
    have cB : Try.prog.cellsOf 5 = 1 := by kernel_rfl
    have f0 : RdC Try.prog w 22 (((X i).drop 0).take (Try.prog.cellsOf 22)) := hf 0 _ rfl
    have f1 : RdC Try.prog w 39 (((X i).drop 1).take (Try.prog.cellsOf 39)) := hf 1 _ rfl
    have f2 : RdC Try.prog w 39 (((X i).drop 33).take (Try.prog.cellsOf 39)) := hf 2 _ rfl
    have f3 : RdC Try.prog w 22 (((X i).drop 65).take (Try.prog.cellsOf 22)) := hf 3 _ rfl
    have f4 : RdC Try.prog w 22 (((X i).drop 66).take (Try.prog.cellsOf 22)) := hf 4 _ rfl
    have f5 : RdC Try.prog w 22 (((X i).drop 67).take (Try.prog.cellsOf 22)) := hf 5 _ rfl
    rw [c22] at f0 f3 f4 f5
    rw [cH] at f1 f2
    have one (j : Nat) (h : RdC Try.prog w 22 (((X i).drop j).take 1)) : ∃ z, (X i)[j]? = some (.int .u32 z) := by
      obtain ⟨z, hz, _⟩ := h.int Try.underlying22
      refine ⟨z, ?_⟩
      have := congrArg (·[0]?) hz
      simpa [List.getElem?_take, List.getElem?_drop] using this
    have arr (j : Nat) (h : RdC Try.prog w 39 (((X i).drop j).take 32)) (t : Nat) (ht : t < 32) : ∃ z, (X i)[j + t]? = some (.int .u8 z) := by
      have h2 := (h.array Try.underlying39).2 t ht
      rw [cB] at h2
      obtain ⟨z, hz, _⟩ := h2.int Try.underlying5
      refine ⟨z, ?_⟩
      have := congrArg (·[0]?) hz
      simp only [Nat.mul_one] at this
      rw [List.getElem?_take_of_lt (by omega), List.getElem?_drop, List.getElem?_take_of_lt (by omega), List.getElem?_drop] at this
      simpa using this
    obtain ⟨z3, h3⟩ := one 65 f3
    refine ⟨z3, h3, fun u hu => ?_⟩
    obtain ⟨t, ht, rfl⟩ := List.getElem_of_mem hu
    have hg : (X i)[t]? = some ((X i)[t]) := List.getElem?_eq_getElem ht
    have fin (k : IntKind) (z : Int) (h : (X i)[t]? = some (.int k z)) : ((X i)[t]).oneCell' = true := by
      rw [hg] at h
      rw [Option.some.inj h]
      rfl
    rcases Nat.lt_or_ge t 1 with h1 | h1
    · obtain ⟨z, hz⟩ := one 0 f0
      exact fin _ z (by rw [show t = 0 by omega]; exact hz)
    rcases Nat.lt_or_ge t 33 with h2 | h2
    · obtain ⟨z, hz⟩ := arr 1 f1 (t - 1) (by omega)
      exact fin _ z (by rw [show t = 1 + (t - 1) by omega]; exact hz)
    rcases Nat.lt_or_ge t 65 with h4 | h4
    · obtain ⟨z, hz⟩ := arr 33 f2 (t - 33) (by omega)
      exact fin _ z (by rw [show t = 33 + (t - 33) by omega]; exact hz)
    rcases Nat.lt_or_ge t 66 with h5 | h5
    · exact fin _ z3 (by rw [show t = 65 by omega]; exact h3)
    rcases Nat.lt_or_ge t 67 with h6 | h6
    · obtain ⟨z, hz⟩ := one 66 f4
      exact fin _ z (by rw [show t = 66 by omega]; exact hz)
    · obtain ⟨z, hz⟩ := one 67 f5
      exact fin _ z (by rw [show t = 67 by omega]; exact hz)
  have hch : ∃ τ : Nat → Int, Heads X n τ := by
    have : ∀ i, ∃ t : Int, i < n → (X i)[65]? = some (.int .u32 t) ∧ ∀ u ∈ X i, u.oneCell' = true := fun i => by
      by_cases hi : i < n
      · obtain ⟨t, ht⟩ := key i hi; exact ⟨t, fun _ => ht⟩
      · exact ⟨0, fun h => absurd h hi⟩
    exact ⟨fun i => (this i).choose, fun i hi => (this i).choose_spec hi⟩
  obtain ⟨τ, hτ⟩ := hch
  exact ⟨ao, n, c, X, τ, rfl, hs, hτ, hn⟩

set_option maxHeartbeats 1000000 in
theorem is_walk (t : Int) (ao : Option Addr) (n c : Nat) (l : List Int) (now future : Int) (ho : Option Addr) (hn hc : Nat) (X : Nat → List Value) (τ : Nat → Int) (w : World) (hr : Row w ao n c 1 (c32 l)) (hm : n ≤ maxLen) (ht : 0 ≤ t ∧ t < 4294967296) (hh : SRow w ho hn hc 68 X) (hX : Heads X hn τ) (hm2 : hn ≤ maxLen) :
    Calls Try.prog 3 #[.int .u32 t, .slice ao n c, .int .i64 now, .int .i64 future, .slice ho hn hc] w fun e w' => e = .returned (.bool true) ∧ Below w.heap.size w w' := by
  unfold maxLen at hm hm2
  have HR := Lib.hid hr
  have HH := Lib.hid hh
  have HX := Lib.hid hX
  have hnc := hr.le
  have hnc2 := hh.le
  clear hr hh hX
  by_cases h200 : (200 : Int) < (n : Int)
  · go_enter Try.func3, Try.ntmps3
    go_wp2_with (go_at_call 8; refine (awake_any _).mono ?_; rintro e w1 ⟨rfl, hb1⟩)
    go_ret
    exact ⟨rfl, hb1⟩
  by_cases h100 : (100 : Int) < (hn : Int)
  · go_enter Try.func3, Try.ntmps3
    go_wp2_with (go_at_call 8; refine (awake_any _).mono ?_; rintro e w1 ⟨rfl, hb1⟩)
    go_ret
    exact ⟨rfl, hb1⟩
  obtain ⟨M, hM⟩ : ∃ M, min n 11 = M := ⟨_, rfl⟩
  have hM11 : M ≤ 11 := by omega
  obtain ⟨r, hrc⟩ : ∃ r, checkN t l now future = r := ⟨_, rfl⟩
  obtain ⟨m, hmd⟩ : ∃ m, med l = m := ⟨_, rfl⟩
  have HL := Lib.hid (fun w' (h : Below w.heap.size w w') => by have := last_any ao n c l w' (HR.out.later h) (by omega); rwa [hM] at this)
  have HRL := Lib.hid (fun w' (h : Below w.heap.size w w') => by have := rlast_any ao n c l w' (HR.out.later h) (by omega); rwa [hM] at this)
  have HM := Lib.hid (fun w' (h : Below w.heap.size w w') => by have := median_any ao n c l w' (HR.out.later h) (by omega); rwa [hmd] at this)
  have HRM := Lib.hid (fun w' (h : Below w.heap.size w w') => by have := rmedian_any ao n c l w' (HR.out.later h) (by omega); rwa [hmd] at this)
  have HC := Lib.hid (fun w' (h : Below w.heap.size w w') => by have := check_any t ao n c l now future w' (HR.out.later h) (by omega) ht; rwa [hrc] at this)
  have HRC := Lib.hid (fun w' (h : Below w.heap.size w w') => by have := rcheck_any t ao n c l now future w' (HR.out.later h) (by omega) ht; rwa [hrc] at this)
  have HT := Lib.hid (fun w' (h : Below w.heap.size w w') => times_any ho hn hc X τ w' (HH.out.later (by decide) h) HX.out (by omega))
  have HRT := Lib.hid (fun w' (h : Below w.heap.size w w') => rtimes_any ho hn hc X τ w' (HH.out.later (by decide) h) HX.out (by omega))
  have HSM := Lib.hid (fun (L : List Int) ao n c bo c2 w' h h2 hn => by have := same_any ao n c L bo n c2 L w' h h2 hn; simpa using this)
  clear hM hrc hmd
  go_enter Try.func3, Try.ntmps3
  go_wp2_with (first | (go_at_call 8; refine (awake_any _).mono ?_; rintro e w1 ⟨rfl, hb1⟩) | (go_at_call 10; (with_reducible refine (HL.out _ hb1).mono ?_); rintro e w2 ⟨ao2, m2, c2, hm2, rfl, hr2, hb⟩; subst hm2; replace hb1 := bl_then hb1 hb; replace hr2 := Lib.hid hr2; clear hb) | (go_at_call 11; (with_reducible refine (HRL.out _ hb1).mono ?_); rintro e w3 ⟨ao3, m3, c3, hm3, rfl, hr3, hb⟩; subst hm3; replace hb1 := bl_then hb1 hb; replace hr2 := Lib.hid (hr2.out.later hb); replace hr3 := Lib.hid hr3; clear hb) | (go_at_call 9; (first | (with_reducible refine (HSM.out _ _ _ _ _ _ _ hr2.out hr3.out (by omega)).mono ?_) | (with_reducible refine (HSM.out _ _ _ _ _ _ _ hr4.out hr5.out (by omega)).mono ?_)); rintro e w4 ⟨rfl, hb⟩; replace hb1 := bl_then hb1 hb; clear hb) | (go_at_call 12; (with_reducible refine (HM.out _ hb1).mono ?_); rintro e w5 ⟨rfl, hb⟩; replace hb1 := bl_then hb1 hb; clear hb) | (go_at_call 13; (with_reducible refine (HRM.out _ hb1).mono ?_); rintro e w6 ⟨rfl, hb⟩; replace hb1 := bl_then hb1 hb; clear hb) | (go_at_call 14; (with_reducible refine (HC.out _ hb1).mono ?_); rintro e w7 ⟨rfl, hb⟩; replace hb1 := bl_then hb1 hb; clear hb) | (go_at_call 15; (with_reducible refine (HRC.out _ hb1).mono ?_); rintro e w8 ⟨rfl, hb⟩; replace hb1 := bl_then hb1 hb; clear hb) | (go_at_call 16; (with_reducible refine (HT.out _ hb1).mono ?_); rintro e w9 ⟨ao4, c4, rfl, hr4, hb⟩; replace hb1 := bl_then hb1 hb; replace hr4 := Lib.hid hr4; clear hb) | (go_at_call 17; (with_reducible refine (HRT.out _ hb1).mono ?_); rintro e w10 ⟨ao5, c5, rfl, hr5, hb⟩; replace hb1 := bl_then hb1 hb; replace hr4 := Lib.hid (hr4.out.later hb); replace hr5 := Lib.hid hr5; clear hb))
  go_ret
  exact ⟨rfl, hb1⟩
end Go.Proofs.Ytppbnanhippdaaa
