/- florinlaw02: a state as an argument. (hM) -/
import Derived.Test.YtpdgeiflmnhkfaaDoorRf9
import Derived.Test.YtpdgeiflmnhkfaaDoorOpen
namespace Go.Proofs.YtpdgeiflmnhkfaaDoor
set_option linter.unusedVariables false
set_option linter.unusedSimpArgs false
open Go.RowKit

/-- a state as an argument -/
theorem rd_state {w : World} {v : Value} (k : Rd Tryd.prog w 27 v) :
    ∃ (s : S8) (ao : Option Addr) (n c : Nat) (N : Int) (f : Nat → Int), v = stV s (.slice ao n c) N ∧ Row w ao n c 1 (bcells f n) ∧ (∀ i, 0 ≤ f i ∧ f i < 256) ∧ 0 ≤ N ∧ N < 18446744073709551616 := by
  obtain ⟨cs, rfl, hsz, hc⟩ := k.agg (.inl ⟨_, Tryd.underlying27⟩)
  obtain ⟨hl, hf⟩ := hc.struct Tryd.underlying27
  have c4 : Tryd.prog.cellsOf 23 = 1 := by kernel_rfl
  have cA : Tryd.prog.cellsOf 24 = 8 := by kernel_rfl
  have cS : Tryd.prog.cellsOf 22 = 1 := by kernel_rfl
  have cN : Tryd.prog.cellsOf 25 = 1 := by kernel_rfl
  have cX : Tryd.prog.cellsOf 27 = 10 := by kernel_rfl
  rw [cX] at hl
  have f0 : RdC Tryd.prog w 24 ((cs.toList.drop 0).take (Tryd.prog.cellsOf 24)) := hf 0 _ rfl
  have f1 : RdC Tryd.prog w 22 ((cs.toList.drop 8).take (Tryd.prog.cellsOf 22)) := hf 1 _ rfl
  have f2 : RdC Tryd.prog w 25 ((cs.toList.drop 9).take (Tryd.prog.cellsOf 25)) := hf 2 _ rfl
  rw [cA] at f0
  rw [cS] at f1
  rw [cN] at f2
  obtain ⟨_, hA⟩ := f0.array Tryd.underlying24
  rw [c4] at hA
  obtain ⟨x0, h0, _⟩ := (hA 0 (by decide)).int Tryd.underlying23
  obtain ⟨x1, h1, _⟩ := (hA 1 (by decide)).int Tryd.underlying23
  obtain ⟨x2, h2, _⟩ := (hA 2 (by decide)).int Tryd.underlying23
  obtain ⟨x3, h3, _⟩ := (hA 3 (by decide)).int Tryd.underlying23
  obtain ⟨x4, h4, _⟩ := (hA 4 (by decide)).int Tryd.underlying23
  obtain ⟨x5, h5, _⟩ := (hA 5 (by decide)).int Tryd.underlying23
  obtain ⟨x6, h6, _⟩ := (hA 6 (by decide)).int Tryd.underlying23
  obtain ⟨x7, h7, _⟩ := (hA 7 (by decide)).int Tryd.underlying23
  obtain ⟨ao, n, c, g, h8, hb, hr, _⟩ := f1.ints Tryd.underlying22 Tryd.underlying5 (by kernel_rfl)
  obtain ⟨N, h9, wN⟩ := f2.int Tryd.underlying25
  refine ⟨⟨x0, x1, x2, x3, x4, x5, x6, x7⟩, ao, n, c, N, g, ?_, hr, fun i => u8_of_wf (hb i), u64_of_wf wN⟩
  clear hA f0 f1 f2 hf hc k hr hb hsz
  obtain ⟨L⟩ := cs
  match L, hl with
  | [y0, y1, y2, y3, y4, y5, y6, y7, y8, y9], _ =>
    simp at h0 h1 h2 h3 h4 h5 h6 h7 h8 h9
    rw [h0, h1, h2, h3, h4, h5, h6, h7, h8, h9]
    try rfl
end Go.Proofs.YtpdgeiflmnhkfaaDoor
