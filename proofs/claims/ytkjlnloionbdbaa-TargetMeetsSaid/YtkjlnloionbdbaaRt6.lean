/- Stage 13: rules and headers as arguments; what Scale's bits tell (made by gen_rt6.py). -/
import Derived.Test.YtkjlnloionbdbaaRt4
import Derived.Test.YtkjlnloionbdbaaTgB0
import Derived.Test.YtkjlnloionbdbaaOpen2
namespace Go.Proofs.Ytkjlnloionbdbaa
set_option linter.unusedVariables false
set_option linter.unusedSimpArgs false
open Go.RowKit

theorem take1 {cs : Array Value} {i : Nat} {u : Value} (h : (cs.toList.drop i).take 1 = [u]) : cs[i]? = some u := by
  have hl : i < cs.toList.length := by
    rcases Nat.lt_or_ge i cs.toList.length with h1 | h1
    · exact h1
    · rw [List.drop_of_length_le h1] at h; cases h
  rw [List.drop_eq_getElem_cons hl, List.take_succ_cons, List.take_zero] at h
  have := (List.cons.inj h).1
  rw [← this]
  simp at hl ⊢
set_option maxRecDepth 100000 in
/-- rules as an argument -/
theorem rd_params {w : World} {v : Value} (k : Rd Try.prog w 65 v) :
    ∃ (lim iv sp fu ix orp : Int) (ao : Option Addr) (n cp : Nat), v = PV lim iv sp fu ix orp ao n cp ∧ (0 ≤ lim ∧ lim < 4294967296) := by
  obtain ⟨cs, rfl, hsz, hc⟩ := k.agg (.inl ⟨_, Try.underlying65⟩)
  obtain ⟨_, hf⟩ := hc.struct Try.underlying65
  have cI : Try.prog.cellsOf 3 = 1 := by kernel_rfl
  have cU : Try.prog.cellsOf 49 = 1 := by kernel_rfl
  have cC : Try.prog.cellsOf 63 = 1 := by kernel_rfl
  have cP : Try.prog.cellsOf 65 = 7 := by kernel_rfl
  have f0 : RdC Try.prog w 49 ((cs.toList.drop 0).take (Try.prog.cellsOf 49)) := hf 0 _ rfl
  have f1 : RdC Try.prog w 3 ((cs.toList.drop 1).take (Try.prog.cellsOf 3)) := hf 1 _ rfl
  have f2 : RdC Try.prog w 3 ((cs.toList.drop 2).take (Try.prog.cellsOf 3)) := hf 2 _ rfl
  have f3 : RdC Try.prog w 3 ((cs.toList.drop 3).take (Try.prog.cellsOf 3)) := hf 3 _ rfl
  have f4 : RdC Try.prog w 3 ((cs.toList.drop 4).take (Try.prog.cellsOf 3)) := hf 4 _ rfl
  have f5 : RdC Try.prog w 3 ((cs.toList.drop 5).take (Try.prog.cellsOf 3)) := hf 5 _ rfl
  have f6 : RdC Try.prog w 63 ((cs.toList.drop 6).take (Try.prog.cellsOf 63)) := hf 6 _ rfl
  rw [cI] at f1 f2 f3 f4 f5
  rw [cU] at f0
  rw [cC] at f6
  obtain ⟨lim, e0, hw0⟩ := f0.int Try.underlying49
  obtain ⟨iv, e1, _⟩ := f1.int Try.underlying3
  obtain ⟨sp, e2, _⟩ := f2.int Try.underlying3
  obtain ⟨fu, e3, _⟩ := f3.int Try.underlying3
  obtain ⟨ix, e4, _⟩ := f4.int Try.underlying3
  obtain ⟨orp, e5, _⟩ := f5.int Try.underlying3
  obtain ⟨ao, n, cp, X, e6, _⟩ := f6.slice (sz := 33) Try.underlying63 (by kernel_rfl) (by decide)
  refine ⟨lim, iv, sp, fu, ix, orp, ao, n, cp, ?_, u32_wf5 hw0⟩
  rw [cP] at hsz
  have a0 := take1 e0
  have a1 := take1 e1
  have a2 := take1 e2
  have a3 := take1 e3
  have a4 := take1 e4
  have a5 := take1 e5
  have a6 := take1 e6
  refine congrArg Value.agg ?_
  apply Array.ext_getElem?
  intro i
  rcases Nat.lt_or_ge i 7 with hi | hi
  · have : i = 0 ∨ i = 1 ∨ i = 2 ∨ i = 3 ∨ i = 4 ∨ i = 5 ∨ i = 6 := by omega
    rcases this with rfl | rfl | rfl | rfl | rfl | rfl | rfl
    · rw [a0]; rfl
    · rw [a1]; rfl
    · rw [a2]; rfl
    · rw [a3]; rfl
    · rw [a4]; rfl
    · rw [a5]; rfl
    · rw [a6]; rfl
  · rw [Array.getElem?_eq_none (by omega), Array.getElem?_eq_none (by simpa using hi)]
set_option maxRecDepth 100000 in
/-- a header's time and bits -/
theorem rdc_header {w : World} {cs : List Value} (hc : RdC Try.prog w 67 cs) :
    cs.length = 68 ∧ ∃ (tm bt : Int), (cs.drop 65).take 1 = [.int .u32 tm] ∧ (cs.drop 66).take 1 = [.int .u32 bt] ∧ (0 ≤ tm ∧ tm < 4294967296) ∧ (0 ≤ bt ∧ bt < 4294967296) := by
  obtain ⟨hl, hf⟩ := hc.struct Try.underlying67
  have cU : Try.prog.cellsOf 49 = 1 := by kernel_rfl
  have cH : Try.prog.cellsOf 67 = 68 := by kernel_rfl
  have f3 : RdC Try.prog w 49 ((cs.drop 65).take (Try.prog.cellsOf 49)) := hf 3 _ rfl
  have f4 : RdC Try.prog w 49 ((cs.drop 66).take (Try.prog.cellsOf 49)) := hf 4 _ rfl
  rw [cU] at f3 f4
  obtain ⟨tm, e3, h3⟩ := f3.int Try.underlying49
  obtain ⟨bt, e4, h4⟩ := f4.int Try.underlying49
  exact ⟨by rw [← cH]; exact hl, tm, bt, e3, e4, u32_wf5 h3, u32_wf5 h4⟩
theorem rd_header {w : World} {v : Value} (k : Rd Try.prog w 67 v) :
    ∃ (hd : Array Value) (tm bt : Int), v = .agg hd ∧ hd.size = 68 ∧ hd[65]? = some (.int .u32 tm) ∧ hd[66]? = some (.int .u32 bt) ∧ (0 ≤ tm ∧ tm < 4294967296) ∧ (0 ≤ bt ∧ bt < 4294967296) := by
  obtain ⟨cs, rfl, hsz, hc⟩ := k.agg (.inl ⟨_, Try.underlying67⟩)
  obtain ⟨hl, tm, bt, e3, e4, h3, h4⟩ := rdc_header hc
  exact ⟨cs, tm, bt, rfl, by simpa using hl, take1 e3, take1 e4, h3, h4⟩

theorem nat_holds (A : Int) (h0 : 1 ≤ A) (h1 : A < WW) : natLen A ≤ 256 ∧ 2 ^ (natLen A - 1) ≤ A ∧ A < 2 ^ natLen A := by
  obtain ⟨a0, a1, a2, a3, ha, hn⟩ := b4_of A ⟨by omega, h1⟩
  obtain ⟨L, hL, hL1, hL2, hL3⟩ := len_holds ha
  have h2 := natLen_is ha
  rw [hn] at h2 hL2 hL3
  have h3 : natLen A = L := by omega
  rw [h3]
  refine ⟨hL1, hL3 ?_, hL2⟩
  rcases Nat.eq_zero_or_pos L with h | h
  · subst h; simp at hL2; omega
  · exact h
theorem shrI_ok (A : Int) (h0 : 1 ≤ A) (h1 : A < WW) : (0 ≤ shrI A ∧ shrI A < 4294967296) ∧ expOk (shrI A) = true ∧ expV (shrI A) ≤ A ∧ A - expV (shrI A) ≤ A / 2 ^ 14 := by
  obtain ⟨a, b, c⟩ := nat_holds A h0 h1
  obtain ⟨x, y, z, u, _⟩ := back_num A (natLen A) h0 a b c h1
  exact ⟨x, y, z, u⟩
/-- what is scaled stays within the limit -/
theorem scale_ok (b num den lim : Int) (hb : 0 ≤ b ∧ b < 4294967296) (hl : 0 ≤ lim ∧ lim < 4294967296) (hok : expOk lim = true) (hn : 0 ≤ num) (hd : 0 ≤ den) :
    (0 ≤ scaleV b num den lim ∧ scaleV b num den lim < 4294967296) ∧ expOk (scaleV b num den lim) = true ∧ expV (scaleV b num den lim) ≤ expV lim := by
  have hsm := exp_small lim hl hok
  obtain ⟨x, y, z, _⟩ := shrI_ok (expV lim) hsm.1 (by omega)
  unfold scaleV
  split
  · rename_i hc
    have hsb := exp_small b hb hc.1
    have hR : 0 ≤ expV b * num / den := Int.ediv_nonneg (Int.mul_nonneg (by omega) hn) hd
    split
    · exact ⟨x, y, z⟩
    · rename_i hc2
      obtain ⟨x', y', z', _⟩ := shrI_ok (expV b * num / den) (by omega) (by omega)
      exact ⟨x', y', by omega⟩
  · exact ⟨hl, hok, Int.le_refl _⟩
end Go.Proofs.Ytkjlnloionbdbaa
