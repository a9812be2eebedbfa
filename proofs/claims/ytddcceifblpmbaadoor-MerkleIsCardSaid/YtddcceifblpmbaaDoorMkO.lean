/- florinlaw10: rows of hashes as arguments; what the laws say of Root. (hM) -/
import Derived.Test.YtddcceifblpmbaaDoorMka
import Derived.Test.YtddcceifblpmbaaDoorOpen2
import Derived.Test.YtddcceifblpmbaaDoorHArg
namespace Go.Proofs.YtddcceifblpmbaaDoor
set_option linter.unusedVariables false
set_option linter.unusedSimpArgs false
open Go.RowKit

theorem rdc_hash10 {w : World} {cs : List Value} (h : RdC Tryd.prog w 23 cs) : ∃ f : Nat → Int, cs = b8l f 32 ∧ ∀ i, 0 ≤ f i ∧ f i < 256 := by
  obtain ⟨hl, hi⟩ := h.array Tryd.underlying23
  have c1 : Tryd.prog.cellsOf 5 = 1 := by kernel_rfl
  have c32 : Tryd.prog.cellsOf 23 = 32 := by kernel_rfl
  rw [c32] at hl
  have key : ∀ i, ∃ z : Int, (i < 32 → cs[i]? = some (.int .u8 z)) ∧ 0 ≤ z ∧ z < 256 := fun i => by
    by_cases hlt : i < 32
    · have hci := hi i hlt
      rw [c1, Nat.mul_one] at hci
      obtain ⟨z, e, hz⟩ := hci.int Tryd.underlying5
      have := congrArg (fun l => l[0]?) e
      simp only [List.getElem?_take, List.getElem?_drop, List.getElem?_cons_zero, Nat.add_zero] at this
      rw [if_pos (by omega)] at this
      exact ⟨z, fun _ => this, u8_of_wf hz⟩
    · exact ⟨0, fun h => absurd h hlt, by omega, by omega⟩
  refine ⟨fun i => (key i).choose, ?_, fun i => (key i).choose_spec.2⟩
  apply List.ext_getElem?
  intro i
  by_cases hlt : i < 32
  · rw [(key i).choose_spec.1 hlt, b8l_get _ _ _ hlt]
  · rw [List.getElem?_eq_none (by omega), List.getElem?_eq_none (by rw [b8l_len]; omega)]
theorem hsL_cell (X : Nat → HF) : ∀ (n k j : Nat) (u : Value), (hsL ((List.range n).map X))[k]? = some u → ∃ i j, i < n ∧ k = i * 32 + j ∧ (b8l (X i) 32)[j]? = some u := by
  intro n k _ u h
  have hk : k < n * 32 := by have := (List.getElem?_eq_some_iff.1 h).1; rw [hsL_len] at this; simpa using this
  have hi : k / 32 < n := by omega
  have hj : k % 32 < 32 := Nat.mod_lt _ (by omega)
  have e : k = k / 32 * 32 + k % 32 := by omega
  have hg : ((List.range n).map X)[k / 32]? = some (X (k / 32)) := by simp [hi]
  have h2 := hsL_get (k % 32) hg hj
  rw [← e, h] at h2
  refine ⟨k / 32, k % 32, hi, e, ?_⟩
  rw [b8l_get _ _ _ hj, h2]
/-- hashes as an argument -/
theorem rd_hashes {w : World} {v : Value} (k : Rd Tryd.prog w 60 v) : ∃ (ao : Option Addr) (n c : Nat) (L : List HF), v = .slice ao n c ∧ Row w ao n c 32 (hsL L) ∧ (∀ f ∈ L, HB f) ∧ L.length = n ∧ n ≤ maxLen := by
  obtain ⟨ao, n, c, X, rfl, hX, hs, hn⟩ := k.slice (sz := 32) Tryd.underlying60 (by kernel_rfl) (by decide)
  have this : ∀ i, ∃ f : HF, (i < n → X i = b8l f 32) ∧ HB f := fun i => by
    by_cases hi : i < n
    · obtain ⟨f, e, ho⟩ := rdc_hash10 (hX i hi)
      exact ⟨f, fun _ => e, ho⟩
    · exact ⟨zH, fun h => absurd h hi, fun _ => by simp [zH]⟩
  refine ⟨ao, n, c, (List.range n).map fun i => (this i).choose, rfl, ⟨by rw [hsL_len]; simp, hs.le, hs.nil, fun ad ha i u hu => ?_, hsL_one _⟩, ?_, by simp, hn⟩
  · obtain ⟨q, j, hq, e, hj⟩ := hsL_cell _ n i 0 u hu
    have := hs.cells ad ha q hq j u (by rw [(this q).choose_spec.1 hq]; exact hj)
    rw [e]
    exact this
  · intro f hf
    obtain ⟨i, _, rfl⟩ := List.mem_map.1 hf
    exact (this i).choose_spec.2

open Classical in
/-- are two alike that are paired? -/
noncomputable def twB (L : List HF) : Bool := decide (likeT L (levN L.length))
theorem root_det (ao : Option Addr) (n c : Nat) (L : List HF) (w : World) (hT : Tab w) (h : Row w ao n c 32 (hsL L)) (hL : ∀ f ∈ L, HB f) :
    Calls Tryd.prog 44 #[.slice ao n c] w fun e w' => e = .returned (.tuple #[arr32 (rootF L), .bool (twB L)]) ∧ Below w.heap.size w w' := by
  refine (root_any ao n c L w hT h hL).mono ?_
  rintro e w' ⟨b, rfl, hb, hB⟩
  refine ⟨?_, hB⟩
  have hl := hs_len h
  have e : twB L = b := by
    unfold twB
    rw [hl]
    cases b
    · refine @decide_eq_false _ (Classical.propDecidable _) fun h => by simp at hb; exact hb h
    · exact @decide_eq_true _ (Classical.propDecidable _) (hb.1 rfl)
  rw [e]
theorem tw_true {L : List HF} (h : likeT L (levN L.length)) : twB L = true := @decide_eq_true _ (Classical.propDecidable _) h
theorem tw_false {L : List HF} (h : ¬ likeT L (levN L.length)) : twB L = false := @decide_eq_false _ (Classical.propDecidable _) h
theorem wpList_bs1 {w : World} {ops : Array Oper} {rest : List Oper} {o : Oper} {a : Act} {Q : Exit → Act → World → Prop} (hgd : o.guard = none) (x : Operand) (f : HF)
    (ho : o.op = .buildSlice 60 1 #[(0, x)]) (hx : a.eval x = arr32 f)
    (hk : ∀ G W, Row W (some ⟨G, 0, none⟩) 1 1 32 (b8l f 32) → Below w.heap.size w W → wpList Tryd.prog ops Q rest (a.put o.dst (.slice (some ⟨G, 0, none⟩) 1 1)) W) : wpList Tryd.prog ops Q (o :: rest) a w := by
  refine wpList_plain hgd fun K hK => ?_
  have hb := bslice_hash f w
  unfold Oper.wp execOp
  rw [ho]
  simp only [List.map_toArray, List.map_cons, List.map_nil, hx]
  rw [Sem.run_bind]
  simp only [hb, Result.andThen_ok]
  exact hK _ _ (hk _ _ (row_hash w f) (below_alloc _ _))
theorem ownN_of {B : Nat} {E : TypeId} {sz : Nat} {w : World} {g n c : Nat} {xs : List Value} (h : w.ownsRow B E sz (.slice (some ⟨g, 0, none⟩) n c) n xs) : OwnN B E sz w (some ⟨g, 0, none⟩) n c xs := .inr ⟨g, rfl, h⟩
theorem like_in {L : List HF} (h : likeL L) (hn : 0 < levN L.length) : likeT L (levN L.length) := ⟨0, hn, h⟩
end Go.Proofs.YtddcceifblpmbaaDoor
