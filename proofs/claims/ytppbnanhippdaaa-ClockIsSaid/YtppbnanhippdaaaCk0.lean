/- Clock, the plain side: the last eleven, sorted; the one in the middle. -/
import Derived.Test.YtppbnanhippdaaaBase
import Derived.Sort.LotA
namespace Go.Proofs.Ytppbnanhippdaaa
set_option linter.unusedVariables false
set_option linter.unusedSimpArgs false

theorem getD_lt {α : Type} (l : List α) (d : α) {i : Nat} (h : i < l.length) : l.getD i d = l[i] := by simp [List.getD, h]

def le2 (x y : Int) : Bool := decide (x ≤ y)
def tl (l : List Int) : List Int := l.drop (l.length - 11)
def srt (l : List Int) : List Int := (tl l).mergeSort le2
def med (l : List Int) : Int := (srt l).getD ((srt l).length / 2) 0

theorem le2_total (a b : Int) : (le2 a b || le2 b a) = true := by simp [le2]; omega
theorem le2_trans (a b c : Int) (h1 : le2 a b = true) (h2 : le2 b c = true) : le2 a c = true := by simp [le2] at *; omega
theorem ms_pair (l : List Int) : (l.mergeSort le2).Pairwise fun a b => le2 a b = true := List.pairwise_mergeSort le2_trans le2_total l
theorem ms_perm {a b : List Int} (h : a.Perm b) : a.mergeSort le2 = b.mergeSort le2 := by
  refine List.Perm.eq_of_pairwise (le := fun x y => le2 x y = true) ?_ (ms_pair a) (ms_pair b) (((List.mergeSort_perm a le2).trans h).trans (List.mergeSort_perm b le2).symm)
  intro x y _ _ h1 h2
  simp [le2] at h1 h2
  omega
theorem tl_len (l : List Int) : (tl l).length = min l.length 11 := by simp [tl]; omega
theorem srt_len (l : List Int) : (srt l).length = min l.length 11 := by rw [srt, List.length_mergeSort, tl_len]
theorem srt_perm (l : List Int) : (srt l).Perm (tl l) := List.mergeSort_perm _ _
theorem srt_le (l : List Int) (i j : Nat) (h : i ≤ j) (hj : j < (srt l).length) : (srt l).getD i 0 ≤ (srt l).getD j 0 := by
  rcases Nat.lt_or_ge i j with hlt | hge
  · have := List.pairwise_iff_getElem.1 (ms_pair (tl l)) i j (by show i < (srt l).length; omega) hj hlt
    simp only [le2, decide_eq_true_eq] at this
    rw [getD_lt _ _ (by omega), getD_lt _ _ hj]
    exact this
  · have : i = j := by omega
    subst this; exact Int.le_refl _
theorem srt_mem (l : List Int) (x : Int) : x ∈ srt l ↔ x ∈ l.drop (l.length - 11) := (srt_perm l).mem_iff
theorem med_mem (l : List Int) (h : 0 < l.length) : med l ∈ tl l := by
  have hl := srt_len l
  have : med l ∈ srt l := by
    unfold med
    rw [getD_lt _ _ (by omega)]
    exact List.getElem_mem _
  exact (srt_perm l).mem_iff.1 this
theorem countP_take_drop (p : Int → Bool) (s : List Int) (k : Nat) : s.countP p = (s.take k).countP p + (s.drop k).countP p := by
  rw [← List.countP_append, List.take_append_drop]
/-- no more than half are below the middle -/
theorem med_below (l : List Int) : (tl l).countP (fun x => decide (x < med l)) ≤ min l.length 11 / 2 := by
  rw [← (srt_perm l).countP_eq, countP_take_drop _ _ ((srt l).length / 2)]
  have h0 : ((srt l).drop ((srt l).length / 2)).countP (fun x => decide (x < med l)) = 0 := by
    rw [List.countP_eq_zero]
    intro x hx
    obtain ⟨j, hj, rfl⟩ := List.getElem_of_mem hx
    simp only [List.length_drop] at hj
    have := srt_le l ((srt l).length / 2) ((srt l).length / 2 + j) (by omega) (by omega)
    rw [getD_lt _ _ (show (srt l).length / 2 + j < (srt l).length by omega)] at this
    simp only [List.getElem_drop, decide_eq_true_eq]
    unfold med
    omega
  rw [h0]
  have := List.countP_le_length (p := fun x => decide (x < med l)) (l := (srt l).take ((srt l).length / 2))
  simp only [List.length_take] at this
  have := srt_len l
  omega
theorem med_above (l : List Int) (_ : 0 < l.length) : (tl l).countP (fun x => decide (med l < x)) ≤ min l.length 11 - 1 - min l.length 11 / 2 := by
  have hl := srt_len l
  rw [← (srt_perm l).countP_eq, countP_take_drop _ _ ((srt l).length / 2 + 1)]
  have h0 : ((srt l).take ((srt l).length / 2 + 1)).countP (fun x => decide (med l < x)) = 0 := by
    rw [List.countP_eq_zero]
    intro x hx
    obtain ⟨j, hj, rfl⟩ := List.getElem_of_mem hx
    simp only [List.length_take] at hj
    have := srt_le l j ((srt l).length / 2) (by omega) (by omega)
    rw [getD_lt _ _ (show j < (srt l).length by omega)] at this
    simp only [List.getElem_take, decide_eq_true_eq]
    unfold med
    omega
  rw [h0]
  have := List.countP_le_length (p := fun x => decide (med l < x)) (l := (srt l).drop ((srt l).length / 2 + 1))
  simp only [List.length_drop] at this
  omega
theorem med_same (l : List Int) (h : 0 < l.length) : 0 < (tl l).countP (fun x => decide (x = med l)) := by
  rw [List.countP_pos_iff]
  exact ⟨med l, med_mem l h, by simp⟩
theorem tl_app (a b : List Int) (h : 11 ≤ b.length) : tl (a ++ b) = tl b := by
  simp only [tl, List.length_append]
  rw [List.drop_append, List.drop_eq_nil_of_le (by omega), List.nil_append]
  congr 1
  omega
theorem srt_app (a b : List Int) (h : 11 ≤ b.length) : srt (a ++ b) = srt b := by rw [srt, tl_app a b h]; rfl
theorem med_app (a b : List Int) (h : 11 ≤ b.length) : med (a ++ b) = med b := by unfold med; rw [srt_app a b h]
theorem srt_of_perm {a b : List Int} (h : a.Perm b) (hb : a.length ≤ 11) : srt a = srt b := by
  have hl := h.length_eq
  unfold srt tl
  rw [show a.length - 11 = 0 by omega, show b.length - 11 = 0 by omega, List.drop_zero, List.drop_zero]
  exact ms_perm h
theorem med_of_perm {a b : List Int} (h : a.Perm b) (hb : a.length ≤ 11) : med a = med b := by unfold med; rw [srt_of_perm h hb]
/-- one more above the middle: it does not fall -/
theorem med_rises (l : List Int) (x : Int) (h : 11 ≤ l.length) (hx : med l < x) : med l ≤ med (l ++ [x]) := by
  have ht : tl (l ++ [x]) = (tl l).drop 1 ++ [x] := by
    simp only [tl, List.length_append, List.length_singleton]
    rw [List.drop_append, List.drop_drop, show l.length + 1 - 11 - l.length = 0 by omega, List.drop_zero]
    congr 2
    omega
  have hc : (tl (l ++ [x])).countP (fun y => decide (y < med l)) ≤ 5 := by
    rw [ht, List.countP_append, List.countP_singleton]
    have h1 := med_below l
    have h2 := countP_take_drop (fun y => decide (y < med l)) (tl l) 1
    have : ¬ x < med l := by omega
    simp only [this, decide_false, Bool.false_eq_true, if_false]
    omega
  rcases Int.lt_or_le (med (l ++ [x])) (med l) with hlt | hge
  · exfalso
    have hl := srt_len (l ++ [x])
    simp only [List.length_append, List.length_singleton] at hl
    have hl11 : (srt (l ++ [x])).length = 11 := by omega
    rw [← (srt_perm (l ++ [x])).countP_eq, countP_take_drop _ _ 6] at hc
    have h6 : ((srt (l ++ [x])).take 6).countP (fun y => decide (y < med l)) = ((srt (l ++ [x])).take 6).length := by
      rw [List.countP_eq_length]
      intro y hy
      obtain ⟨j, hj, rfl⟩ := List.getElem_of_mem hy
      simp only [List.length_take] at hj
      have := srt_le (l ++ [x]) j 5 (by omega) (by omega)
      rw [getD_lt _ _ (show j < (srt (l ++ [x])).length by omega)] at this
      simp only [List.getElem_take, decide_eq_true_eq]
      unfold med at hlt ⊢
      rw [hl11, show 11 / 2 = 5 from rfl] at hlt
      omega
    rw [h6] at hc
    simp only [List.length_take] at hc
    omega
  · exact hge
end Go.Proofs.Ytppbnanhippdaaa
