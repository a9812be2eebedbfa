/- Clock, the plain side: the last eleven, sorted; the one in the middle. Merged: Ck0, Ck1, Ck2, Ck3, Ck4, CkS, CkT. -/
import Derived.Test.YtlhdfmaekbnhaaaGreatDoorBase
import Derived.Sort.LotA
import Derived.Test.YtlhdfmaekbnhaaaGreatDoorOpen
import Derived.Laws.OwnMore
import Derived.Test.YtlhdfmaekbnhaaaGreatDoorShelf
import Derived.Lib.OwnBridge
import Derived.Test.YtlhdfmaekbnhaaaGreatDoorApp2
import Derived.Test.YtlhdfmaekbnhaaaGreatDoorOpen2
import Derived.Deep.MidRow
import Derived.Great.Walk
import Derived.Laws.Tables
import Derived.Laws.CopyRow
import Derived.Laws.CopyOwn
/- Clock, the plain side: the last eleven, sorted; the one in the middle. -/
namespace Go.Proofs.YtlhdfmaekbnhaaaGreatDoor
set_option linter.unusedVariables false
set_option linter.unusedSimpArgs false

theorem getD_lt {α : Type} (l : List α) (d : α) {i : Nat} (h : i < l.length) : l.getD i d = l[i] := by simp [List.getD, h]

def le2 (x y : Int) : Bool := decide (x ≤ y)
def tl (l : List Int) : List Int := l.drop (l.length - 11)
def srt (l : List Int) : List Int := (tl l).mergeSort le2
def med (l : List Int) : Int := (srt l).getD ((srt l).length / 2) 0

theorem le2_total (a b : Int) : (le2 a b || le2 b a) = true := by simp [le2]; omega
theorem le2_trans (a b c : Int) (h1 : le2 a b = true) (h2 : le2 b c = true) : le2 a c = true := by simp [le2] at *; omega
theorem ms_pair (l : List Int) : (l.mergeSort le2).Pairwise fun a b => le2 a b = true := List.pairwise_mergeSort le2_trans le2_total l
theorem ms_perm {a b : List Int} (h : a.Perm b) : a.mergeSort le2 = b.mergeSort le2 := by
  refine List.Perm.eq_of_pairwise (le := fun x y => le2 x y = true) ?_ (ms_pair a) (ms_pair b) (((List.mergeSort_perm a le2).trans h).trans (List.mergeSort_perm b le2).symm)
  intro x y _ _ h1 h2
  simp [le2] at h1 h2
  omega
theorem tl_len (l : List Int) : (tl l).length = min l.length 11 := by simp [tl]; omega
theorem srt_len (l : List Int) : (srt l).length = min l.length 11 := by rw [srt, List.length_mergeSort, tl_len]
theorem srt_perm (l : List Int) : (srt l).Perm (tl l) := List.mergeSort_perm _ _
theorem srt_le (l : List Int) (i j : Nat) (h : i ≤ j) (hj : j < (srt l).length) : (srt l).getD i 0 ≤ (srt l).getD j 0 := by
  rcases Nat.lt_or_ge i j with hlt | hge
  · have := List.pairwise_iff_getElem.1 (ms_pair (tl l)) i j (by show i < (srt l).length; omega) hj hlt
    simp only [le2, decide_eq_true_eq] at this
    rw [getD_lt _ _ (by omega), getD_lt _ _ hj]
    exact this
  · have : i = j := by omega
    subst this; exact Int.le_refl _
theorem srt_mem (l : List Int) (x : Int) : x ∈ srt l ↔ x ∈ l.drop (l.length - 11) := (srt_perm l).mem_iff
theorem med_mem (l : List Int) (h : 0 < l.length) : med l ∈ tl l := by
  have hl := srt_len l
  have : med l ∈ srt l := by
    unfold med
    rw [getD_lt _ _ (by omega)]
    exact List.getElem_mem _
  exact (srt_perm l).mem_iff.1 this
theorem countP_take_drop (p : Int → Bool) (s : List Int) (k : Nat) : s.countP p = (s.take k).countP p + (s.drop k).countP p := by
  rw [← List.countP_append, List.take_append_drop]
/-- no more than half are below the middle -/
theorem med_below (l : List Int) : (tl l).countP (fun x => decide (x < med l)) ≤ min l.length 11 / 2 := by
  rw [← (srt_perm l).countP_eq, countP_take_drop _ _ ((srt l).length / 2)]
  have h0 : ((srt l).drop ((srt l).length / 2)).countP (fun x => decide (x < med l)) = 0 := by
    rw [List.countP_eq_zero]
    intro x hx
    obtain ⟨j, hj, rfl⟩ := List.getElem_of_mem hx
    simp only [List.length_drop] at hj
    have := srt_le l ((srt l).length / 2) ((srt l).length / 2 + j) (by omega) (by omega)
    rw [getD_lt _ _ (show (srt l).length / 2 + j < (srt l).length by omega)] at this
    simp only [List.getElem_drop, decide_eq_true_eq]
    unfold med
    omega
  rw [h0]
  have := List.countP_le_length (p := fun x => decide (x < med l)) (l := (srt l).take ((srt l).length / 2))
  simp only [List.length_take] at this
  have := srt_len l
  omega
theorem med_above (l : List Int) (_ : 0 < l.length) : (tl l).countP (fun x => decide (med l < x)) ≤ min l.length 11 - 1 - min l.length 11 / 2 := by
  have hl := srt_len l
  rw [← (srt_perm l).countP_eq, countP_take_drop _ _ ((srt l).length / 2 + 1)]
  have h0 : ((srt l).take ((srt l).length / 2 + 1)).countP (fun x => decide (med l < x)) = 0 := by
    rw [List.countP_eq_zero]
    intro x hx
    obtain ⟨j, hj, rfl⟩ := List.getElem_of_mem hx
    simp only [List.length_take] at hj
    have := srt_le l j ((srt l).length / 2) (by omega) (by omega)
    rw [getD_lt _ _ (show j < (srt l).length by omega)] at this
    simp only [List.getElem_take, decide_eq_true_eq]
    unfold med
    omega
  rw [h0]
  have := List.countP_le_length (p := fun x => decide (med l < x)) (l := (srt l).drop ((srt l).length / 2 + 1))
  simp only [List.length_drop] at this
  omega
theorem med_same (l : List Int) (h : 0 < l.length) : 0 < (tl l).countP (fun x => decide (x = med l)) := by
  rw [List.countP_pos_iff]
  exact ⟨med l, med_mem l h, by simp⟩
theorem tl_app (a b : List Int) (h : 11 ≤ b.length) : tl (a ++ b) = tl b := by
  simp only [tl, List.length_append]
  rw [List.drop_append, List.drop_eq_nil_of_le (by omega), List.nil_append]
  congr 1
  omega
theorem srt_app (a b : List Int) (h : 11 ≤ b.length) : srt (a ++ b) = srt b := by rw [srt, tl_app a b h]; rfl
theorem med_app (a b : List Int) (h : 11 ≤ b.length) : med (a ++ b) = med b := by unfold med; rw [srt_app a b h]
theorem srt_of_perm {a b : List Int} (h : a.Perm b) (hb : a.length ≤ 11) : srt a = srt b := by
  have hl := h.length_eq
  unfold srt tl
  rw [show a.length - 11 = 0 by omega, show b.length - 11 = 0 by omega, List.drop_zero, List.drop_zero]
  exact ms_perm h
theorem med_of_perm {a b : List Int} (h : a.Perm b) (hb : a.length ≤ 11) : med a = med b := by unfold med; rw [srt_of_perm h hb]
/-- one more above the middle: it does not fall -/
theorem med_rises (l : List Int) (x : Int) (h : 11 ≤ l.length) (hx : med l < x) : med l ≤ med (l ++ [x]) := by
  have ht : tl (l ++ [x]) = (tl l).drop 1 ++ [x] := by
    simp only [tl, List.length_append, List.length_singleton]
    rw [List.drop_append, List.drop_drop, show l.length + 1 - 11 - l.length = 0 by omega, List.drop_zero]
    congr 2
    omega
  have hc : (tl (l ++ [x])).countP (fun y => decide (y < med l)) ≤ 5 := by
    rw [ht, List.countP_append, List.countP_singleton]
    have h1 := med_below l
    have h2 := countP_take_drop (fun y => decide (y < med l)) (tl l) 1
    have : ¬ x < med l := by omega
    simp only [this, decide_false, Bool.false_eq_true, if_false]
    omega
  rcases Int.lt_or_le (med (l ++ [x])) (med l) with hlt | hge
  · exfalso
    have hl := srt_len (l ++ [x])
    simp only [List.length_append, List.length_singleton] at hl
    have hl11 : (srt (l ++ [x])).length = 11 := by omega
    rw [← (srt_perm (l ++ [x])).countP_eq, countP_take_drop _ _ 6] at hc
    have h6 : ((srt (l ++ [x])).take 6).countP (fun y => decide (y < med l)) = ((srt (l ++ [x])).take 6).length := by
      rw [List.countP_eq_length]
      intro y hy
      obtain ⟨j, hj, rfl⟩ := List.getElem_of_mem hy
      simp only [List.length_take] at hj
      have := srt_le (l ++ [x]) j 5 (by omega) (by omega)
      rw [getD_lt _ _ (show j < (srt (l ++ [x])).length by omega)] at this
      simp only [List.getElem_take, decide_eq_true_eq]
      unfold med at hlt ⊢
      rw [hl11, show 11 / 2 = 5 from rfl] at hlt
      omega
    rw [h6] at hc
    simp only [List.length_take] at hc
    omega
  · exact hge
end Go.Proofs.YtlhdfmaekbnhaaaGreatDoor

/- Clock: small contracts: slices.Clone at []uint32, the order that sort.Slice is handed, bounded. -/
namespace Go.Proofs.YtlhdfmaekbnhaaaGreatDoor
set_option linter.unusedVariables false
set_option linter.unusedSimpArgs false
open Go.RowKit

theorem eltU32 : Elt Tryz.prog 41 22 (.int .u32 0) 1 4 := ⟨Tryz.underlying41, by kernel_rfl, rfl, by decide, by decide⟩
def c32 (l : List Int) : List Value := l.map (Value.int .u32)
theorem c32_len (l : List Int) : (c32 l).length = l.length := by simp [c32]
theorem c32_one (l : List Int) : ∀ u ∈ c32 l, u.oneCell' = true := by
  intro u hu
  simp only [c32, List.mem_map] at hu
  obtain ⟨x, _, rfl⟩ := hu
  rfl
theorem c32_app (a b : List Int) : c32 (a ++ b) = c32 a ++ c32 b := by simp [c32]
theorem c32_drop (a : List Int) (k : Nat) : (c32 a).drop k = c32 (a.drop k) := by simp [c32]
theorem c32_get (l : List Int) (i : Nat) (h : i < l.length) : (c32 l)[i]? = some (.int .u32 (l.getD i 0)) := by simp [c32, h, List.getD]

theorem Row.drop {w : World} {b off n c : Nat} {xs : List Value} (h : Row w (some ⟨b, off, none⟩) n c 1 xs) (k : Nat) (hk : k ≤ n) : Row w (some ⟨b, off + k, none⟩) (n - k) (c - k) 1 (xs.drop k) := by
  have hl := h.len
  have hle := h.le
  refine ⟨by rw [List.length_drop]; omega, by omega, fun h => (by cases h), ?_, fun u hu => h.one u (List.mem_of_mem_drop hu)⟩
  intro ad ha i u hu
  simp only [Option.some.injEq] at ha
  subst ha
  rw [List.getElem?_drop] at hu
  have := (h.cells _ rfl (k + i) u hu).2
  exact ⟨rfl, by rwa [← Nat.add_assoc] at this⟩
theorem Row.cell32 {w : World} {b off n c : Nat} {l : List Int} (h : Row w (some ⟨b, off, none⟩) n c 1 (c32 l)) (i : Nat) (hi : i < n) : w.cell? ⟨b, off + i, none⟩ = some (.int .u32 (l.getD i 0)) :=
  (h.cells _ rfl i _ (c32_get l i (by have := h.len; rw [c32_len] at this; omega))).2
theorem Row.len32 {w : World} {ao : Option Addr} {n c : Nat} {l : List Int} (h : Row w ao n c 1 (c32 l)) : n = l.length := by have := h.len; rw [c32_len] at this; omega

/-- What slices.Clone gives: nil, or a new row. -/
def Cloned (B : Nat) (w : World) (ao : Option Addr) (n c : Nat) (xs : List Value) : Prop :=
  (ao = none ∧ n = 0 ∧ c = 0 ∧ xs = []) ∨ ∃ g, ao = some ⟨g, 0, none⟩ ∧ w.ownsRow B 22 1 (.slice (some ⟨g, 0, none⟩) n c) n xs

set_option maxHeartbeats 400000 in
theorem ckclone_any (ao : Option Addr) (n c : Nat) (xs : List Value) (w : World) (hr : Row w ao n c 1 xs) (hn : n ≤ 10000000000) :
    Calls Tryz.prog 47 #[.slice ao n c] w fun e w' => ∃ ao' c', e = .returned (.slice ao' n c') ∧ Cloned w.heap.size w' ao' n c' xs ∧ Below w.heap.size w w' := by
  cases ao with
  | none =>
    have hc := hr.nil rfl
    have hn0 : n = 0 := by have := hr.le; omega
    subst hc
    subst hn0
    have hx : xs = [] := List.eq_nil_of_length_eq_zero (by simpa using hr.len)
    subst hx
    clear hr
    have heq : (binOp .eql 41 (.slice none 0 0) (.slice none 0 0)).run Tryz.prog w = .ok (.bool true) w := Lib.run_eql_slice_nil w _ _ none 0 0 0 0 Tryz.underlying41
    go_enter Tryz.func47, Tryz.ntmps47
    go_wp2
    go_ret
    exact ⟨none, 0, rfl, .inl ⟨rfl, rfl, rfl, rfl⟩, Below.refl _ _⟩
  | some ad =>
    have hO : (w.alloc (.cells #[] 22)).ownsRow w.heap.size 22 1 (.slice (some ⟨w.heap.size, 0, none⟩) 0 0) 0 [] :=
      World.ownsRow_lit w #[] 0 (Nat.le_refl _) (by unfold maxLen; omega) (by simp)
    have HO := Lib.hid hO
    have HR := Lib.hid hr
    clear hr hO
    have heq : (binOp .eql 41 (.slice (some ad) n c) (.slice none 0 0)).run Tryz.prog w = .ok (.bool false) w := Lib.run_eql_slice_nil w _ _ (some ad) n c 0 0 Tryz.underlying41
    go_enter Tryz.func47, Tryz.ntmps47
    go_wp2_with (at_builtin; refine wpList_appO eltU32 _ rfl _ _ rfl w.heap.size w.heap.size 0 0 [] rfl HO.out _ n c _ rfl (HR.out.alloc _) (by omega) (by simp) ?_; intro g' cap w' hown hgrow hg hB hlt)
    have HW := Lib.hid hown
    clear hown
    go_ret
    refine ⟨_, _, rfl, .inr ⟨g', ?_⟩, ?_⟩
    · exact ⟨rfl, by simpa using HW.out⟩
    · exact below_grown (below_alloc w _) hgrow (fun k hk => by cases hk; exact Nat.le_refl _)

set_option maxHeartbeats 400000 in
theorem less_any (blk off c Bs size : Nat) (W : World) (G : Nat → Int) (hs : W.cell? ⟨Bs, 0, none⟩ = some (.slice (some ⟨blk, off, none⟩) size c))
    (hc : ∀ t, t < size → W.cell? ⟨blk, off + t, none⟩ = some (.int .u32 (G t))) (i j : Nat) (hi : i < size) (hj : j < size) :
    Calls Tryz.prog 49 #[.int .i64 i, .int .i64 j, .pointer (some ⟨Bs, 0, none⟩)] W fun e w' => e = .returned (.bool (decide (G i < G j))) ∧ ∃ q, w' = W.drewN q := by
  have ci := hc i hi
  have cj := hc j hj
  go_enter Tryz.func49, Tryz.ntmps49
  go_wp2
  go_quiet (fail)
  go_wp2
  go_ret
  exact ⟨rfl, nq, rfl⟩

def bndN (n : Int) : Int := min (max n 0) 1099511627776
theorem bndN_range (n : Int) : 0 ≤ bndN n ∧ bndN n ≤ 1099511627776 := by unfold bndN; omega
set_option maxHeartbeats 400000 in
theorem bounded_any (n : Int) (w : World) : Calls Tryz.prog 34 #[.int .i64 n] w fun e w' => e = .returned (.int .i64 (bndN n)) ∧ w' = w := by
  by_cases h0 : n < 0
  · have hb := Lib.hid (show bndN n = 0 by unfold bndN; omega)
    go_enter Tryz.func34, Tryz.ntmps34
    go_wp2
    all_goals first | omega | (go_ret; rw [hb.out]; exact ⟨rfl, rfl⟩) | (go_ret; exact ⟨rfl, rfl⟩)
  by_cases h1 : 1099511627776 < n
  · have hb := Lib.hid (show bndN n = 1099511627776 by unfold bndN; omega)
    go_enter Tryz.func34, Tryz.ntmps34
    go_wp2
    all_goals first | omega | (go_ret; rw [hb.out]; exact ⟨rfl, rfl⟩) | (go_ret; exact ⟨rfl, rfl⟩)
  · have hb := Lib.hid (show bndN n = n by unfold bndN; omega)
    go_enter Tryz.func34, Tryz.ntmps34
    go_wp2
    all_goals first | omega | (go_ret; rw [hb.out]; exact ⟨rfl, rfl⟩) | (go_ret; exact ⟨rfl, rfl⟩)
end Go.Proofs.YtlhdfmaekbnhaaaGreatDoor

/- Clock: contract of Last: slices.Clone, then sort.Slice by the library's contract. -/
namespace Go.Proofs.YtlhdfmaekbnhaaaGreatDoor
set_option linter.unusedVariables false
set_option linter.unusedSimpArgs false
open Go.RowKit Go.Shelf Go.Lib Go.Sort

noncomputable def siT : TypeInfo := (Tryz.prog.info? 41).get (by kernel_rfl)
noncomputable def siE : TypeInfo := (Tryz.prog.info? 22).get (by kernel_rfl)
theorem siK (n : Nat) (h2 : 2 ≤ n) : Lib.swapperK n siE 10 = 6 := by
  have a : siE.hasPointers = false := by kernel_rfl
  have b : siE.bytes = 4 := by kernel_rfl
  have c : (n == 0) = false := by simp; omega
  have d : (n == 1) = false := by simp; omega
  simp [Lib.swapperK, a, b, c, d]

theorem ints_sorted_eq (d d' : Array Int) (hp : PermIn 0 d.size d d') (hs : SortedIn ltInt 0 d.size d') : d' = (d.toList.mergeSort le2).toArray := by
  have h := sorted_unique_holds (lt := ltInt) swo_ltInt (fun x y h1 h2 => by simp only [ltInt, decide_eq_false_iff_not] at h1 h2; omega) d d' hp hs
  have e : (fun x y : Int => !ltInt y x) = le2 := by
    funext x y
    simp only [ltInt, le2]
    by_cases h : x ≤ y
    · first | (simp [h]; done) | (simp [h]; omega)
    · first | (simp [h]; done) | (simp [h]; omega)
  rw [e] at h
  rw [← h]

theorem ms_short (l : List Int) (h : l.length ≤ 1) : l.mergeSort le2 = l := by
  match l, h with
  | [], _ => simp
  | [x], _ => simp
  | x :: y :: r, h => simp at h

/-- 2 to 12 elements of a row of the call's own, boxed: behind sort.Slice the row is sorted. -/
theorem sort_own (w0 w : World) (g c Bs : Nat) (d : List Int) (h2 : 2 ≤ d.length) (h12 : d.length ≤ 12) (hB : Below w0.heap.size w0 w) (hO : w.ownsRow w0.heap.size 22 1 (.slice (some ⟨g, 0, none⟩) d.length c) d.length (c32 d))
    (hs : w.cell? ⟨Bs, 0, none⟩ = some (.slice (some ⟨g, 0, none⟩) d.length c)) (hne : Bs ≠ g) :
    Calls Tryz.prog 48 #[.iface 41 (.slice (some ⟨g, 0, none⟩) d.length c), .func (.func 49) #[] #[.pointer (some ⟨Bs, 0, none⟩)]] w fun e w' =>
      e = .returned (.tuple #[]) ∧ w'.cell? ⟨Bs, 0, none⟩ = some (.slice (some ⟨g, 0, none⟩) d.length c) ∧ Row w' (some ⟨g, 0, none⟩) d.length c 1 (c32 (d.mergeSort le2)) ∧ Below w0.heap.size w0 w' := by
  obtain ⟨g', cap', hv, hbg, hlt, _, _, _, hH⟩ := holds_of_ownsRow (enc := Value.int .u32) (zs := d) hO (by intro h; cases h)
  simp only [Value.slice.injEq, Option.some.injEq, Addr.mk.injEq, and_true, true_and] at hv
  obtain ⟨rfl, rfl⟩ := hv
  have hBl : Bs < w.heap.size := World.block_lt_of_cell? w ⟨Bs, 0, none⟩ hs
  have hsz : d.toArray.size = d.length := by simp
  have hless : LessReads Tryz.prog 49 #[.pointer (some ⟨Bs, 0, none⟩)] (Value.int .u32) ltInt g 0 d.toArray.size w := by
    intro m os dk hs' i j hi hj
    have e : sortWorld (Value.int .u32) w g 0 m dk os = putRow (Value.int .u32) (grow (Sort.ahead w m) os) g 0 dk := by
      unfold sortWorld; rw [putRow_grow _ (Sort.ahead w m) _ g 0 _ hlt]
    have hHg : Holds (Value.int .u32) (grow (Sort.ahead w m) os) g 0 d.toArray := holds_grow _ _ _ g 0 d.toArray hlt (holds_ahead _ _ _ _ _ _ hH)
    refine less_any g 0 c Bs d.toArray.size _ (fun t => dk[t]!) ?_ (fun t ht => ?_) i j hi hj
    · rw [e, cell?_putRow_other _ _ g 0 dk _ (Or.inl hne), cell?_grow _ _ _ (by exact hBl), hsz]
      exact hs
    · rw [e]; exact cell?_putRow _ _ g 0 d.toArray dk hHg hs' t (by omega)
  have hS := Any.sort_Slice_small_sorted Tryz.laysGg6 41 22 siT siE (by kernel_rfl) (by kernel_rfl) (by kernel_rfl) (by kernel_rfl) 10 (fun _ => by kernel_rfl) (by kernel_rfl) (fun _ => by kernel_rfl) (Value.int .u32) (fun _ => rfl) ltInt swo_ltInt 49 _
    (enters_of Tryz.func49 (by kernel_rfl) rfl) g 0 c d.toArray (by rw [hsz]; exact h2) (by rw [hsz]; exact h12) 79 (by rw [siK _ (by rw [hsz]; exact h2)]; kernel_rfl) true
    (fun args W => run_callFunc_extern Tryz.func79 (by kernel_rfl) (by kernel_rfl) (by kernel_rfl) (e := Extern.ReflectliteSwapper.swap true) (by kernel_rfl) args W) w hless hH hlt
  change Calls Tryz.prog 48 _ _ _ at hS
  rw [hsz] at hS
  refine hS.mono ?_
  rintro e w' ⟨rfl, d', n, os, hp, hso, rfl⟩
  have hp' : PermIn 0 d.toArray.size d.toArray d' := by rw [hsz]; exact hp
  have hso' : SortedIn ltInt 0 d.toArray.size d' := by rw [hsz]; exact hso
  have hd' := ints_sorted_eq d.toArray d' hp' hso'
  have hl' : (d.mergeSort le2).length = d.length := List.length_mergeSort _
  have hd2 : d' = (d.mergeSort le2).toArray := by rw [hd']
  subst hd2
  have hP := ownsRow_putRow (enc := Value.int .u32) (q := n) (k := d.length) (ys := d.mergeSort le2) hO hl' (Nat.le_refl _)
  rw [List.take_of_length_le (by omega)] at hP
  have hR := row_own hP (c32_one (d.mergeSort le2))
  have hbp := below_putRow (enc := Value.int .u32) (q := n) (d := (d.mergeSort le2).toArray) hB hbg
  have hbg2 : Below (putRow (Value.int .u32) (Sort.ahead w n) g 0 (d.mergeSort le2).toArray).heap.size (putRow (Value.int .u32) (Sort.ahead w n) g 0 (d.mergeSort le2).toArray) (grow (putRow (Value.int .u32) (Sort.ahead w n) g 0 (d.mergeSort le2).toArray) os) := by
    refine ⟨rfl, rfl, rfl, by simp, fun k hk => heap_grow_old _ os hk⟩
  refine ⟨rfl, ?_, hR.later hbg2, hbp.trans (hbg2.mono hbp.size)⟩
  rw [cell?_grow _ _ _ (by rw [size_putRow]; exact hBl), cell?_putRow_other _ _ g 0 _ _ (Or.inl hne)]
  exact hs

theorem cloned_row {B : Nat} {w : World} {ao : Option Addr} {n c : Nat} {d : List Int} (h : Cloned B w ao n c (c32 d)) : Row w ao n c 1 (c32 d) := by
  rcases h with ⟨rfl, rfl, rfl, hx⟩ | ⟨g, rfl, h⟩
  · rw [hx]; exact row_nil w 1
  · exact row_own h (c32_one d)
theorem Cloned.alloc {B : Nat} {w : World} {ao : Option Addr} {n c : Nat} {xs : List Value} (h : Cloned B w ao n c xs) (o : Obj) : Cloned B (w.alloc o) ao n c xs := by
  rcases h with h | ⟨g, h1, h2⟩
  · exact .inl h
  · exact .inr ⟨g, h1, h2.alloc o⟩

theorem swapK_tiny (n : Nat) (h1 : n ≤ 1) : Lib.swapperK n siE 10 = n + 1 := by
  rcases Nat.eq_zero_or_pos n with h | h
  · subst h; simp [Lib.swapperK]
  · obtain rfl : n = 1 := by omega
    simp [Lib.swapperK]

theorem sort_any (w0 w : World) (ao : Option Addr) (n c Bs : Nat) (d : List Int) (h12 : n ≤ 12) (hB : Below w0.heap.size w0 w) (hC : Cloned w0.heap.size w ao n c (c32 d))
    (hs : w.cell? ⟨Bs, 0, none⟩ = some (.slice ao n c)) (hne : ∀ ad, ao = some ad → Bs ≠ ad.block) :
    Calls Tryz.prog 48 #[.iface 41 (.slice ao n c), .func (.func 49) #[] #[.pointer (some ⟨Bs, 0, none⟩)]] w fun e w' =>
      e = .returned (.tuple #[]) ∧ w'.cell? ⟨Bs, 0, none⟩ = some (.slice ao n c) ∧ Row w' ao n c 1 (c32 (d.mergeSort le2)) ∧ Below w0.heap.size w0 w' := by
  have hn := (cloned_row hC).len32
  by_cases h2 : 2 ≤ n
  · rcases hC with ⟨_, rfl, _⟩ | ⟨g, rfl, hO⟩
    · omega
    · subst hn
      exact sort_own w0 w g c Bs d h2 h12 hB hO hs (hne _ rfl)
  · have hS := Any.sort_Slice_tiny Tryz.laysGg6 41 22 siT siE (by kernel_rfl) (by kernel_rfl) (by kernel_rfl) (by kernel_rfl) 10 (fun _ => by kernel_rfl) ao n c (by omega) (74 + n) (by
      rw [swapK_tiny n (by omega)]
      rcases Nat.eq_zero_or_pos n with h | h
      · subst h; kernel_rfl
      · obtain rfl : n = 1 := by omega
        kernel_rfl) (.func 49) #[] #[.pointer (some ⟨Bs, 0, none⟩)] w
    change Calls Tryz.prog 48 _ _ _ at hS
    refine hS.mono ?_
    rintro e w' ⟨rfl, os, rfl⟩
    have hbg2 : Below w.heap.size w (grow w os) := ⟨rfl, rfl, rfl, by simp, fun k hk => heap_grow_old _ os hk⟩
    have hBl : Bs < w.heap.size := World.block_lt_of_cell? w ⟨Bs, 0, none⟩ hs
    refine ⟨rfl, ?_, ?_, hB.trans (hbg2.mono hB.size)⟩
    · rw [cell?_grow _ _ _ (by exact hBl)]; exact hs
    · rw [ms_short d (by omega)]
      exact (cloned_row hC).later hbg2

theorem drop_row {w : World} {ao : Option Addr} {n c : Nat} {l : List Int} (h : Row w ao n c 1 (c32 l)) (hn : n ≤ 11) : tl l = l := by
  have := h.len32
  unfold tl
  rw [show l.length - 11 = 0 by omega, List.drop_zero]

theorem Cloned.lt {B : Nat} {w : World} {ao : Option Addr} {n c : Nat} {xs : List Value} (h : Cloned B w ao n c xs) : ∀ ad, ao = some ad → w.heap.size ≠ ad.block := by
  rcases h with ⟨h, _⟩ | ⟨g, h1, h2⟩
  · intro ad ha; rw [h] at ha; cases ha
  · intro ad ha
    rw [h1] at ha
    cases ha
    have := h2.lt g rfl
    show w.heap.size ≠ g
    omega

theorem addr_zero (ad : Addr) : ad.add 0 = ad := by unfold Addr.add; simp

theorem last_of (ao : Option Addr) (n c : Nat) (l : List Int) (w : World) (ao' : Option Addr) (c' k : Nat) (hn : n ≤ 1000000) (hnc : n ≤ c) (hmx : max ((n : Int) - 11) 0 = (k : Int))
    (hao : (c = k ∧ ao' = ao ∧ c' = 0) ∨ (c ≠ k ∧ ao' = Option.map (fun x => x.add k) ao ∧ c' = c - k)) (hr : Row w ao' (n - k) c' 1 (c32 (tl l))) :
    Calls Tryz.prog 36 #[.slice ao n c] w fun e w' => ∃ ao' m c', m = n - k ∧ e = .returned (.slice ao' m c') ∧ Row w' ao' m c' 1 (c32 (srt l)) ∧ Below w.heap.size w w' := by
  have hC := ckclone_any ao' (n - k) c' _ w hr (by omega)
  clear hr
  obtain ⟨m, hm⟩ : ∃ m, n - k = m := ⟨_, rfl⟩
  have h12 : m ≤ 12 := by omega
  rcases hao with ⟨rfl, rfl, rfl⟩ | ⟨hck, hao, rfl⟩
  · have hk0 : n = 0 ∧ c = 0 := by omega
    obtain ⟨rfl, rfl⟩ := hk0
    have hm0 : 0 = m := by omega
    have HM := Lib.hid hm
    subst hm0
    have HC := Lib.hid hC
    clear hC hm
    go_enter Tryz.func36, Tryz.ntmps36
    go_wp2_with (first | (go_at_call 47; (with_reducible refine HC.out.mono ?_); rintro e w1 ⟨ao1, c1, rfl, hc1, hb1⟩; have hS := Lib.hid (sort_any w (w1.alloc (.cells #[.slice ao1 0 c1] 41)) ao1 0 c1 w1.heap.size (tl l) h12 (hb1.alloc hb1.size _) (hc1.alloc _) (by simp) hc1.lt); clear hc1 hb1) | (go_at_call 48; (with_reducible refine hS.out.mono ?_); rintro e w2 ⟨rfl, hcell, hr2, hb2⟩; replace hr2 := Lib.hid hr2))
    go_ret
    exact ⟨_, _, _, (by simp), rfl, hr2.out, hb2⟩
  · have HC := Lib.hid (show Calls Tryz.prog 47 #[.slice (Option.map (fun x => x.add k) ao) (n - k) (c - k)] w fun e w' => ∃ ao1 c1, e = .returned (.slice ao1 m c1) ∧ Cloned w.heap.size w' ao1 m c1 (c32 (tl l)) ∧ Below w.heap.size w w' by
      rw [← hm, ← hao]; exact hC)
    have HM := Lib.hid hm
    clear hao hm hC
    have hkl : (k : Int) ≤ (n : Int) := by omega
    have hkl' : (k : Int) ≤ (c : Int) := by omega
    go_enter Tryz.func36, Tryz.ntmps36
    go_wp2_with (first | (go_at_call 47; (with_reducible refine HC.out.mono ?_); rintro e w1 ⟨ao1, c1, rfl, hc1, hb1⟩; have hS := Lib.hid (sort_any w (w1.alloc (.cells #[.slice ao1 m c1] 41)) ao1 m c1 w1.heap.size (tl l) h12 (hb1.alloc hb1.size _) (hc1.alloc _) (by simp) hc1.lt); clear hc1 hb1) | (go_at_call 48; (with_reducible refine hS.out.mono ?_); rintro e w2 ⟨rfl, hcell, hr2, hb2⟩; replace hr2 := Lib.hid hr2))
    go_ret
    exact ⟨_, _, _, HM.out.symm, rfl, hr2.out, hb2⟩

theorem last_any (ao : Option Addr) (n c : Nat) (l : List Int) (w : World) (hr : Row w ao n c 1 (c32 l)) (hn : n ≤ 1000000) :
    Calls Tryz.prog 36 #[.slice ao n c] w fun e w' => ∃ ao' m c', m = min n 11 ∧ e = .returned (.slice ao' m c') ∧ Row w' ao' m c' 1 (c32 (srt l)) ∧ Below w.heap.size w w' := by
  have hnc := hr.le
  have hl := hr.len32
  by_cases h11 : n ≤ 11
  · have h := fun ao' c' hao hr => last_of ao n c l w ao' c' 0 hn hnc (by omega) hao hr
    have hd := drop_row hr h11
    rw [show n - 0 = min n 11 by omega] at h
    by_cases hc : c = 0
    · exact h ao 0 (.inl ⟨hc, rfl, rfl⟩) (by rw [hd, ← show n = min n 11 by omega, ← hc]; exact hr)
    · exact h _ _ (.inr ⟨hc, rfl, rfl⟩) (by
        rw [hd, ← show n = min n 11 by omega]
        cases ao with
        | none => exact hr
        | some ad => simp only [Option.map_some, addr_zero]; exact hr)
  · have h := fun ao' c' hao hr => last_of ao n c l w ao' c' (n - 11) hn hnc (by omega) hao hr
    rw [show n - (n - 11) = min n 11 by omega] at h
    obtain ⟨b, off, rfl⟩ := row_addr hr (by intro e; have := hr.len; rw [e] at this; simp at this; omega)
    refine h _ _ (.inr ⟨by omega, rfl, rfl⟩) ?_
    have := hr.drop (n - 11) (by omega)
    rw [c32_drop] at this
    simp only [Option.map_some, addr_add]
    unfold tl
    rw [← hl, ← show n - (n - 11) = min n 11 by omega]
    exact this
end Go.Proofs.YtlhdfmaekbnhaaaGreatDoor

/- Clock: contracts of Median, Check. -/
namespace Go.Proofs.YtlhdfmaekbnhaaaGreatDoor
set_option linter.unusedVariables false
set_option linter.unusedSimpArgs false
open Go.RowKit

set_option maxHeartbeats 400000 in
theorem median_any (ao : Option Addr) (n c : Nat) (l : List Int) (w : World) (hr : Row w ao n c 1 (c32 l)) (hn : n ≤ 1000000) :
    Calls Tryz.prog 19 #[.slice ao n c] w fun e w' => e = .returned (.int .u32 (med l)) ∧ Below w.heap.size w w' := by
  have hl := hr.len32
  have HR := Lib.hid hr
  clear hr
  have HL := Lib.hid (fun w' (h : Below w.heap.size w w') => last_any ao n c l w' (HR.out.later h) hn)
  have hs := srt_len l
  by_cases h0 : n = 0
  · subst h0
    have HM := Lib.hid (show med l = 0 by unfold med; have : srt l = [] := List.eq_nil_of_length_eq_zero (by omega); rw [this]; rfl)
    clear hl hs
    go_enter Tryz.func19, Tryz.ntmps19
    go_wp2_with (go_at_call 36; (with_reducible refine (HL.out _ (Below.refl _ _)).mono ?_); rintro e w1 ⟨ao1, m, c1, rfl, rfl, hr1, hb1⟩; replace hr1 := Lib.hid hr1; simp only [Nat.zero_min])
    go_ret
    rw [HM.out]
    exact ⟨rfl, hb1⟩
  · obtain ⟨m, hm⟩ : ∃ m, m = min n 11 := ⟨_, rfl⟩
    have hm1 : 1 ≤ m ∧ m ≤ 11 := by omega
    have HM := Lib.hid (show med l = (srt l).getD (m / 2) 0 by unfold med; rw [hs, ← hl, ← hm])
    have HS := Lib.hid hm
    clear hl hs hm
    go_enter Tryz.func19, Tryz.ntmps19
    go_wp2_with (go_at_call 36; (with_reducible refine (HL.out _ (Below.refl _ _)).mono ?_); rintro e w1 ⟨ao1, m1, c1, hm1e, rfl, hr1, hb1⟩; rw [← HS.out] at hm1e; subst hm1e; obtain ⟨b, off, rfl⟩ := row_addr hr1 (by intro h; have := hr1.len; rw [h] at this; simp at this; omega); have hc := hr1.cell32 (m1 / 2) (by omega); replace hr1 := Lib.hid hr1)
    go_ret
    rw [HM.out]
    exact ⟨by simp [List.getD], hb1⟩

def checkN (t : Int) (l : List Int) (now future : Int) : Int := if (0 < l.length ∧ t ≤ med l) ∨ bndN now + bndN future < t then 8 else 0

set_option maxHeartbeats 400000 in
theorem check_any (t : Int) (ao : Option Addr) (n c : Nat) (l : List Int) (now future : Int) (w : World) (hr : Row w ao n c 1 (c32 l)) (hn : n ≤ 1000000) (ht : 0 ≤ t ∧ t < 4294967296) :
    Calls Tryz.prog 15 #[.int .u32 t, .slice ao n c, .int .i64 now, .int .i64 future] w fun e w' => e = .returned (.int .i64 (checkN t l now future)) ∧ Below w.heap.size w w' := by
  have hl := hr.len32
  have HR := Lib.hid hr
  clear hr
  have HM := Lib.hid (fun w' (h : Below w.heap.size w w') => median_any ao n c l w' (HR.out.later h) hn)
  obtain ⟨a, ha⟩ : ∃ a, bndN now = a := ⟨_, rfl⟩
  obtain ⟨b, hb⟩ : ∃ b, bndN future = b := ⟨_, rfl⟩
  have ra := bndN_range now
  have rb := bndN_range future
  rw [ha] at ra
  rw [hb] at rb
  have HA := Lib.hid (fun w' => by have := bounded_any now w'; rwa [ha] at this)
  have HB := Lib.hid (fun w' => by have := bounded_any future w'; rwa [hb] at this)
  obtain ⟨m, hm⟩ : ∃ m, med l = m := ⟨_, rfl⟩
  have HE := Lib.hid (show checkN t l now future = if (0 < l.length ∧ t ≤ m) ∨ a + b < t then 8 else 0 by unfold checkN; rw [ha, hb, hm])
  rw [hm] at HM
  clear ha hb hm
  by_cases h0 : n = 0
  · subst h0
    by_cases h2 : a + b < t
    · have HE2 := Lib.hid (show checkN t l now future = 8 by rw [HE.out, if_pos (.inr h2)])
      clear hl
      go_enter Tryz.func15, Tryz.ntmps15
      go_wp2_with (first | (go_at_call 19; (with_reducible refine (HM.out _ (Below.refl _ _)).mono ?_); rintro e w1 ⟨rfl, hb1⟩) | (go_at_call 34; (with_reducible refine (HA.out _).mono ?_); rintro e w2 ⟨rfl, rfl⟩) | (go_at_call 34; (with_reducible refine (HB.out _).mono ?_); rintro e w2 ⟨rfl, rfl⟩))
      go_ret
      rw [HE2.out]
      exact ⟨rfl, Below.refl _ _⟩
    · have HE2 := Lib.hid (show checkN t l now future = 0 by rw [HE.out, if_neg (by omega)])
      clear hl
      go_enter Tryz.func15, Tryz.ntmps15
      go_wp2_with (first | (go_at_call 19; (with_reducible refine (HM.out _ (Below.refl _ _)).mono ?_); rintro e w1 ⟨rfl, hb1⟩) | (go_at_call 34; (with_reducible refine (HA.out _).mono ?_); rintro e w2 ⟨rfl, rfl⟩) | (go_at_call 34; (with_reducible refine (HB.out _).mono ?_); rintro e w2 ⟨rfl, rfl⟩))
      go_ret
      rw [HE2.out]
      exact ⟨rfl, Below.refl _ _⟩
  have h0' : (0 : Int) < (n : Int) := by omega
  by_cases h1 : t ≤ m
  · have HE2 := Lib.hid (show checkN t l now future = 8 by rw [HE.out, if_pos (.inl ⟨by omega, h1⟩)])
    clear hl
    go_enter Tryz.func15, Tryz.ntmps15
    go_wp2_with (first | (go_at_call 19; (with_reducible refine (HM.out _ (Below.refl _ _)).mono ?_); rintro e w1 ⟨rfl, hb1⟩) | (go_at_call 34; (with_reducible refine (HA.out _).mono ?_); rintro e w2 ⟨rfl, rfl⟩) | (go_at_call 34; (with_reducible refine (HB.out _).mono ?_); rintro e w2 ⟨rfl, rfl⟩))
    go_ret
    rw [HE2.out]
    exact ⟨rfl, hb1⟩
  by_cases h2 : a + b < t
  · have HE2 := Lib.hid (show checkN t l now future = 8 by rw [HE.out, if_pos (.inr h2)])
    clear hl
    go_enter Tryz.func15, Tryz.ntmps15
    go_wp2_with (first | (go_at_call 19; (with_reducible refine (HM.out _ (Below.refl _ _)).mono ?_); rintro e w1 ⟨rfl, hb1⟩) | (go_at_call 34; (with_reducible refine (HA.out _).mono ?_); rintro e w2 ⟨rfl, rfl⟩) | (go_at_call 34; (with_reducible refine (HB.out _).mono ?_); rintro e w2 ⟨rfl, rfl⟩))
    go_ret
    rw [HE2.out]
    exact ⟨rfl, hb1⟩
  · have HE2 := Lib.hid (show checkN t l now future = 0 by rw [HE.out, if_neg (by omega)])
    clear hl
    go_enter Tryz.func15, Tryz.ntmps15
    go_wp2_with (first | (go_at_call 19; (with_reducible refine (HM.out _ (Below.refl _ _)).mono ?_); rintro e w1 ⟨rfl, hb1⟩) | (go_at_call 34; (with_reducible refine (HA.out _).mono ?_); rintro e w2 ⟨rfl, rfl⟩) | (go_at_call 34; (with_reducible refine (HB.out _).mono ?_); rintro e w2 ⟨rfl, rfl⟩))
    go_ret
    rw [HE2.out]
    exact ⟨rfl, hb1⟩
end Go.Proofs.YtlhdfmaekbnhaaaGreatDoor

/- Clock: awake. -/
namespace Go.Proofs.YtlhdfmaekbnhaaaGreatDoor
set_option linter.unusedVariables false
set_option linter.unusedSimpArgs false
open Go.RowKit

theorem ck_then {a w w' : World} (h : Below a.heap.size a w) (k : Below w.heap.size w w') : Below a.heap.size a w' := h.trans (k.mono h.size)

theorem u32_of_wf {n : Int} (h : (Lit.int .u32 n).wf = true) : 0 ≤ n ∧ n < 4294967296 := by
  simp only [Lit.wf, Bool.and_eq_true, decide_eq_true_eq] at h
  have h1 : IntKind.u32.min = 0 := by decide
  have h2 : IntKind.u32.max = 4294967295 := by decide
  omega
theorem c32_range (f : Nat → Int) (n : Nat) : c32 ((List.range n).map f) = (List.range n).map fun i => .int .u32 (f i) := by simp [c32]

theorem lit0 (w : World) : (w.alloc (.cells #[] 22)).ownsRow w.heap.size 22 1 (.slice (some ⟨w.heap.size, 0, none⟩) 0 0) 0 [] :=
  World.ownsRow_lit w #[] 0 (Nat.le_refl _) (by unfold maxLen; omega) (by simp)

theorem med_513 : med [5, 1, 3] = 3 := by
  rw [med_of_perm (b := [1, 3, 5]) (by decide) (by decide)]
  unfold med srt
  rw [List.mergeSort_of_pairwise (by decide)]
  rfl

end Go.Proofs.YtlhdfmaekbnhaaaGreatDoor

/- Clock: the document's Same. -/
namespace Go.Proofs.YtlhdfmaekbnhaaaGreatDoor
set_option linter.unusedVariables false
set_option linter.unusedSimpArgs false
open Go.RowKit

def SameRel (w : World) (l l2 : List Int) (i : Value) (wr : World) : Prop := ∃ j : Nat, j ≤ l.length ∧ i = .int .i64 (j : Int) ∧ (∀ t, t < j → l.getD t 0 = l2.getD t 0) ∧ Below w.heap.size w wr

end Go.Proofs.YtlhdfmaekbnhaaaGreatDoor

/- Clock: Times, and the document's. -/
namespace Go.Proofs.YtlhdfmaekbnhaaaGreatDoor
set_option linter.unusedVariables false
set_option linter.unusedSimpArgs false
open Go.RowKit

/-- make([]uint32, n) -/
theorem wpList_make32 {P : Program} {T E : TypeId} (he : Elt P T E (.int .u32 0) 1 4) (w : World) {ops : Array Oper} {rest : List Oper} {o : Oper} {a : Act} {Q : Exit → Act → World → Prop} (hgd : o.guard = none) (l : Operand) (hop : o.op = Op.makeSlice T l l)
    (n : Nat) (hl : a.eval l = .int .i64 (n : Int)) (hn : n ≤ 1000000)
    (h : ∀ w', w'.ownsRow w.heap.size E 1 (.slice (some ⟨w.heap.size, 0, none⟩) n n) n (c32 (List.replicate n 0)) → w.grownBy w' none → wpList P ops Q rest (a.put o.dst (.slice (some ⟨w.heap.size, 0, none⟩) n n)) w') : wpList P ops Q (o :: rest) a w := by
  obtain ⟨i, hi, hz0, hz1, hz2⟩ := info_parts he.hi
  refine wpList_make_full w hgd l l T hop w.heap.size E i (.int .u32 0) 1 he.ht hi hz0 hz1 .i64 .i64 n n n hl hl rfl rfl (by rw [hz2]; omega) (by unfold maxLen; omega) (Nat.le_refl _) fun w' h1 h2 => h w' ?_ h2
  have e : (madeCells (Value.cells (.int .u32 0)) (n * 1)).toList = c32 (List.replicate n 0) := by
    rw [show (Value.cells (.int .u32 0)) = #[Value.int .u32 0] from rfl, toList_madeCells_one, Nat.mul_one]
    simp [c32]
  rw [← e]
  exact h1

/-- the times of n headers -/
def timesN (τ : Nat → Int) (n : Nat) : List Int := (List.range n).map τ
/-- The cells of each are a header's, whose time is τ. -/
def Heads (X : Nat → List Value) (n : Nat) (τ : Nat → Int) : Prop := ∀ i, i < n → (X i)[65]? = some (.int .u32 (τ i)) ∧ ∀ u ∈ X i, u.oneCell' = true

noncomputable def ckzH : Array Value := (((Tryz.prog.info? 30).bind (·.zero)).getD undef).cells
theorem ckzH_size : ckzH.size = 68 := by kernel_rfl

theorem ckzero_hdr (w : World) : (zeroValue 30).run Tryz.prog w = .ok (.agg ckzH) w := by kernel_rfl

theorem ckstore_hdr (wr : World) (xs : List Value) (hl : xs.length = 68) (h1 : ∀ u ∈ xs, u.oneCell' = true) :
    (storeCells ⟨wr.heap.size, 0, none⟩ xs).run Tryz.prog (wr.alloc (.cells ckzH 30)) = .ok () ((wr.alloc (.cells ckzH 30)).setRow wr.heap.size xs.toArray) := by
  have := run_storeCells_at Tryz.prog wr.heap.size 0 30 xs 0 ckzH (wr.alloc (.cells ckzH 30)) (heap_alloc_new wr _) (by rw [ckzH_size]; omega) h1
  rw [this, Nat.zero_add, List.take_zero, List.nil_append, List.drop_of_length_le (by rw [Array.length_toList, ckzH_size]; omega), List.append_nil]

def TmRel (w : World) (n : Nat) (τ : Nat → Int) (g : Nat) (i : Value) (wr : World) : Prop :=
  ∃ j : Nat, j ≤ n ∧ i = .int .i64 (j : Int) ∧ wr.ownsRow w.heap.size 22 1 (.slice (some ⟨g, 0, none⟩) n n) n (c32 (timesN τ j ++ List.replicate (n - j) 0)) ∧ Below w.heap.size w wr

theorem ownsRow_of {w w' : World} {B : Nat} {E : TypeId} {sz g n cap : Nat} {xs : List Value} (h : w.ownsRow B E sz (.slice (some ⟨g, 0, none⟩) n cap) n xs) (hh : w'.heap[g]? = w.heap[g]?) : w'.ownsRow B E sz (.slice (some ⟨g, 0, none⟩) n cap) n xs := by
  refine ⟨h.1, ?_⟩
  rcases h.2 with h0 | ⟨g', cap', cur, hv, hB, hg, hrest⟩
  · exact .inl h0
  · have hv' := hv
    simp only [Value.slice.injEq, Option.some.injEq, Addr.mk.injEq, and_true, true_and] at hv'
    obtain ⟨rfl, rfl⟩ := hv'
    exact .inr ⟨g, cap, cur, rfl, hB, hh.trans hg, hrest⟩

theorem tm_set (τ : Nat → Int) (n j : Nat) (h : j < n) : (c32 (timesN τ j ++ List.replicate (n - j) 0)).set j (.int .u32 (τ j)) = c32 (timesN τ (j + 1) ++ List.replicate (n - (j + 1)) 0) := by
  have hl : (timesN τ j).length = j := by simp [timesN]
  obtain ⟨k, hk⟩ : ∃ k, n - j = k + 1 := ⟨n - j - 1, by omega⟩
  rw [hk, show n - (j + 1) = k by omega, List.replicate_succ, show timesN τ (j + 1) = timesN τ j ++ [τ j] by simp [timesN, List.range_succ]]
  unfold c32
  rw [List.map_append, List.set_append_right _ _ (by simp [hl]), List.length_map, hl, Nat.sub_self]
  simp

set_option maxRecDepth 100000 in
set_option maxHeartbeats 1000000 in
theorem times_any (ao : Option Addr) (n c : Nat) (X : Nat → List Value) (τ : Nat → Int) (w : World) (hr : SRow w ao n c 68 X) (hX : Heads X n τ) (hn : n ≤ 1000) :
    Calls Tryz.prog 16 #[.slice ao n c] w fun e w' => ∃ bo c', e = .returned (.slice bo n c') ∧ Row w' bo n c' 1 (c32 (timesN τ n)) ∧ Below w.heap.size w w' := by
  have hnc := hr.le
  have HR := Lib.hid hr
  have HX := Lib.hid hX
  clear hr hX
  go_enter Tryz.func16, Tryz.ntmps16
  go_wp2_with (refine wpList_make32 eltU32 _ rfl (.tmp 7) rfl n rfl (by omega) ?_; intro w1 hown hgrow; have hb1 := below_grown (Below.refl w.heap.size w) hgrow (fun _ h => by cases h); replace hown := Lib.hid hown)
  clear hgrow
  go_loopw [11] (fun i wr => TmRel w n τ w.heap.size i wr) (fun i _ => n - (intOf i).toNat)
  case atStart => exact ⟨0, by omega, rfl, by simpa [timesN] using hown.out, hb1⟩
  case round =>
    clear hb1 hown
    obtain ⟨j, hj, rfl, hown, hb1⟩ := hrel
    have HO := Lib.hid hown
    clear hown
    by_cases hlt : j < n
    · obtain ⟨b, off, rfl⟩ := HR.out.addr (by decide) (by omega)
      have hjn : (j : Int) < (n : Int) := by omega
      obtain ⟨xs, hxs⟩ : ∃ xs, X j = xs := ⟨_, rfl⟩
      have hl : xs.length = 68 := by rw [← hxs]; exact HR.out.len j hlt
      have ht : xs[65]? = some (.int .u32 (τ j)) ∧ ∀ u ∈ xs, u.oneCell' = true := by rw [← hxs]; exact HX.out j hlt
      have hc := (HR.out.later (by decide) hb1).cells _ rfl j hlt
      rw [hxs] at hc
      have HC := Lib.hid (show wr.rangeAt b (off + j * 68) xs from fun k v hk => by rw [Nat.add_assoc]; exact (hc k v hk).2)
      have HL := Lib.hid hl
      have HT := Lib.hid ht
      clear hxs hl ht hc
      have hz := ckzero_hdr wr
      have hst := ckstore_hdr wr xs HL.out HT.out.2
      have hl := HL.out
      have hx65 : ((wr.alloc (.cells ckzH 30)).setRow wr.heap.size xs.toArray).cell? ⟨wr.heap.size, 65, none⟩ = some (.int .u32 (τ j)) := by
        rw [cell_setRow_same _ _ _ _ _ _ _ (heap_alloc_new wr _)]
        simpa using HT.out.1
      have hO2 := Lib.hid (ownsRow_of HO.out (w' := (wr.alloc (.cells ckzH 30)).setRow wr.heap.size xs.toArray) (by
        have := HO.out.lt w.heap.size rfl
        rw [setRow_other _ _ _ _ (by omega)]
        exact (below_alloc wr (.cells ckzH 30)).block _ this.2))
      have hcg := hO2.out.cellAt j (by omega)
      obtain ⟨u0, hu0⟩ : ∃ u, (c32 (timesN τ j ++ List.replicate (n - j) 0))[j]? = some u := ⟨_, List.getElem?_eq_getElem (by simp [c32, timesN]; omega)⟩
      rw [hu0] at hcg
      have hfg := hO2.out.frozenAt j
      have hB2 : Below w.heap.size w ((wr.alloc (.cells ckzH 30)).setRow wr.heap.size xs.toArray) := by
        refine below_setRow (hb1.alloc hb1.size _) hb1.size _
      obtain ⟨W, hW⟩ : ∃ W, (wr.alloc (.cells ckzH 30)).setRow wr.heap.size xs.toArray = W := ⟨_, rfl⟩
      rw [hW] at hst hx65 hO2 hcg hfg hB2
      clear hW
      go_wp2_with (first | (refine Go.wpList_load_mid rfl 30 (.tmp 14) rfl b (off + j * 68) rfl xs _ HC.out Tryz.underlying30 rfl (by rw [HL.out]; kernel_rfl) ?_) | fail)
      go_roundw
      case rel =>
        refine ⟨j + 1, by omega, by go_num, ?_, hB2.setCell (Nat.le_refl _) _⟩
        rw [← tm_set τ n j hlt]
        exact (hO2.out.stored j (.int .u32 (τ j))).1
      case measure => simp [intOf]; omega
    · have hjn : j = n := by omega
      subst hjn
      go_wp2
      go_ret
      exact ⟨_, _, rfl, row_own (by have := HO.out; rwa [Nat.sub_self, List.replicate_zero, List.append_nil] at this) (c32_one _), hb1⟩
end Go.Proofs.YtlhdfmaekbnhaaaGreatDoor
