/- Clock: contract of Last: slices.Clone, then sort.Slice by the library's contract. -/
import Derived.Test.YtppbnanhippdaaaCk1
import Derived.Test.YtppbnanhippdaaaShelf
import Derived.Lib.OwnBridge
import Derived.Sort.LotA
namespace Go.Proofs.Ytppbnanhippdaaa
set_option linter.unusedVariables false
set_option linter.unusedSimpArgs false
open Go.RowKit Go.Shelf Go.Lib Go.Sort

noncomputable def siT : TypeInfo := (Try.prog.info? 23).get (by kernel_rfl)
noncomputable def siE : TypeInfo := (Try.prog.info? 22).get (by kernel_rfl)
theorem siK (n : Nat) (h2 : 2 ≤ n) : Lib.swapperK n siE 10 = 6 := by
  have a : siE.hasPointers = false := by kernel_rfl
  have b : siE.bytes = 4 := by kernel_rfl
  have c : (n == 0) = false := by simp; omega
  have d : (n == 1) = false := by simp; omega
  simp [Lib.swapperK, a, b, c, d]

theorem ints_sorted_eq (d d' : Array Int) (hp : PermIn 0 d.size d d') (hs : SortedIn ltInt 0 d.size d') : d' = (d.toList.mergeSort le2).toArray := by
  have h := sorted_unique_holds (lt := ltInt) swo_ltInt (fun x y h1 h2 => by simp only [ltInt, decide_eq_false_iff_not] at h1 h2; omega) d d' hp hs
  have e : (fun x y : Int => !ltInt y x) = le2 := by
    funext x y
    simp only [ltInt, le2]
    by_cases h : x ≤ y
    · first | (simp [h]; done) | (simp [h]; omega)
    · first | (simp [h]; done) | (simp [h]; omega)
  rw [e] at h
  rw [← h]

theorem ms_short (l : List Int) (h : l.length ≤ 1) : l.mergeSort le2 = l := by
  match l, h with
  | [], _ => simp
  | [x], _ => simp
  | x :: y :: r, h => simp at h

/-- 2 to 12 elements of a row of the call's own, boxed: behind sort.Slice the row is sorted. -/
theorem sort_own (w0 w : World) (g c Bs : Nat) (d : List Int) (h2 : 2 ≤ d.length) (h12 : d.length ≤ 12) (hB : Below w0.heap.size w0 w) (hO : w.ownsRow w0.heap.size 22 1 (.slice (some ⟨g, 0, none⟩) d.length c) d.length (c32 d))
    (hs : w.cell? ⟨Bs, 0, none⟩ = some (.slice (some ⟨g, 0, none⟩) d.length c)) (hne : Bs ≠ g) :
    Calls Try.prog 19 #[.iface 23 (.slice (some ⟨g, 0, none⟩) d.length c), .func (.func 20) #[] #[.pointer (some ⟨Bs, 0, none⟩)]] w fun e w' =>
      e = .returned (.tuple #[]) ∧ w'.cell? ⟨Bs, 0, none⟩ = some (.slice (some ⟨g, 0, none⟩) d.length c) ∧ Row w' (some ⟨g, 0, none⟩) d.length c 1 (c32 (d.mergeSort le2)) ∧ Below w0.heap.size w0 w' := by
  obtain ⟨g', cap', hv, hbg, hlt, _, _, _, hH⟩ := holds_of_ownsRow (enc := Value.int .u32) (zs := d) hO (by intro h; cases h)
  simp only [Value.slice.injEq, Option.some.injEq, Addr.mk.injEq, and_true, true_and] at hv
  obtain ⟨rfl, rfl⟩ := hv
  have hBl : Bs < w.heap.size := World.block_lt_of_cell? w ⟨Bs, 0, none⟩ hs
  have hsz : d.toArray.size = d.length := by simp
  have hless : LessReads Try.prog 20 #[.pointer (some ⟨Bs, 0, none⟩)] (Value.int .u32) ltInt g 0 d.toArray.size w := by
    intro m os dk hs' i j hi hj
    have e : sortWorld (Value.int .u32) w g 0 m dk os = putRow (Value.int .u32) (grow (Sort.ahead w m) os) g 0 dk := by
      unfold sortWorld; rw [putRow_grow _ (Sort.ahead w m) _ g 0 _ hlt]
    have hHg : Holds (Value.int .u32) (grow (Sort.ahead w m) os) g 0 d.toArray := holds_grow _ _ _ g 0 d.toArray hlt (holds_ahead _ _ _ _ _ _ hH)
    refine less_any g 0 c Bs d.toArray.size _ (fun t => dk[t]!) ?_ (fun t ht => ?_) i j hi hj
    · rw [e, cell?_putRow_other _ _ g 0 dk _ (Or.inl hne), cell?_grow _ _ _ (by exact hBl), hsz]
      exact hs
    · rw [e]; exact cell?_putRow _ _ g 0 d.toArray dk hHg hs' t (by omega)
  have hS := Any.sort_Slice_small_sorted Try.laysGg6 23 22 siT siE (by kernel_rfl) (by kernel_rfl) (by kernel_rfl) (by kernel_rfl) 10 (fun _ => by kernel_rfl) (by kernel_rfl) (fun _ => by kernel_rfl) (Value.int .u32) (fun _ => rfl) ltInt swo_ltInt 20 _
    (enters_of Try.func20 (by kernel_rfl) rfl) g 0 c d.toArray (by rw [hsz]; exact h2) (by rw [hsz]; exact h12) 32 (by rw [siK _ (by rw [hsz]; exact h2)]; kernel_rfl) true
    (fun args W => run_callFunc_extern Try.func32 (by kernel_rfl) (by kernel_rfl) (by kernel_rfl) (e := Extern.ReflectliteSwapper.swap true) (by kernel_rfl) args W) w hless hH hlt
  change Calls Try.prog 19 _ _ _ at hS
  rw [hsz] at hS
  refine hS.mono ?_
  rintro e w' ⟨rfl, d', n, os, hp, hso, rfl⟩
  have hp' : PermIn 0 d.toArray.size d.toArray d' := by rw [hsz]; exact hp
  have hso' : SortedIn ltInt 0 d.toArray.size d' := by rw [hsz]; exact hso
  have hd' := ints_sorted_eq d.toArray d' hp' hso'
  have hl' : (d.mergeSort le2).length = d.length := List.length_mergeSort _
  have hd2 : d' = (d.mergeSort le2).toArray := by rw [hd']
  subst hd2
  have hP := ownsRow_putRow (enc := Value.int .u32) (q := n) (k := d.length) (ys := d.mergeSort le2) hO hl' (Nat.le_refl _)
  rw [List.take_of_length_le (by omega)] at hP
  have hR := row_own hP (c32_one (d.mergeSort le2))
  have hbp := below_putRow (enc := Value.int .u32) (q := n) (d := (d.mergeSort le2).toArray) hB hbg
  have hbg2 : Below (putRow (Value.int .u32) (Sort.ahead w n) g 0 (d.mergeSort le2).toArray).heap.size (putRow (Value.int .u32) (Sort.ahead w n) g 0 (d.mergeSort le2).toArray) (grow (putRow (Value.int .u32) (Sort.ahead w n) g 0 (d.mergeSort le2).toArray) os) := by
    refine ⟨rfl, rfl, rfl, by simp, fun k hk => heap_grow_old _ os hk⟩
  refine ⟨rfl, ?_, hR.later hbg2, hbp.trans (hbg2.mono hbp.size)⟩
  rw [cell?_grow _ _ _ (by rw [size_putRow]; exact hBl), cell?_putRow_other _ _ g 0 _ _ (Or.inl hne)]
  exact hs

theorem cloned_row {B : Nat} {w : World} {ao : Option Addr} {n c : Nat} {d : List Int} (h : Cloned B w ao n c (c32 d)) : Row w ao n c 1 (c32 d) := by
  rcases h with ⟨rfl, rfl, rfl, hx⟩ | ⟨g, rfl, h⟩
  · rw [hx]; exact row_nil w 1
  · exact row_own h (c32_one d)
theorem Cloned.alloc {B : Nat} {w : World} {ao : Option Addr} {n c : Nat} {xs : List Value} (h : Cloned B w ao n c xs) (o : Obj) : Cloned B (w.alloc o) ao n c xs := by
  rcases h with h | ⟨g, h1, h2⟩
  · exact .inl h
  · exact .inr ⟨g, h1, h2.alloc o⟩

theorem swapK_tiny (n : Nat) (h1 : n ≤ 1) : Lib.swapperK n siE 10 = n + 1 := by
  rcases Nat.eq_zero_or_pos n with h | h
  · subst h; simp [Lib.swapperK]
  · obtain rfl : n = 1 := by omega
    simp [Lib.swapperK]

theorem sort_any (w0 w : World) (ao : Option Addr) (n c Bs : Nat) (d : List Int) (h12 : n ≤ 12) (hB : Below w0.heap.size w0 w) (hC : Cloned w0.heap.size w ao n c (c32 d))
    (hs : w.cell? ⟨Bs, 0, none⟩ = some (.slice ao n c)) (hne : ∀ ad, ao = some ad → Bs ≠ ad.block) :
    Calls Try.prog 19 #[.iface 23 (.slice ao n c), .func (.func 20) #[] #[.pointer (some ⟨Bs, 0, none⟩)]] w fun e w' =>
      e = .returned (.tuple #[]) ∧ w'.cell? ⟨Bs, 0, none⟩ = some (.slice ao n c) ∧ Row w' ao n c 1 (c32 (d.mergeSort le2)) ∧ Below w0.heap.size w0 w' := by
  have hn := (cloned_row hC).len32
  by_cases h2 : 2 ≤ n
  · rcases hC with ⟨_, rfl, _⟩ | ⟨g, rfl, hO⟩
    · omega
    · subst hn
      exact sort_own w0 w g c Bs d h2 h12 hB hO hs (hne _ rfl)
  · have hS := Any.sort_Slice_tiny Try.laysGg6 23 22 siT siE (by kernel_rfl) (by kernel_rfl) (by kernel_rfl) (by kernel_rfl) 10 (fun _ => by kernel_rfl) ao n c (by omega) (27 + n) (by
      rw [swapK_tiny n (by omega)]
      rcases Nat.eq_zero_or_pos n with h | h
      · subst h; kernel_rfl
      · obtain rfl : n = 1 := by omega
        kernel_rfl) (.func 20) #[] #[.pointer (some ⟨Bs, 0, none⟩)] w
    change Calls Try.prog 19 _ _ _ at hS
    refine hS.mono ?_
    rintro e w' ⟨rfl, os, rfl⟩
    have hbg2 : Below w.heap.size w (grow w os) := ⟨rfl, rfl, rfl, by simp, fun k hk => heap_grow_old _ os hk⟩
    have hBl : Bs < w.heap.size := World.block_lt_of_cell? w ⟨Bs, 0, none⟩ hs
    refine ⟨rfl, ?_, ?_, hB.trans (hbg2.mono hB.size)⟩
    · rw [cell?_grow _ _ _ (by exact hBl)]; exact hs
    · rw [ms_short d (by omega)]
      exact (cloned_row hC).later hbg2

theorem drop_row {w : World} {ao : Option Addr} {n c : Nat} {l : List Int} (h : Row w ao n c 1 (c32 l)) (hn : n ≤ 11) : tl l = l := by
  have := h.len32
  unfold tl
  rw [show l.length - 11 = 0 by omega, List.drop_zero]

theorem Cloned.lt {B : Nat} {w : World} {ao : Option Addr} {n c : Nat} {xs : List Value} (h : Cloned B w ao n c xs) : ∀ ad, ao = some ad → w.heap.size ≠ ad.block := by
  rcases h with ⟨h, _⟩ | ⟨g, h1, h2⟩
  · intro ad ha; rw [h] at ha; cases ha
  · intro ad ha
    rw [h1] at ha
    cases ha
    have := h2.lt g rfl
    show w.heap.size ≠ g
    omega

theorem addr_zero (ad : Addr) : ad.add 0 = ad := by unfold Addr.add; simp

theorem last_of (ao : Option Addr) (n c : Nat) (l : List Int) (w : World) (ao' : Option Addr) (c' k : Nat) (hn : n ≤ 1000000) (hnc : n ≤ c) (hmx : max ((n : Int) - 11) 0 = (k : Int))
    (hao : (c = k ∧ ao' = ao ∧ c' = 0) ∨ (c ≠ k ∧ ao' = Option.map (fun x => x.add k) ao ∧ c' = c - k)) (hr : Row w ao' (n - k) c' 1 (c32 (tl l))) :
    Calls Try.prog 10 #[.slice ao n c] w fun e w' => ∃ ao' m c', m = n - k ∧ e = .returned (.slice ao' m c') ∧ Row w' ao' m c' 1 (c32 (srt l)) ∧ Below w.heap.size w w' := by
  have hC := clone_any ao' (n - k) c' _ w hr (by omega)
  clear hr
  obtain ⟨m, hm⟩ : ∃ m, n - k = m := ⟨_, rfl⟩
  have h12 : m ≤ 12 := by omega
  rcases hao with ⟨rfl, rfl, rfl⟩ | ⟨hck, hao, rfl⟩
  · have hk0 : n = 0 ∧ c = 0 := by omega
    obtain ⟨rfl, rfl⟩ := hk0
    have hm0 : 0 = m := by omega
    have HM := Lib.hid hm
    subst hm0
    have HC := Lib.hid hC
    clear hC hm
    go_enter Try.func10, Try.ntmps10
    go_wp2_with (first | (go_at_call 18; (with_reducible refine HC.out.mono ?_); rintro e w1 ⟨ao1, c1, rfl, hc1, hb1⟩; have hS := Lib.hid (sort_any w (w1.alloc (.cells #[.slice ao1 0 c1] 23)) ao1 0 c1 w1.heap.size (tl l) h12 (hb1.alloc hb1.size _) (hc1.alloc _) (by simp) hc1.lt); clear hc1 hb1) | (go_at_call 19; (with_reducible refine hS.out.mono ?_); rintro e w2 ⟨rfl, hcell, hr2, hb2⟩; replace hr2 := Lib.hid hr2))
    go_ret
    exact ⟨_, _, _, (by simp), rfl, hr2.out, hb2⟩
  · have HC := Lib.hid (show Calls Try.prog 18 #[.slice (Option.map (fun x => x.add k) ao) (n - k) (c - k)] w fun e w' => ∃ ao1 c1, e = .returned (.slice ao1 m c1) ∧ Cloned w.heap.size w' ao1 m c1 (c32 (tl l)) ∧ Below w.heap.size w w' by
      rw [← hm, ← hao]; exact hC)
    have HM := Lib.hid hm
    clear hao hm hC
    have hkl : (k : Int) ≤ (n : Int) := by omega
    have hkl' : (k : Int) ≤ (c : Int) := by omega
    go_enter Try.func10, Try.ntmps10
    go_wp2_with (first | (go_at_call 18; (with_reducible refine HC.out.mono ?_); rintro e w1 ⟨ao1, c1, rfl, hc1, hb1⟩; have hS := Lib.hid (sort_any w (w1.alloc (.cells #[.slice ao1 m c1] 23)) ao1 m c1 w1.heap.size (tl l) h12 (hb1.alloc hb1.size _) (hc1.alloc _) (by simp) hc1.lt); clear hc1 hb1) | (go_at_call 19; (with_reducible refine hS.out.mono ?_); rintro e w2 ⟨rfl, hcell, hr2, hb2⟩; replace hr2 := Lib.hid hr2))
    go_ret
    exact ⟨_, _, _, HM.out.symm, rfl, hr2.out, hb2⟩

theorem last_any (ao : Option Addr) (n c : Nat) (l : List Int) (w : World) (hr : Row w ao n c 1 (c32 l)) (hn : n ≤ 1000000) :
    Calls Try.prog 10 #[.slice ao n c] w fun e w' => ∃ ao' m c', m = min n 11 ∧ e = .returned (.slice ao' m c') ∧ Row w' ao' m c' 1 (c32 (srt l)) ∧ Below w.heap.size w w' := by
  have hnc := hr.le
  have hl := hr.len32
  by_cases h11 : n ≤ 11
  · have h := fun ao' c' hao hr => last_of ao n c l w ao' c' 0 hn hnc (by omega) hao hr
    have hd := drop_row hr h11
    rw [show n - 0 = min n 11 by omega] at h
    by_cases hc : c = 0
    · exact h ao 0 (.inl ⟨hc, rfl, rfl⟩) (by rw [hd, ← show n = min n 11 by omega, ← hc]; exact hr)
    · exact h _ _ (.inr ⟨hc, rfl, rfl⟩) (by
        rw [hd, ← show n = min n 11 by omega]
        cases ao with
        | none => exact hr
        | some ad => simp only [Option.map_some, addr_zero]; exact hr)
  · have h := fun ao' c' hao hr => last_of ao n c l w ao' c' (n - 11) hn hnc (by omega) hao hr
    rw [show n - (n - 11) = min n 11 by omega] at h
    obtain ⟨b, off, rfl⟩ := row_addr hr (by intro e; have := hr.len; rw [e] at this; simp at this; omega)
    refine h _ _ (.inr ⟨by omega, rfl, rfl⟩) ?_
    have := hr.drop (n - 11) (by omega)
    rw [c32_drop] at this
    simp only [Option.map_some, addr_add]
    unfold tl
    rw [← hl, ← show n - (n - 11) = min n 11 by omega]
    exact this
end Go.Proofs.Ytppbnanhippdaaa
