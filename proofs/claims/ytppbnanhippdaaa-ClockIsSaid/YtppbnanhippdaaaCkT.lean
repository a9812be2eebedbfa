/- Clock: Times, and the document's. -/
import Derived.Test.YtppbnanhippdaaaCkS
import Derived.Test.YtppbnanhippdaaaOpen2
import Derived.Deep.MidRow
import Derived.Great.Walk
import Derived.Laws.Tables
import Derived.Laws.CopyRow
import Derived.Laws.CopyOwn
namespace Go.Proofs.Ytppbnanhippdaaa
set_option linter.unusedVariables false
set_option linter.unusedSimpArgs false
open Go.RowKit

/-- make([]uint32, n) -/
theorem wpList_make32 {P : Program} {T E : TypeId} (he : Elt P T E (.int .u32 0) 1 4) (w : World) {ops : Array Oper} {rest : List Oper} {o : Oper} {a : Act} {Q : Exit → Act → World → Prop} (hgd : o.guard = none) (l : Operand) (hop : o.op = Op.makeSlice T l l)
    (n : Nat) (hl : a.eval l = .int .i64 (n : Int)) (hn : n ≤ 1000000)
    (h : ∀ w', w'.ownsRow w.heap.size E 1 (.slice (some ⟨w.heap.size, 0, none⟩) n n) n (c32 (List.replicate n 0)) → w.grownBy w' none → wpList P ops Q rest (a.put o.dst (.slice (some ⟨w.heap.size, 0, none⟩) n n)) w') : wpList P ops Q (o :: rest) a w := by
  obtain ⟨i, hi, hz0, hz1, hz2⟩ := info_parts he.hi
  refine wpList_make_full w hgd l l T hop w.heap.size E i (.int .u32 0) 1 he.ht hi hz0 hz1 .i64 .i64 n n n hl hl rfl rfl (by rw [hz2]; omega) (by unfold maxLen; omega) (Nat.le_refl _) fun w' h1 h2 => h w' ?_ h2
  have e : (madeCells (Value.cells (.int .u32 0)) (n * 1)).toList = c32 (List.replicate n 0) := by
    rw [show (Value.cells (.int .u32 0)) = #[Value.int .u32 0] from rfl, toList_madeCells_one, Nat.mul_one]
    simp [c32]
  rw [← e]
  exact h1

/-- the times of n headers -/
def timesN (τ : Nat → Int) (n : Nat) : List Int := (List.range n).map τ
/-- The cells of each are a header's, whose time is τ. -/
def Heads (X : Nat → List Value) (n : Nat) (τ : Nat → Int) : Prop := ∀ i, i < n → (X i)[65]? = some (.int .u32 (τ i)) ∧ ∀ u ∈ X i, u.oneCell' = true

noncomputable def zH : Array Value := (((Try.prog.info? 41).bind (·.zero)).getD undef).cells
theorem zH_size : zH.size = 68 := by kernel_rfl

theorem zero_hdr (w : World) : (zeroValue 41).run Try.prog w = .ok (.agg zH) w := by kernel_rfl

theorem store_hdr (wr : World) (xs : List Value) (hl : xs.length = 68) (h1 : ∀ u ∈ xs, u.oneCell' = true) :
    (storeCells ⟨wr.heap.size, 0, none⟩ xs).run Try.prog (wr.alloc (.cells zH 41)) = .ok () ((wr.alloc (.cells zH 41)).setRow wr.heap.size xs.toArray) := by
  have := run_storeCells_at Try.prog wr.heap.size 0 41 xs 0 zH (wr.alloc (.cells zH 41)) (heap_alloc_new wr _) (by rw [zH_size]; omega) h1
  rw [this, Nat.zero_add, List.take_zero, List.nil_append, List.drop_of_length_le (by rw [Array.length_toList, zH_size]; omega), List.append_nil]

def TmRel (w : World) (n : Nat) (τ : Nat → Int) (g : Nat) (i : Value) (wr : World) : Prop :=
  ∃ j : Nat, j ≤ n ∧ i = .int .i64 (j : Int) ∧ wr.ownsRow w.heap.size 22 1 (.slice (some ⟨g, 0, none⟩) n n) n (c32 (timesN τ j ++ List.replicate (n - j) 0)) ∧ Below w.heap.size w wr

theorem ownsRow_of {w w' : World} {B : Nat} {E : TypeId} {sz g n cap : Nat} {xs : List Value} (h : w.ownsRow B E sz (.slice (some ⟨g, 0, none⟩) n cap) n xs) (hh : w'.heap[g]? = w.heap[g]?) : w'.ownsRow B E sz (.slice (some ⟨g, 0, none⟩) n cap) n xs := by
  refine ⟨h.1, ?_⟩
  rcases h.2 with h0 | ⟨g', cap', cur, hv, hB, hg, hrest⟩
  · exact .inl h0
  · have hv' := hv
    simp only [Value.slice.injEq, Option.some.injEq, Addr.mk.injEq, and_true, true_and] at hv'
    obtain ⟨rfl, rfl⟩ := hv'
    exact .inr ⟨g, cap, cur, rfl, hB, hh.trans hg, hrest⟩

theorem tm_set (τ : Nat → Int) (n j : Nat) (h : j < n) : (c32 (timesN τ j ++ List.replicate (n - j) 0)).set j (.int .u32 (τ j)) = c32 (timesN τ (j + 1) ++ List.replicate (n - (j + 1)) 0) := by
  have hl : (timesN τ j).length = j := by simp [timesN]
  obtain ⟨k, hk⟩ : ∃ k, n - j = k + 1 := ⟨n - j - 1, by omega⟩
  rw [hk, show n - (j + 1) = k by omega, List.replicate_succ, show timesN τ (j + 1) = timesN τ j ++ [τ j] by simp [timesN, List.range_succ]]
  unfold c32
  rw [List.map_append, List.set_append_right _ _ (by simp [hl]), List.length_map, hl, Nat.sub_self]
  simp

set_option maxRecDepth 100000 in
set_option maxHeartbeats 1000000 in
theorem times_any (ao : Option Addr) (n c : Nat) (X : Nat → List Value) (τ : Nat → Int) (w : World) (hr : SRow w ao n c 68 X) (hX : Heads X n τ) (hn : n ≤ 1000) :
    Calls Try.prog 16 #[.slice ao n c] w fun e w' => ∃ bo c', e = .returned (.slice bo n c') ∧ Row w' bo n c' 1 (c32 (timesN τ n)) ∧ Below w.heap.size w w' := by
  have hnc := hr.le
  have HR := Lib.hid hr
  have HX := Lib.hid hX
  clear hr hX
  go_enter Try.func16, Try.ntmps16
  go_wp2_with (refine wpList_make32 eltU32 _ rfl (.tmp 7) rfl n rfl (by omega) ?_; intro w1 hown hgrow; have hb1 := below_grown (Below.refl w.heap.size w) hgrow (fun _ h => by cases h); replace hown := Lib.hid hown)
  clear hgrow
  go_loopw [11] (fun i wr => TmRel w n τ w.heap.size i wr) (fun i _ => n - (intOf i).toNat)
  case atStart => exact ⟨0, by omega, rfl, by simpa [timesN] using hown.out, hb1⟩
  case round =>
    clear hb1 hown
    obtain ⟨j, hj, rfl, hown, hb1⟩ := hrel
    have HO := Lib.hid hown
    clear hown
    by_cases hlt : j < n
    · obtain ⟨b, off, rfl⟩ := HR.out.addr (by decide) (by omega)
      have hjn : (j : Int) < (n : Int) := by omega
      obtain ⟨xs, hxs⟩ : ∃ xs, X j = xs := ⟨_, rfl⟩
      have hl : xs.length = 68 := by rw [← hxs]; exact HR.out.len j hlt
      have ht : xs[65]? = some (.int .u32 (τ j)) ∧ ∀ u ∈ xs, u.oneCell' = true := by rw [← hxs]; exact HX.out j hlt
      have hc := (HR.out.later (by decide) hb1).cells _ rfl j hlt
      rw [hxs] at hc
      have HC := Lib.hid (show wr.rangeAt b (off + j * 68) xs from fun k v hk => by rw [Nat.add_assoc]; exact (hc k v hk).2)
      have HL := Lib.hid hl
      have HT := Lib.hid ht
      clear hxs hl ht hc
      have hz := zero_hdr wr
      have hst := store_hdr wr xs HL.out HT.out.2
      have hl := HL.out
      have hx65 : ((wr.alloc (.cells zH 41)).setRow wr.heap.size xs.toArray).cell? ⟨wr.heap.size, 65, none⟩ = some (.int .u32 (τ j)) := by
        rw [cell_setRow_same _ _ _ _ _ _ _ (heap_alloc_new wr _)]
        simpa using HT.out.1
      have hO2 := Lib.hid (ownsRow_of HO.out (w' := (wr.alloc (.cells zH 41)).setRow wr.heap.size xs.toArray) (by
        have := HO.out.lt w.heap.size rfl
        rw [setRow_other _ _ _ _ (by omega)]
        exact (below_alloc wr (.cells zH 41)).block _ this.2))
      have hcg := hO2.out.cellAt j (by omega)
      obtain ⟨u0, hu0⟩ : ∃ u, (c32 (timesN τ j ++ List.replicate (n - j) 0))[j]? = some u := ⟨_, List.getElem?_eq_getElem (by simp [c32, timesN]; omega)⟩
      rw [hu0] at hcg
      have hfg := hO2.out.frozenAt j
      have hB2 : Below w.heap.size w ((wr.alloc (.cells zH 41)).setRow wr.heap.size xs.toArray) := by
        refine below_setRow (hb1.alloc hb1.size _) hb1.size _
      obtain ⟨W, hW⟩ : ∃ W, (wr.alloc (.cells zH 41)).setRow wr.heap.size xs.toArray = W := ⟨_, rfl⟩
      rw [hW] at hst hx65 hO2 hcg hfg hB2
      clear hW
      go_wp2_with (first | (refine Go.wpList_load_mid rfl 41 (.tmp 14) rfl b (off + j * 68) rfl xs _ HC.out Try.underlying41 rfl (by rw [HL.out]; kernel_rfl) ?_) | fail)
      go_roundw
      case rel =>
        refine ⟨j + 1, by omega, by go_num, ?_, hB2.setCell (Nat.le_refl _) _⟩
        rw [← tm_set τ n j hlt]
        exact (hO2.out.stored j (.int .u32 (τ j))).1
      case measure => simp [intOf]; omega
    · have hjn : j = n := by omega
      subst hjn
      go_wp2
      go_ret
      exact ⟨_, _, rfl, row_own (by have := HO.out; rwa [Nat.sub_self, List.replicate_zero, List.append_nil] at this) (c32_one _), hb1⟩
end Go.Proofs.Ytppbnanhippdaaa
