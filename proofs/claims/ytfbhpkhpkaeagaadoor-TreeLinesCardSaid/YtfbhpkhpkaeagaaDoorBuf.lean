/- A row of bytes of one's own that a loop fills by stores. -/
import Derived.Test.YtfbhpkhpkaeagaaDoorBase
namespace Go.Proofs.YtfbhpkhpkaeagaaDoor
set_option linter.unusedVariables false
set_option linter.unusedSimpArgs false
open Go.RowKit

theorem bl_then {a w w' : World} (h : Below a.heap.size a w) (k : Below w.heap.size w w') : Below a.heap.size a w' := h.trans (k.mono h.size)
theorem bl_al {a w : World} (h : Below a.heap.size a w) (o : Obj) : Below a.heap.size a (w.alloc o) := h.alloc h.size o
def setF (f : Nat → Int) (j : Nat) (v : Int) : Nat → Int := fun i => if i = j then v else f i
theorem bcells_set (f : Nat → Int) (n j : Nat) (v : Int) : (bcells f n).set j (.int .u8 v) = bcells (setF f j v) n := by
  apply List.ext_getElem
  · simp [bcells]
  · intro i h1 h2
    simp only [bcells, List.getElem_set, List.getElem_map, List.getElem_range, setF]
    split
    · rename_i h; subst h; simp
    · rename_i h; rw [if_neg (Ne.symm h)]
theorem bcells_congr {f g : Nat → Int} {n : Nat} (h : ∀ i, i < n → f i = g i) : bcells f n = bcells g n := by
  simp only [bcells]
  exact List.map_congr_left fun i hi => by rw [h i (List.mem_range.1 hi)]
theorem bnums_congr {f g : Nat → Int} {n : Nat} (h : ∀ i, i < n → f i = g i) : bnums f n = bnums g n := by
  simp only [bnums]
  exact List.map_congr_left fun i hi => by rw [h i (List.mem_range.1 hi)]
theorem bcells_zero (n : Nat) : List.replicate n (Value.int .u8 0) = bcells (fun _ => 0) n := by
  apply List.ext_getElem
  · simp [bcells]
  · intro i h1 h2
    simp [bcells]

/-- a row of n bytes of one's own -/
def Own (w : World) (B : Nat) (E : TypeId) (g n cap : Nat) (f : Nat → Int) : Prop := w.ownsRow B E 1 (.slice (some ⟨g, 0, none⟩) n cap) n (bcells f n)
theorem Own.cell {w : World} {B : Nat} {E : TypeId} {g n cap : Nat} {f : Nat → Int} (h : Own w B E g n cap f) (j : Nat) (hj : j < n) : w.cell? ⟨g, j, none⟩ = some (.int .u8 (f j)) := by
  rw [World.ownsRow.cellAt h j (by omega), bcells_get f n j hj]
theorem Own.frozen {w : World} {B : Nat} {E : TypeId} {g n cap : Nat} {f : Nat → Int} (h : Own w B E g n cap f) (j : Nat) : w.frozen? ⟨g, j, none⟩ = false := World.ownsRow.frozenAt h j
theorem Own.set {w : World} {B : Nat} {E : TypeId} {g n cap : Nat} {f : Nat → Int} (h : Own w B E g n cap f) (j : Nat) (v : Int) : Own (w.setCell ⟨g, j, none⟩ (.int .u8 v)) B E g n cap (setF f j v) := by
  have := (World.ownsRow.stored h j (.int .u8 v)).1
  rwa [bcells_set] at this
theorem Own.ge {w : World} {B : Nat} {E : TypeId} {g n cap : Nat} {f : Nat → Int} (h : Own w B E g n cap f) : B ≤ g ∧ g < w.heap.size := World.ownsRow.lt h g rfl
theorem Own.row {w : World} {B : Nat} {E : TypeId} {g n cap : Nat} {f : Nat → Int} (h : Own w B E g n cap f) : Row w (some ⟨g, 0, none⟩) n cap 1 (bcells f n) := row_own h (bcells_one f n)
theorem Own.congr {w : World} {B : Nat} {E : TypeId} {g n cap : Nat} {f f' : Nat → Int} (h : Own w B E g n cap f) (hf : ∀ i, i < n → f i = f' i) : Own w B E g n cap f' := by
  unfold Own
  rw [← bcells_congr hf]
  exact h
theorem own_made {w : World} {B : Nat} {E : TypeId} {g n cap : Nat} (h : w.ownsRow B E 1 (.slice (some ⟨g, 0, none⟩) n cap) n (madeCells (Value.cells (.int .u8 0)) (n * 1)).toList) : Own w B E g n cap (fun _ => 0) := by
  unfold Own
  rw [← bcells_zero]
  have e : (madeCells (Value.cells (.int .u8 0)) (n * 1)).toList = List.replicate n (Value.int .u8 0) := by
    rw [show (Value.cells (.int .u8 0)) = #[Value.int .u8 0] from rfl, toList_madeCells_one, Nat.mul_one]
  rw [← e]
  exact h

/-- make([]byte, n) -/
theorem wpList_makeB {P : Program} {T E : TypeId} (he : Elt P T E (.int .u8 0) 1 1) (w : World) {ops : Array Oper} {rest : List Oper} {o : Oper} {a : Act} {Q : Exit → Act → World → Prop} (hgd : o.guard = none) (l : Operand) (hop : o.op = Op.makeSlice T l l)
    (n : Nat) (hl : a.eval l = .int .i64 (n : Int)) (hn : n ≤ 281474976710656)
    (h : ∀ w', Own w' w.heap.size E w.heap.size n n (fun _ => 0) → w.grownBy w' none → wpList P ops Q rest (a.put o.dst (.slice (some ⟨w.heap.size, 0, none⟩) n n)) w') : wpList P ops Q (o :: rest) a w := by
  obtain ⟨i, hi, hz0, hz1, hz2⟩ := info_parts he.hi
  exact wpList_make_full w hgd l l T hop w.heap.size E i (.int .u8 0) 1 he.ht hi hz0 hz1 .i64 .i64 n n n hl hl rfl rfl (by rw [hz2]; omega) (by unfold maxLen; omega) (Nat.le_refl _) fun w' h1 h2 => h w' (own_made h1) h2
end Go.Proofs.YtfbhpkhpkaeagaaDoor
