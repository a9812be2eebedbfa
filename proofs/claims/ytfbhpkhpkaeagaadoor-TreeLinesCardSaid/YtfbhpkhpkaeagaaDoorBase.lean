/- Base: the imports that all walks of this seat want, and laws on slices in words of their own: 'Elt' (an element type's row of the table), 'Row' (a slice that reads as cells), append onto a full slice and onto one's own. -/
import Derived.Test.YtfbhpkhpkaeagaaDoorProg
import Derived.WalkKit
import Derived.WalkSpells
import Derived.WalkLawsBesides
import Derived.Outline
import Derived.Lib.Hide
import Derived.Deep.QuietTactic
import Derived.Deep.RegionHeld3
import Derived.Deep.DrawnRows
import Derived.Deep.AppendLies
import Derived.BigQuiet
namespace Go.Proofs.YtfbhpkhpkaeagaaDoor
set_option linter.unusedVariables false
set_option linter.unusedSimpArgs false
open Go.RowKit

/-- An element type's row of the program's table. -/
structure Elt (P : Program) (T E : TypeId) (z : Value) (sz wd : Nat) : Prop where
  ht : P.underlying T = some (.slice E)
  hi : (P.info? E).map (fun i => (i.zero, i.size, i.bytes)) = some (some z, sz, wd)
  hz : z.cells.size = sz
  pos : 0 < sz
  wpos : 0 < wd

/-- In w a slice of n elements (sz cells each) reads as the cells xs. -/
structure Row (w : World) (ao : Option Addr) (n c sz : Nat) (xs : List Value) : Prop where
  len : xs.length = n * sz
  le : n ≤ c
  nil : ao = none → c = 0
  cells : ∀ ad, ao = some ad → ∀ i u, xs[i]? = some u → ad.spot = none ∧ w.cell? ⟨ad.block, ad.off + i, none⟩ = some u
  one : ∀ u ∈ xs, u.oneCell' = true

theorem addr_add {ad : Addr} (h : ad.spot = none) (i : Nat) : ad.add i = ⟨ad.block, ad.off + i, none⟩ := by
  cases ad with
  | mk b o s =>
    simp at h
    subst h
    unfold Addr.add
    split
    · rename_i hi; subst hi; rfl
    · rfl

theorem Row.kept {w w' : World} {ao : Option Addr} {n c sz : Nat} {xs : List Value} (h : Row w ao n c sz xs)
    (hb : ∀ ad, ao = some ad → w'.heap[ad.block]? = w.heap[ad.block]?) : Row w' ao n c sz xs :=
  ⟨h.len, h.le, h.nil, fun ad ha i u hu => ⟨(h.cells ad ha i u hu).1, (World.cell?_of_block (a := ⟨ad.block, ad.off + i, none⟩) (hb ad ha)).trans (h.cells ad ha i u hu).2⟩, h.one⟩

theorem Row.below {w w' : World} {B : Nat} {ao : Option Addr} {n c sz : Nat} {xs : List Value} (h : Row w ao n c sz xs) (hb : Below B w w')
    (hlt : ∀ ad, ao = some ad → xs ≠ [] → ad.block < B) : Row w' ao n c sz xs :=
  ⟨h.len, h.le, h.nil, fun ad ha i u hu => ⟨(h.cells ad ha i u hu).1, by
    have hne : xs ≠ [] := by rintro rfl; simp at hu
    have hl := hlt ad ha hne
    exact (hb.cell (p := ⟨ad.block, ad.off + i, none⟩) hl).trans (h.cells ad ha i u hu).2⟩, h.one⟩

theorem Row.lt {w : World} {ao : Option Addr} {n c sz : Nat} {xs : List Value} (h : Row w ao n c sz xs) : ∀ ad, ao = some ad → xs ≠ [] → ad.block < w.heap.size := by
  intro ad ha hne
  obtain ⟨u, r, rfl⟩ := List.exists_cons_of_ne_nil hne
  exact World.block_lt_of_cell? w ⟨ad.block, ad.off + 0, none⟩ (h.cells ad ha 0 u rfl).2

theorem Row.later {w w' : World} {ao : Option Addr} {n c sz : Nat} {xs : List Value} (h : Row w ao n c sz xs) (hb : Below w.heap.size w w') : Row w' ao n c sz xs :=
  h.below hb h.lt

theorem Row.drew {w : World} {ao : Option Addr} {n c sz : Nat} {xs : List Value} (h : Row w ao n c sz xs) : Row w.drew ao n c sz xs := h.kept fun _ _ => rfl

theorem Row.alloc {w : World} {ao : Option Addr} {n c sz : Nat} {xs : List Value} (h : Row w ao n c sz xs) (o : Obj) : Row (w.alloc o) ao n c sz xs :=
  h.later ((Below.refl _ _).alloc (Nat.le_refl _) o)

theorem Row.pre {w : World} {ao : Option Addr} {n c sz : Nat} {xs : List Value} (h : Row w ao n c sz xs) (k : Nat) (hk : k ≤ n) : Row w ao k c sz (xs.take (k * sz)) :=
  ⟨by rw [List.length_take, h.len]; exact Nat.min_eq_left (Nat.mul_le_mul_right _ hk), Nat.le_trans hk h.le, h.nil,
    fun ad ha i u hu => h.cells ad ha i u (by rw [List.getElem?_take] at hu; split at hu; exact hu; cases hu), fun u hu => h.one u (List.mem_of_mem_take hu)⟩

/-- s[:len(s):len(s)] -/
theorem Row.full {w : World} {ao : Option Addr} {n c sz : Nat} {xs : List Value} (h : Row w ao n c sz xs) : Row w ao n n sz xs :=
  ⟨h.len, Nat.le_refl _, fun ha => by have := h.nil ha; have := h.le; omega, h.cells, h.one⟩

theorem row_nil (w : World) (sz : Nat) : Row w none 0 0 sz [] := ⟨by simp, Nat.le_refl _, fun _ => rfl, fun _ h => (by cases h), fun _ h => (by cases h)⟩

theorem row_own {w : World} {B : Nat} {E : TypeId} {sz g n cap : Nat} {xs : List Value} (h : w.ownsRow B E sz (.slice (some ⟨g, 0, none⟩) n cap) n xs) (h1 : ∀ u ∈ xs, u.oneCell' = true) :
    Row w (some ⟨g, 0, none⟩) n cap sz xs := by
  refine ⟨h.1, ?_, fun h => (by cases h), ?_, h1⟩
  · rcases h.2 with ⟨h0, _⟩ | ⟨g', cap', cur, hv, _, _, hn, _⟩
    · cases h0
    · simp only [Value.slice.injEq] at hv
      omega
  · intro ad ha
    simp only [Option.some.injEq] at ha
    subst ha
    intro i u hu
    refine ⟨rfl, ?_⟩
    have := h.cells (g := g) rfl i u hu
    rwa [addr_add rfl] at this

/-- A block that has just been laid. -/
theorem row_new (w : World) (cs : Array Value) (E : TypeId) (n c sz : Nat) (hl : cs.size = n * sz) (hc : n ≤ c) (h1 : ∀ u ∈ cs.toList, u.oneCell' = true) :
    Row (w.alloc (.cells cs E)) (some ⟨w.heap.size, 0, none⟩) n c sz cs.toList :=
  ⟨by simpa using hl, hc, fun h => (by cases h), fun ad ha => by
    simp only [Option.some.injEq] at ha
    subst ha
    intro i u hu
    refine ⟨rfl, ?_⟩
    have := World.news_of_block (w := w.alloc (.cells cs E)) (heap_alloc_new w _) i u hu
    rwa [addr_add rfl] at this, h1⟩

theorem ownsRow_base {w : World} {B B' : Nat} {E : TypeId} {sz : Nat} {v : Value} {n : Nat} {xs : List Value} (h : w.ownsRow B E sz v n xs) (hB : B' ≤ B) : w.ownsRow B' E sz v n xs := by
  refine ⟨h.1, ?_⟩
  rcases h.2 with h0 | ⟨g, cap, cur, hv, hb, hrest⟩
  · exact .inl h0
  · exact .inr ⟨g, cap, cur, hv, Nat.le_trans hB hb, hrest⟩

theorem bl_drewN {B : Nat} {a w : World} (h : Below B a w) (n : Nat) : Below B a (w.drewN n) := ⟨h.os, h.tape, h.output, h.size, h.block⟩
theorem below_alloc (w : World) (o : Obj) : Below w.heap.size w (w.alloc o) := (Below.refl _ _).alloc (Nat.le_refl _) o

/-- what is new behind a step that lays new blocks, or writes to one that is new -/
theorem below_grown {w0 w w' : World} {row : Option Nat} (h : Below w0.heap.size w0 w) (hg : w.grownBy w' row) (hr : ∀ k, row = some k → w0.heap.size ≤ k) : Below w0.heap.size w0 w' :=
  h.grown hg h.size hr

section
variable {P : Program} {T E : TypeId} {z : Value} {sz wd : Nat}

/-- append onto a slice without spare room (a nil one too): the result lies in a new row. -/
theorem run_appF (he : Elt P T E z sz wd) (w : World) (ty : TypeId) (ao : Option Addr) (n c : Nat) (xs : List Value) (hr : Row w ao n c sz xs)
    (ax : Option Addr) (m cx : Nat) (ys : List Value) (hy : Row w ax m cx sz ys) (hfull : c < n + m) (hb : (n + m) * wd ≤ 140737488355328) :
    ∃ g cap w', (Builtin.append_ #[T, T] ty #[.slice ao n c, .slice ax m cx]).run P w = .ok (.slice (some ⟨g, 0, none⟩) (n + m) cap) w' ∧
      w'.ownsRow w.heap.size E sz (.slice (some ⟨g, 0, none⟩) (n + m) cap) (n + m) (xs ++ ys) ∧ w.grownBy w' none ∧ w.heap.size ≤ g ∧ g < w'.heap.size := by
  obtain ⟨i, hi, hz0, hz1, hz2⟩ := info_parts he.hi
  have hm : 0 < m := by have := hr.le; omega
  have hnm : n + m ≤ 140737488355328 := Nat.le_trans (Nat.le_mul_of_pos_right _ he.wpos) hb
  have hmx : n + m ≤ maxLen := by unfold maxLen; omega
  cases ax with
  | none => have := hy.nil rfl; have := hy.le; omega
  | some ad =>
    have key : ∃ v' w', (Builtin.append_ #[T, T] ty #[.slice ao n c, .slice (some ad) m cx]).run P w = .ok v' w' ∧ w'.ownsRow w.heap.size E sz v' (n + m) (xs ++ ys) ∧ w.grownBy w' none := by
      have hnews : ∀ j u, ys[j]? = some u → w.cell? (ad.add j) = some u := fun j u hu => by
        rw [addr_add (hy.cells ad rfl j u hu).1]; exact (hy.cells ad rfl j u hu).2
      cases ao with
      | none =>
        have hc0 := hr.nil rfl
        have hn0 : n = 0 := by have := hr.le; omega
        subst hc0
        subst hn0
        have hx0 : xs = [] := List.eq_nil_of_length_eq_zero (by simpa using hr.len)
        subst hx0
        obtain ⟨v', w', h1, h2, h3, _⟩ := run_append_own (P := P) w w.heap.size T ty E i z sz wd he.ht hi hz0 hz1 hz2 he.hz he.pos (.slice none 0 0) 0 [] (World.ownsRow_nil _ _ _ _) ad m cx ys hy.len hnews hy.one hmx hb (Nat.le_refl _)
        exact ⟨v', w', h1, h2, h3⟩
      | some b =>
        exact run_append_arg_grows (P := P) w T ty E i z sz wd he.ht hi hz0 hz1 hz2 he.hz he.pos b n c xs hr.len (fun j u hu => by
          rw [addr_add (hr.cells b rfl j u hu).1]; exact (hr.cells b rfl j u hu).2) ad m cx ys hy.len hnews hfull hmx hb
    obtain ⟨v', w', h1, h2, h3⟩ := key
    obtain ⟨g, cap, rfl, hg, hlt⟩ := h2.form (by omega)
    exact ⟨g, cap, w', h1, h2, h3, hg, hlt⟩

theorem wpList_appF (he : Elt P T E z sz wd) (w : World) {ops : Array Oper} {rest : List Oper} {o : Oper} {a : Act} {Q : Exit → Act → World → Prop} (hgd : o.guard = none) (s x : Operand)
    (ho : o.op = .call { callee := .builtin .append, args := #[s, x], argTypes := #[T, T] })
    (ao : Option Addr) (n c : Nat) (xs : List Value) (hs : a.eval s = .slice ao n c) (hr : Row w ao n c sz xs)
    (ax : Option Addr) (m cx : Nat) (ys : List Value) (hx : a.eval x = .slice ax m cx) (hy : Row w ax m cx sz ys) (hfull : c < n + m) (hb : (n + m) * wd ≤ 140737488355328)
    (h : ∀ g cap w', w'.ownsRow w.heap.size E sz (.slice (some ⟨g, 0, none⟩) (n + m) cap) (n + m) (xs ++ ys) → w.grownBy w' none → w.heap.size ≤ g → g < w'.heap.size →
      wpList P ops Q rest (a.put o.dst (.slice (some ⟨g, 0, none⟩) (n + m) cap)) w') : wpList P ops Q (o :: rest) a w := by
  refine wpList_plain hgd fun K hK => ?_
  obtain ⟨g, cap, w', hrun, h1, h2, h3, h4⟩ := run_appF he w o.type ao n c xs hr ax m cx ys hy hfull hb
  unfold Oper.wp
  simp [execOp, ho, resolve, invoke, builtin, hs, hx, hrun, Result.andThen]
  exact hK _ _ (h g cap w' h1 h2 h3 h4)

/-- append onto a row of one's own that is not nil; what is appended may be empty. -/
theorem run_appO (he : Elt P T E z sz wd) (w : World) (ty : TypeId) (B g n c : Nat) (xs : List Value) (hr : w.ownsRow B E sz (.slice (some ⟨g, 0, none⟩) n c) n xs)
    (ax : Option Addr) (m cx : Nat) (ys : List Value) (hy : Row w ax m cx sz ys) (hb : (n + m) * wd ≤ 140737488355328) (hB : B ≤ w.heap.size) :
    ∃ g' cap w', (Builtin.append_ #[T, T] ty #[.slice (some ⟨g, 0, none⟩) n c, .slice ax m cx]).run P w = .ok (.slice (some ⟨g', 0, none⟩) (n + m) cap) w' ∧
      w'.ownsRow B E sz (.slice (some ⟨g', 0, none⟩) (n + m) cap) (n + m) (xs ++ ys) ∧ w.grownBy w' (some g) ∧ (g' = g ∨ g' = w.heap.size) ∧ B ≤ g' ∧ g' < w'.heap.size := by
  obtain ⟨i, hi, hz0, hz1, hz2⟩ := info_parts he.hi
  have hnm : n + m ≤ 140737488355328 := Nat.le_trans (Nat.le_mul_of_pos_right _ he.wpos) hb
  have hmx : n + m ≤ maxLen := by unfold maxLen; omega
  have hgB := hr.lt g rfl
  by_cases hm0 : m = 0
  · subst hm0
    have hys : ys = [] := List.eq_nil_of_length_eq_zero (by simpa using hy.len)
    subst hys
    have hnc : n ≤ c := by
      rcases hr.2 with ⟨h0, _⟩ | ⟨g', cap', cur, hv, _, _, hn, _⟩
      · cases h0
      · simp only [Value.slice.injEq] at hv; omega
    refine ⟨g, c, w, ?_, by simpa using hr, ⟨rfl, rfl, rfl, Nat.le_refl _, fun _ _ _ => rfl⟩, .inl rfl, hgB.1, hgB.2⟩
    have hst : ∀ a : Addr, (storeCells a []).run P w = .ok () w := fun _ => rfl
    cases ax <;> simp [Builtin.append_, run_underlying he.ht, sizeOf, typeInfo, hi, Builtin.lenOf, hnc, Builtin.firstCells, loadCells, loadCellsFrom, hst]
  · cases ax with
    | none => have := hy.nil rfl; have := hy.le; omega
    | some ad =>
      have hnews : ∀ j u, ys[j]? = some u → w.cell? (ad.add j) = some u := fun j u hu => by
        rw [addr_add (hy.cells ad rfl j u hu).1]; exact (hy.cells ad rfl j u hu).2
      obtain ⟨g', cap, w', h1, h2, h3, h4, h5⟩ := run_append_lies (P := P) w T ty B E i z sz wd he.ht hi hz0 hz1 hz2 he.hz he.pos _ n xs hr ad m cx ys hy.len hnews hy.one (by omega) hmx hb hB w.heap.size rfl
      refine ⟨g', cap, w', h1, h2, h3, ?_, (h2.lt g' rfl).1, h5⟩
      rcases h4 with h4 | h4
      · left; simpa [Value.ownBlock] using h4.symm
      · right; exact h4

theorem wpList_appO (he : Elt P T E z sz wd) (w : World) {ops : Array Oper} {rest : List Oper} {o : Oper} {a : Act} {Q : Exit → Act → World → Prop} (hgd : o.guard = none) (s x : Operand)
    (ho : o.op = .call { callee := .builtin .append, args := #[s, x], argTypes := #[T, T] })
    (B g n c : Nat) (xs : List Value) (hs : a.eval s = .slice (some ⟨g, 0, none⟩) n c) (hr : w.ownsRow B E sz (.slice (some ⟨g, 0, none⟩) n c) n xs)
    (ax : Option Addr) (m cx : Nat) (ys : List Value) (hx : a.eval x = .slice ax m cx) (hy : Row w ax m cx sz ys) (hb : (n + m) * wd ≤ 140737488355328) (hB : B ≤ w.heap.size)
    (h : ∀ g' cap w', w'.ownsRow B E sz (.slice (some ⟨g', 0, none⟩) (n + m) cap) (n + m) (xs ++ ys) → w.grownBy w' (some g) → (g' = g ∨ g' = w.heap.size) → B ≤ g' → g' < w'.heap.size →
      wpList P ops Q rest (a.put o.dst (.slice (some ⟨g', 0, none⟩) (n + m) cap)) w') : wpList P ops Q (o :: rest) a w := by
  refine wpList_plain hgd fun K hK => ?_
  obtain ⟨g', cap, w', hrun, h1, h2, h3, h4, h5⟩ := run_appO he w o.type B g n c xs hr ax m cx ys hy hb hB
  unfold Oper.wp
  simp [execOp, ho, resolve, invoke, builtin, hs, hx, hrun, Result.andThen]
  exact hK _ _ (h g' cap w' h1 h2 h3 h4 h5)
end
/-- the cells of n bytes -/
def bcells (f : Nat → Int) (n : Nat) : List Value := (List.range n).map fun i => .int .u8 (f i)
theorem bcells_len (f : Nat → Int) (n : Nat) : (bcells f n).length = n := by simp [bcells]
theorem bcells_get (f : Nat → Int) (n i : Nat) (h : i < n) : (bcells f n)[i]? = some (.int .u8 (f i)) := by simp [bcells, h]
theorem bcells_one (f : Nat → Int) (n : Nat) : ∀ u ∈ bcells f n, u.oneCell' = true := by
  intro u hu
  simp only [bcells, List.mem_map] at hu
  obtain ⟨i, _, rfl⟩ := hu
  rfl
def bnums (f : Nat → Int) (n : Nat) : List Int := (List.range n).map f
theorem bcells_nums (f : Nat → Int) (n : Nat) : bcells f n = (bnums f n).map (Value.int .u8) := by simp [bcells, bnums]
theorem bnums_len (f : Nat → Int) (n : Nat) : (bnums f n).length = n := by simp [bnums]
theorem bnums_get (f : Nat → Int) (n i : Nat) (h : i < n) : (bnums f n)[i]? = some (f i) := by simp [bnums, h]

/-- string(b): the text of the bytes. -/
theorem row_string {P : Program} {T E S : TypeId} (w : World) (hT : P.underlying T = some (.slice E)) (hE : P.underlying E = some (.int .u8)) (hS : P.underlying S = some .string)
    {ao : Option Addr} {n c : Nat} {zs : List Int} (h : Row w ao n c 1 (zs.map (Value.int .u8))) :
    (convert T S (.slice ao n c)).run P w = .ok (.string (strOfNums zs)) w := by
  have hl : zs.length = n := by simpa using h.len
  cases ao with
  | none =>
    have := h.nil rfl
    have hn : n = 0 := by have := h.le; omega
    subst hn
    have hz : zs = [] := List.eq_nil_of_length_eq_zero hl
    subst hz
    exact run_convert_bytes_nil (P := P) w T E hT hE 0 c S hS
  | some ad =>
    have hc := h.cells ad rfl
    by_cases hn : n = 0
    · subst hn
      have hz : zs = [] := List.eq_nil_of_length_eq_zero hl
      subst hz
      rw [run_convert_bytes_string w T S E _ 0 c hT hE hS]
      simp [Conv.bytesToString, loadCells, loadCellsFrom]
      rfl
    obtain ⟨b, off, sp⟩ := ad
    have hsp := (hc 0 (.int .u8 (zs.getD 0 0)) (by simp [List.getElem?_eq_getElem (show 0 < zs.length by omega), List.getD])).1
    simp only at hsp
    subst hsp
    exact run_convert_bytes_arg (P := P) w T E hT hE b off n c zs hl (fun i hi =>
      (hc i (.int .u8 (zs.getD i 0)) (by simp [List.getElem?_eq_getElem (show i < zs.length by omega), List.getD])).2) S hS

theorem row_cell {w : World} {b off : Nat} {n c : Nat} {f : Nat → Int} (h : Row w (some ⟨b, off, none⟩) n c 1 (bcells f n)) (i : Nat) (hi : i < n) : w.cell? ⟨b, off + i, none⟩ = some (.int .u8 (f i)) :=
  (h.cells _ rfl i _ (bcells_get f n i hi)).2

theorem row_addr {w : World} {ao : Option Addr} {n c sz : Nat} {xs : List Value} (h : Row w ao n c sz xs) (hn : xs ≠ []) : ∃ b off, ao = some ⟨b, off, none⟩ := by
  obtain ⟨u, r, rfl⟩ := List.exists_cons_of_ne_nil hn
  cases ao with
  | none =>
    have h1 := h.nil rfl
    have h2 := h.le
    have h3 := h.len
    have h4 : n = 0 := by omega
    rw [h4] at h3
    simp at h3
  | some ad =>
    obtain ⟨b, off, sp⟩ := ad
    have := (h.cells _ rfl 0 u rfl).1
    simp only at this
    subst this
    exact ⟨b, off, rfl⟩
theorem bcells_ne (f : Nat → Int) (n : Nat) (h : 0 < n) : bcells f n ≠ [] := fun e => by have := bcells_len f n; rw [e] at this; simp at this; omega

theorem u8_of_wf {n : Int} (h : (Lit.int .u8 n).wf = true) : 0 ≤ n ∧ n < 256 := by
  simp only [Lit.wf, Bool.and_eq_true, decide_eq_true_eq] at h
  have h1 : IntKind.u8.min = 0 := by decide
  have h2 : IntKind.u8.max = 255 := by decide
  omega
theorem u64_of_wf {n : Int} (h : (Lit.int .u64 n).wf = true) : 0 ≤ n ∧ n < 18446744073709551616 := by
  simp only [Lit.wf, Bool.and_eq_true, decide_eq_true_eq] at h
  have h1 : IntKind.u64.min = 0 := by decide
  have h2 : IntKind.u64.max = 18446744073709551615 := by decide
  omega
theorem i64_of_wf {n : Int} (h : (Lit.int .i64 n).wf = true) : -9223372036854775808 ≤ n ∧ n ≤ 9223372036854775807 := by
  simp only [Lit.wf, Bool.and_eq_true, decide_eq_true_eq] at h
  have h1 : IntKind.i64.min = -9223372036854775808 := by decide
  have h2 : IntKind.i64.max = 9223372036854775807 := by decide
  omega

/-- What the row's shell tells of a slice of bytes that came in. -/
theorem isrow_bytes {w : World} {a : Option Addr} {len cap : Nat} {zs : List Int}
    (h : (a = none ∧ len = 0 ∧ cap = 0 ∧ zs = []) ∨ ∃ x, a = some x ∧ len ≤ cap ∧ cap ≤ maxLen ∧ zs.length = cap ∧ (∀ i, i < zs.length → w.cell? (x.add i) = some (.int .u8 (zs.getD i 0))) ∧ ∀ n ∈ zs, (Lit.int .u8 n).wf = true) :
    ∃ f : Nat → Int, (∀ i, 0 ≤ f i ∧ f i < 256) ∧ Row w a len cap 1 (bcells f len) ∧ len ≤ maxLen := by
  rcases h with ⟨rfl, rfl, rfl, rfl⟩ | ⟨x, rfl, h1, h2, h3, h4, h5⟩
  · exact ⟨fun _ => 0, fun _ => by simp, row_nil w 1, Nat.zero_le _⟩
  · refine ⟨fun i => zs.getD i 0, fun i => ?_, ⟨by simp [bcells], h1, fun h => (by cases h), ?_, bcells_one _ _⟩, by omega⟩
    · rcases Nat.lt_or_ge i zs.length with hi | hi
      · exact u8_of_wf (h5 (zs.getD i 0) (by simp [List.getD, List.getElem?_eq_getElem hi]))
      · simp [List.getD, List.getElem?_eq_none hi]
    · intro ad ha i u hu
      simp only [Option.some.injEq] at ha
      subst ha
      have hi : i < len := by
        have := List.getElem?_eq_some_iff.1 hu
        obtain ⟨h, _⟩ := this
        simpa [bcells] using h
      have hx := h4 0 (by omega)
      have hs : x.spot = none := by
        have := World.cell?_spot hx
        simpa [Addr.add] using this
      refine ⟨hs, ?_⟩
      rw [bcells_get _ _ _ hi] at hu
      cases hu
      have := h4 i (by omega)
      rwa [addr_add hs] at this
theorem bcells_take (f : Nat → Int) (n k : Nat) (h : k ≤ n) : (bcells f n).take (k * 1) = bcells f k := by
  rw [Nat.mul_one, bcells, bcells, ← List.map_take, List.take_range, Nat.min_eq_left h]
theorem row_pre {w : World} {ao : Option Addr} {n c : Nat} {f : Nat → Int} (h : Row w ao n c 1 (bcells f n)) (k : Nat) (hk : k ≤ n) : Row w ao k c 1 (bcells f k) := by
  rw [← bcells_take f n k hk]; exact h.pre k hk
end Go.Proofs.YtfbhpkhpkaeagaaDoor
