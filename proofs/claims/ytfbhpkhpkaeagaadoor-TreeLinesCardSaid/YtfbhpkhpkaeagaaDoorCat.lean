/- slices.Grow of nil, slices.Concat of two, slices.Clone: bytes. (hM) -/
import Derived.Test.YtfbhpkhpkaeagaaDoorVz
import Derived.Test.YtfbhpkhpkaeagaaDoorApp2
import Derived.Lib.AppendZeros
namespace Go.Proofs.YtfbhpkhpkaeagaaDoor
set_option linter.unusedVariables false
set_option linter.unusedSimpArgs false
open Go.RowKit

theorem ownsRow_zero (w0 w : World) (cs : Array Value) (E : TypeId) (c : Nat) (h0 : w0.heap.size ≤ w.heap.size) (hc : cs.size = c) (hm : c ≤ maxLen) :
    (w.alloc (.cells cs E)).ownsRow w0.heap.size E 1 (.slice (some ⟨w.heap.size, 0, none⟩) 0 c) 0 [] :=
  ⟨by simp, .inr ⟨w.heap.size, c, cs, rfl, h0, heap_alloc_new w _, Nat.zero_le _, hm, by omega, by simp⟩⟩

set_option maxRecDepth 100000 in
set_option maxHeartbeats 2000000 in
/-- Grow of nil -/
theorem grow_any (n : Nat) (hn : n ≤ 140737488355328) (w : World) :
    Calls Tryd.prog 50 #[.slice none 0 0, .int .i64 n] w fun e w' => ∃ ao cap, e = .returned (.slice ao 0 cap) ∧ OwnN w.heap.size 5 1 w' ao 0 cap [] ∧ (ao = none ↔ n = 0) ∧ Below w.heap.size w w' := by
  have h0 : 0 ≤ (n : Int) := by omega
  have hw : IntKind.i64.wrap (n : Int) = (n : Int) := by rw [IntKind.wrap_i64]; omega
  by_cases hn0 : n = 0
  · subst hn0
    go_enter Tryd.func50, Tryd.ntmps50
    go_wp2
    go_ret
    exact ⟨none, 0, rfl, ownN_nil _ _ _ _, by simp, Below.refl _ _⟩
  · have hpos : 0 < (n : Int) := by omega
    obtain ⟨i, hi, hz0, hz1, hz2⟩ := info_parts eltU8.hi
    have hr := fun (w : World) (ty : TypeId) => Lib.run_append_nil_zeros (P := Tryd.prog) w 65 3 ty 5 i (.int .u8 0) .i64 .i64 eltU8.ht Tryd.underlying3 hi hz0 n (by omega) (by omega) (by omega) (by rw [hz2]; omega)
    have HR := Lib.hid hr
    have HZ := Lib.hid (And.intro hz1 hz2)
    have hgc := grownCap_ge w n 0 5
    have hgm := grownCap_le_maxLen w n 0 5 (by unfold maxLen; omega)
    have HC := Lib.hid (And.intro hgc hgm)
    clear hi hz0 hz1 hz2 hr hgc hgm
    go_enter Tryd.func50, Tryd.ntmps50
    go_wp2_with (at_builtin; refine Lib.wpList_append_run _ rfl _ _ _ _ rfl _ _ rfl rfl _ _ (HR.out _ _) ?_)
    go_ret
    refine ⟨_, _, rfl, .inr ⟨_, rfl, ownsRow_zero w w.drew _ _ _ (Nat.le_refl _) ?_ HC.out.2⟩, (by simp; exact hn0), ((Below.refl _ _).alloc (Nat.le_refl _) _).drew⟩
    have := HC.out.1
    simp [Builtin.zeroCells]
    omega

/-- append of nothing onto nil -/
theorem wpList_app00 {P : Program} {T E : TypeId} {z : Value} {sz wd : Nat} (he : Elt P T E z sz wd) {w : World} {ops : Array Oper} {rest : List Oper} {o : Oper} {a : Act} {Q : Exit → Act → World → Prop} (hgd : o.guard = none) (s x : Operand)
    (ho : o.op = .call { callee := .builtin .append, args := #[s, x], argTypes := #[T, T] })
    (hs : a.eval s = .slice none 0 0) (ax : Option Addr) (cx : Nat) (hx : a.eval x = .slice ax 0 cx)
    (h : wpList P ops Q rest (a.put o.dst (.slice none 0 0)) w) : wpList P ops Q (o :: rest) a w := by
  obtain ⟨i, hi, hz0, hz1, hz2⟩ := info_parts he.hi
  have hst : ∀ a : Addr, (storeCells a []).run P w = .ok () w := fun _ => rfl
  have hr : (Builtin.append_ #[T, T] o.type #[.slice none 0 0, .slice ax 0 cx]).run P w = .ok (.slice none 0 0) w := by
    cases ax <;> simp [Builtin.append_, run_underlying he.ht, sizeOf, typeInfo, hi, Builtin.lenOf, Builtin.firstCells, loadCells, loadCellsFrom, hst]
  exact Lib.wpList_append_run w hgd s x T T ho _ _ hs hx _ _ hr h

set_option maxRecDepth 100000 in
set_option maxHeartbeats 2000000 in
/-- Clone -/
theorem clone_any (ao : Option Addr) (n c : Nat) (f : Nat → Int) (w : World) (hr : Row w ao n c 1 (bcells f n)) (hn : n ≤ 140737488355328) :
    Calls Tryd.prog 47 #[.slice ao n c] w fun e w' => ∃ ao' cap, e = .returned (.slice ao' n cap) ∧ OwnN w.heap.size 5 1 w' ao' n cap (bcells f n) ∧ Below w.heap.size w w' := by
  have hq : ∀ (w : World) (a : Option Addr) (n c n' c' : Nat), (binOp .eql 65 (.slice a n c) (.slice none n' c')).run Tryd.prog w = .ok (.bool a.isNone) w := fun w a n c n' c' => Lib.run_eql_slice_nil w _ _ a n c n' c' eltU8.ht
  cases ao with
  | none =>
    have h0 := hr.nil rfl
    have h1 := hr.le
    have h2 : n = 0 := by omega
    subst h0
    subst h2
    have HR := Lib.hid hr
    clear hr h1
    go_enter Tryd.func47, Tryd.ntmps47
    go_wp2
    go_ret
    exact ⟨none, 0, rfl, ownN_nil _ _ _ _, Below.refl _ _⟩
  | some ad =>
    have HR := Lib.hid hr
    clear hr
    go_enter Tryd.func47, Tryd.ntmps47
    go_wp2_with (at_builtin; refine wpList_appN eltU8 w _ ?hb0 rfl _ _ rfl _ 0 0 [] rfl (ownN_lit0 _ _ _ _ (Nat.le_refl _)) _ n c (bcells f n) rfl (HR.out.alloc _) (fun h => by cases h) ?hbig ?_)
    case hb0 => (repeat (first | exact Below.refl _ _ | refine Below.drew ?_ | refine bl_drewN ?_ _ | (refine Below.alloc ?_ (by first | exact Nat.le_refl _ | (simp; done) | (simp; omega)) _)))
    case hbig => omega
    intro g cap w' hown hb
    go_wp2
    go_ret
    exact ⟨_, cap, rfl, .inr ⟨g, rfl, hown⟩, hb⟩

/-- two texts in a row -/
def catF (f : Nat → Int) (n : Nat) (g : Nat → Int) (i : Nat) : Int := if i < n then f i else g (i - n)
theorem catF_cells (f : Nat → Int) (n : Nat) (g : Nat → Int) (m : Nat) : bcells f n ++ bcells g m = bcells (catF f n g) (n + m) := by
  apply List.ext_getElem
  · simp [bcells]
  · intro i h1 h2
    rw [List.getElem_append]
    simp only [bcells, List.length_map, List.length_range, List.getElem_map, List.getElem_range, catF]
    split
    · rfl
    · rfl

set_option maxRecDepth 100000 in
set_option maxHeartbeats 4000000 in
/-- Concat of two -/
theorem concat_any (b o : Nat) (a1 a2 : Option Addr) (n1 c1 n2 c2 : Nat) (f1 f2 : Nat → Int) (w : World) (hc1 : w.cell? ⟨b, o, none⟩ = some (.slice a1 n1 c1)) (hc2 : w.cell? ⟨b, o + 1, none⟩ = some (.slice a2 n2 c2))
    (hr1 : Row w a1 n1 c1 1 (bcells f1 n1)) (hr2 : Row w a2 n2 c2 1 (bcells f2 n2)) (hn : n1 + n2 ≤ 140737488355328) :
    Calls Tryd.prog 45 #[.slice (some ⟨b, o, none⟩) 2 2] w fun e w' => ∃ ao cap, e = .returned (.slice ao (n1 + n2) cap) ∧ OwnN w.heap.size 5 1 w' ao (n1 + n2) cap (bcells (catF f1 n1 f2) (n1 + n2)) ∧ Below w.heap.size w w' := by
  have hblt : b < w.heap.size := World.block_lt_of_cell? w ⟨b, o, none⟩ hc1
  have HR := Lib.hid (And.intro hr1 hr2)
  obtain ⟨N, hN⟩ : ∃ N, n1 + n2 = N := ⟨_, rfl⟩
  rw [hN] at hn ⊢
  have HG := Lib.hid (fun w => grow_any N hn w)
  have hw1 : IntKind.i64.wrap (0 + (n1 : Int)) = (n1 : Int) := by rw [IntKind.wrap_i64]; omega
  have hw2 : IntKind.i64.wrap ((n1 : Int) + (n2 : Int)) = (N : Int) := by rw [IntKind.wrap_i64]; omega
  have h10 : 0 ≤ (n1 : Int) := by omega
  have h12 : 0 ≤ (N : Int) := by omega
  have hcell : ∀ x, Below w.heap.size w x → x.cell? ⟨b, o, none⟩ = some (.slice a1 n1 c1) ∧ x.cell? ⟨b, o + 1, none⟩ = some (.slice a2 n2 c2) := fun x hx => ⟨(hx.cell (p := ⟨b, o, none⟩) hblt).trans hc1, (hx.cell (p := ⟨b, o + 1, none⟩) hblt).trans hc2⟩
  have HC := Lib.hid hcell
  have HNN := Lib.hid hN
  clear hr1 hr2 hcell
  by_cases hN0 : N = 0
  · have e1 : n1 = 0 := by omega
    have e2 : n2 = 0 := by omega
    subst e1 e2 hN0
    go_enter Tryd.func45, Tryd.ntmps45
    go_wp2
    refine wp_loop_rounds 3 ?_
    rw [rounds_succ]
    go_wp2
    rw [rounds_succ]
    go_wp2
    rw [rounds_succ]
    go_wp2_with (go_at_call 50; refine (HG.out _).mono ?_; rintro e w1 ⟨ao, cap, rfl, hown, hne0, hb⟩)
    rcases hown with ⟨rfl, _, rfl, _⟩ | ⟨g, rfl, hown⟩
    · obtain ⟨k1, k2⟩ := HC.out w1 hb
      clear hc1 hc2
      refine wp_loop_rounds 3 ?_
      rw [rounds_succ]
      go_wp2_with (at_builtin; refine wpList_app00 eltU8 rfl _ _ rfl rfl _ _ rfl ?_)
      rw [rounds_succ]
      go_wp2_with (at_builtin; refine wpList_app00 eltU8 rfl _ _ rfl rfl _ _ rfl ?_)
      rw [rounds_succ]
      go_wp2
      go_ret
      exact ⟨none, 0, rfl, ownN_nil _ _ _ _, hb⟩
    · exact absurd (hne0.2 (by first | rfl | trivial)) (by simp)
  · go_enter Tryd.func45, Tryd.ntmps45
    go_wp2
    refine wp_loop_rounds 3 ?_
    rw [rounds_succ]
    go_wp2
    rw [rounds_succ]
    go_wp2
    rw [rounds_succ]
    go_wp2_with (go_at_call 50; refine (HG.out _).mono ?_; rintro e w1 ⟨ao, cap, rfl, hown, hne, hb⟩)
    rcases hown with ⟨rfl, _, rfl, _⟩ | ⟨g, rfl, hown⟩
    · exact absurd (hne.1 rfl) hN0
    · obtain ⟨k1, k2⟩ := HC.out w1 hb
      clear hc1 hc2 hne
      have hO := Lib.hid (show OwnN w.heap.size 5 1 w1 (some ⟨g, 0, none⟩) 0 cap [] from .inr ⟨g, rfl, hown⟩)
      have hB := Lib.hid hb
      clear hown hb
      refine wp_loop_rounds 3 ?_
      rw [rounds_succ]
      go_wp2_with (at_builtin; refine wpList_appN eltU8 w _ hB.out rfl _ _ rfl _ 0 cap [] rfl hO.out _ n1 c1 (bcells f1 n1) rfl (HR.out.1.later hB.out) (fun h => by cases h) (by omega) ?_; intro g1 cap1 w2 hown1 hb1)
      obtain ⟨k3, k4⟩ := HC.out w2 hb1
      rw [Nat.zero_add, List.nil_append] at hown1
      have hO1 := Lib.hid hown1
      have hB1 := Lib.hid hb1
      clear k1 k2 hown1 hb1
      rw [rounds_succ]
      go_wp2_with (at_builtin; refine wpList_appN eltU8 w _ hB1.out rfl _ _ rfl _ n1 cap1 (bcells f1 n1) rfl (.inr ⟨g1, rfl, hO1.out⟩) _ n2 c2 (bcells f2 n2) rfl (HR.out.2.later hB1.out) (fun h => by cases h) (by omega) ?_; intro g2 cap2 w3 hown2 hb2)
      have hO2 := Lib.hid hown2
      have hB2 := Lib.hid hb2
      clear hown2 hb2 k3 k4
      rw [rounds_succ]
      go_wp2
      go_ret
      have h := hO2.out
      rw [catF_cells, HNN.out] at h
      simp only [HNN.out]
      exact ⟨_, cap2, rfl, .inr ⟨g2, rfl, h⟩, hB2.out⟩
end Go.Proofs.YtfbhpkhpkaeagaaDoor
