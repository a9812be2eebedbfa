/- Boxes of whatever cells, filled at once: the walk goes on in an abstract world. -/
import Derived.Test.YtfbhpkhpkaeagaaDoorMm
namespace Go.Proofs.YtfbhpkhpkaeagaaDoor
set_option linter.unusedVariables false
set_option linter.unusedSimpArgs false
open Go.RowKit

theorem bl_setCellsW {a : World} {b : Nat} (hb : a.heap.size ≤ b) : ∀ (vs : List Value) (o : Nat) (w : World), Below a.heap.size a w → Below a.heap.size a (w.setCells b o vs)
  | [], _, _, h => h
  | v :: r, o, w, h => by
    rw [World.setCells]
    exact bl_setCellsW hb r (o + 1) _ (h.setCell (p := ⟨b, o, none⟩) hb _)
/-- a box that holds cells may be written over -/
theorem thereW {w : World} {b : Nat} {vs : List Value} {n : Nat} (h : b < w.heap.size ∧ (∀ i, w.frozen? ⟨b, i, none⟩ = false) ∧ cellsAt w b 0 vs) (hn : n ≤ vs.length) : w.there b 0 n := fun k hk => by
  rw [Nat.zero_add]
  obtain ⟨u, hu⟩ : ∃ u, vs[k]? = some u := ⟨_, List.getElem?_eq_getElem (by omega)⟩
  exact ⟨by rw [cellsAt_get h.2.2 hu]; rfl, h.2.1 k⟩
theorem cellsAt_ofW {w : World} {b : Nat} : ∀ {vs : List Value} {i : Nat}, (∀ j v, vs[j]? = some v → w.cell? ⟨b, i + j, none⟩ = some v) → cellsAt w b i vs
  | [], _, _ => trivial
  | _ :: _, i, h => ⟨h 0 _ rfl, cellsAt_ofW fun j v hj => by
      have := h (j + 1) v (by simpa using hj)
      rwa [show i + (j + 1) = i + 1 + j by omega] at this⟩
theorem size_setCellsW (b : Nat) : ∀ (vs : List Value) (o : Nat) (w : World), (w.setCells b o vs).heap.size = w.heap.size
  | [], _, _ => rfl
  | v :: r, o, w => by
    rw [World.setCells, size_setCellsW b r (o + 1)]
    simp
/-- a box that is written over whole -/
theorem Mem.over {w : World} {b : Nat} {vs us : List Value} {L : List (Nat × List Value)} (hd : ∀ p ∈ L, p.1 ≠ b) (h : Mem w ((b, vs) :: L)) (hl : us.length = vs.length) : Mem (w.setCells b 0 us) ((b, us) :: L) := by
  have hth := thereW (n := us.length) h.1 (by omega)
  refine ⟨⟨?_, fun i => by rw [World.frozen?_setCells]; exact h.1.2.1 i, cellsAt_ofW fun j v hj => (World.rangeAt_setCells_same w b 0 us hth) j v hj⟩, ?_⟩
  · rw [size_setCellsW]
    exact h.1.1
  · have key : ∀ (us : List Value) (o : Nat) (x : World), Mem x L → Mem (x.setCells b o us) L := by
      intro us
      induction us with
      | nil => exact fun _ _ h => h
      | cons u r ih =>
        intro o x hx
        rw [World.setCells]
        exact ih _ _ (Mem.far hd hx)
    exact key us 0 w h.2
theorem wpList_store_newV {P : Program} {w : World} {ops : Array Oper} {rest : List Oper} {op : Oper} {a : Act} {Q : Exit → Act → World → Prop} (hgd : op.guard = none) (x y : Operand) (T : TypeId) (ho : op.op = .store T x y)
    (zs : Array Value) (vs : List Value) (d : TypeDesc) (hu : P.underlying T = some d) (hd : d.isRow = true) (hi : (P.info? T).map (·.size) = some vs.length) (hz : zs.size = vs.length) (h1 : ∀ u ∈ vs, u.oneCell' = true)
    (hx : a.eval x = .pointer (some ⟨w.heap.size, 0, none⟩)) (hy : a.eval y = .agg vs.toArray) {L : List (Nat × List Value)} (hm : Mem w L)
    (h : ∀ W, Mem W ((w.heap.size, vs) :: L) → Below w.heap.size w W → wpList P ops Q rest (a.put op.dst undef) W) : wpList P ops Q (op :: rest) a (w.alloc (.cells zs T)) := by
  have hal : Mem (w.alloc (.cells zs T)) ((w.heap.size, zs.toList) :: L) := by
    have := Mem.al hm zs.toList T
    rwa [Array.toArray_toList] at this
  have hzl : zs.toList.length = zs.size := Array.length_toList
  have hth := thereW (n := vs.length) hal.1 (by omega)
  refine Go.wpList_store_mid hgd T x y ho w.heap.size 0 vs.toArray hx hy (by simpa using hth) (by rw [hi]; simp) (Go.all_oneCell_toArray h1) ?_
  exact h _ (Mem.over (fun p hp => Nat.ne_of_lt (Mem.lt hm p hp)) hal (by simp [hz])) (bl_setCellsW (Nat.le_refl _) _ _ _ (below_alloc w _))
end Go.Proofs.YtfbhpkhpkaeagaaDoor
