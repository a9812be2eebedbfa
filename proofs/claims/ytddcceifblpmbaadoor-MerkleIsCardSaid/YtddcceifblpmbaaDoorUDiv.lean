/- Package u256: Div, the walk. -/
import Derived.Test.YtddcceifblpmbaaDoorU9
namespace Go.Proofs.YtddcceifblpmbaaDoor
set_option linter.unusedVariables false
set_option linter.unusedSimpArgs false
open Go.RowKit

theorem Mem.setN {w : World} {b k : Nat} {v : Value} {vs : List Value} {l : List (Nat × List Value)} (hd : ∀ p ∈ l, p.1 ≠ b) (h : Mem w ((b, vs) :: l)) : Mem (w.setCell ⟨b, k, none⟩ v) ((b, vs.set k v) :: l) :=
  ⟨⟨by simpa using h.1.1, fun i => by rw [World.frozen?_setCell]; exact h.1.2.1 i, cellsAt_set (Nat.zero_le _) h.1.2.2⟩, Mem.far hd h.2⟩
theorem Mem.swap {w : World} {b b' : Nat} {vs vs' : List Value} {l : List (Nat × List Value)} (h : Mem w ((b, vs) :: (b', vs') :: l)) : Mem w ((b', vs') :: (b, vs) :: l) := ⟨h.2.1, h.1, h.2.2⟩
/-- four cells written one by one -/
def wset4 (w : World) (b : Nat) (x0 x1 x2 x3 : Int) : World :=
  (((w.setCell ⟨b, 0, none⟩ (.int .u64 x0)).setCell ⟨b, 1, none⟩ (.int .u64 x1)).setCell ⟨b, 2, none⟩ (.int .u64 x2)).setCell ⟨b, 3, none⟩ (.int .u64 x3)
theorem Mem.set4 {w : World} {b : Nat} {y0 y1 y2 y3 : Int} (x0 x1 x2 x3 : Int) {l : List (Nat × List Value)} (hd : ∀ p ∈ l, p.1 ≠ b) (h : Mem w ((b, [.int .u64 y0, .int .u64 y1, .int .u64 y2, .int .u64 y3]) :: l)) :
    Mem (wset4 w b x0 x1 x2 x3) ((b, [.int .u64 x0, .int .u64 x1, .int .u64 x2, .int .u64 x3]) :: l) :=
  (((h.setN (k := 0) (v := .int .u64 x0) hd).setN (k := 1) (v := .int .u64 x1) hd).setN (k := 2) (v := .int .u64 x2) hd).setN (k := 3) (v := .int .u64 x3) hd
theorem Mem.far4 {w : World} {b : Nat} (x0 x1 x2 x3 : Int) {l : List (Nat × List Value)} (hd : ∀ p ∈ l, p.1 ≠ b) (h : Mem w l) : Mem (wset4 w b x0 x1 x2 x3) l :=
  Mem.far hd (Mem.far hd (Mem.far hd (Mem.far hd h)))
theorem bl_set4 {a w : World} {b : Nat} (x0 x1 x2 x3 : Int) (hb : a.heap.size ≤ b) (h : Below a.heap.size a w) : Below a.heap.size a (wset4 w b x0 x1 x2 x3) :=
  (((h.setCell (p := ⟨b, 0, none⟩) hb _).setCell (p := ⟨b, 1, none⟩) hb _).setCell (p := ⟨b, 2, none⟩) hb _).setCell (p := ⟨b, 3, none⟩) hb _

/-- the relation of Div's loop: j digits are still to come -/
def DivRel (w : World) (a0 a1 a2 a3 b0 b1 b2 b3 : Int) (g0 g1 g2 g3 g4 g5 : Nat) (i : Value) (wr : World) : Prop :=
  ∃ (j : Nat) (t0 t1 t2 t3 l0 l1 l2 l3 : Int), j ≤ 256 ∧ i = .int .i64 ((j : Int) - 1) ∧ B4 t0 t1 t2 t3 ∧ B4 l0 l1 l2 l3 ∧
    N4 l0 l1 l2 l3 = N4 a0 a1 a2 a3 / 2 ^ j % N4 b0 b1 b2 b3 ∧ N4 t0 t1 t2 t3 = N4 a0 a1 a2 a3 / 2 ^ j / N4 b0 b1 b2 b3 * 2 ^ j ∧ Below w.heap.size w wr ∧
    Mem wr [(g5, [.int .u64 l0, .int .u64 l1, .int .u64 l2, .int .u64 l3]), (g4, [.int .u64 t0, .int .u64 t1, .int .u64 t2, .int .u64 t3]), (g3, [.int .u64 0, .int .u64 0, .int .u64 0, .int .u64 0]), (g2, [.int .u64 0, .int .u64 0, .int .u64 0, .int .u64 0]),
      (g1, [.int .u64 b0, .int .u64 b1, .int .u64 b2, .int .u64 b3]), (g0, [.int .u64 a0, .int .u64 a1, .int .u64 a2, .int .u64 a3])]

end Go.Proofs.YtddcceifblpmbaaDoor
