/- Package hash: Number, FromNumber. (hM) -/
import Derived.Test.YtfbhpkhpkaeagaaDoorBy4
namespace Go.Proofs.YtfbhpkhpkaeagaaDoor
set_option linter.unusedVariables false
set_option linter.unusedSimpArgs false
open Go.RowKit

/-- a hash as a number: the lowest byte first -/
def hashN (f : Nat → Int) : Int := accV (fun k => f (31 - k)) 32 32
theorem hashN_b (f : Nat → Int) (hf : ∀ i, 0 ≤ f i ∧ f i < 256) : 0 ≤ hashN f ∧ hashN f < WW := by
  have := accV_b (fun k => f (31 - k)) 32 (fun i => hf (31 - i)) 32
  rw [show (256 : Int) ^ 32 = WW by decide] at this
  exact this
theorem z32 : (b8l (fun _ => 0) 32).toArray = #[Value.int .u8 0, Value.int .u8 0, Value.int .u8 0, Value.int .u8 0, Value.int .u8 0, Value.int .u8 0, Value.int .u8 0, Value.int .u8 0, Value.int .u8 0, Value.int .u8 0, Value.int .u8 0, Value.int .u8 0, Value.int .u8 0, Value.int .u8 0, Value.int .u8 0, Value.int .u8 0, Value.int .u8 0, Value.int .u8 0, Value.int .u8 0, Value.int .u8 0, Value.int .u8 0, Value.int .u8 0, Value.int .u8 0, Value.int .u8 0, Value.int .u8 0, Value.int .u8 0, Value.int .u8 0, Value.int .u8 0, Value.int .u8 0, Value.int .u8 0, Value.int .u8 0, Value.int .u8 0] := by kernel_rfl
theorem there_z (w : World) (T : TypeId) : (w.alloc (.cells #[Value.int .u8 0, Value.int .u8 0, Value.int .u8 0, Value.int .u8 0, Value.int .u8 0, Value.int .u8 0, Value.int .u8 0, Value.int .u8 0, Value.int .u8 0, Value.int .u8 0, Value.int .u8 0, Value.int .u8 0, Value.int .u8 0, Value.int .u8 0, Value.int .u8 0, Value.int .u8 0, Value.int .u8 0, Value.int .u8 0, Value.int .u8 0, Value.int .u8 0, Value.int .u8 0, Value.int .u8 0, Value.int .u8 0, Value.int .u8 0, Value.int .u8 0, Value.int .u8 0, Value.int .u8 0, Value.int .u8 0, Value.int .u8 0, Value.int .u8 0, Value.int .u8 0, Value.int .u8 0] T)).there w.heap.size 0 32 := by
  rw [← z32]
  exact there_of (Mem.al (mem_nil w) (b8l (fun _ => 0) 32) T).1 (b8l_len _ 32)
theorem store_z {w : World} {L : List (Nat × List Value)} (hm : Mem w L) (vs : List Value) (T : TypeId) (hz : vs.length = 32) : Mem ((w.alloc (.cells #[Value.int .u8 0, Value.int .u8 0, Value.int .u8 0, Value.int .u8 0, Value.int .u8 0, Value.int .u8 0, Value.int .u8 0, Value.int .u8 0, Value.int .u8 0, Value.int .u8 0, Value.int .u8 0, Value.int .u8 0, Value.int .u8 0, Value.int .u8 0, Value.int .u8 0, Value.int .u8 0, Value.int .u8 0, Value.int .u8 0, Value.int .u8 0, Value.int .u8 0, Value.int .u8 0, Value.int .u8 0, Value.int .u8 0, Value.int .u8 0, Value.int .u8 0, Value.int .u8 0, Value.int .u8 0, Value.int .u8 0, Value.int .u8 0, Value.int .u8 0, Value.int .u8 0, Value.int .u8 0] T)).setCells w.heap.size 0 vs) ((w.heap.size, vs) :: L) := by
  rw [← z32]
  exact store_box hm _ vs T (by rw [b8l_len, hz])

/-- a new box of 32 bytes, filled: the walk goes on in an abstract world -/
theorem wpList_store_new {w : World} {ops : Array Oper} {rest : List Oper} {op : Oper} {a : Act} {Q : Exit → Act → World → Prop} (hgd : op.guard = none) (x y : Operand) (T : TypeId) (hT : T = 23) (ho : op.op = .store T x y)
    (g : Nat → Int) (hx : a.eval x = .pointer (some ⟨w.heap.size, 0, none⟩)) (hy : a.eval y = .agg (b8l g 32).toArray) {L : List (Nat × List Value)} (hm : Mem w L)
    (h : ∀ W, Mem W ((w.heap.size, b8l g 32) :: L) → Below w.heap.size w W → wpList Tryd.prog ops Q rest (a.put op.dst undef) W) : wpList Tryd.prog ops Q (op :: rest) a (w.alloc (.cells #[Value.int .u8 0, Value.int .u8 0, Value.int .u8 0, Value.int .u8 0, Value.int .u8 0, Value.int .u8 0, Value.int .u8 0, Value.int .u8 0, Value.int .u8 0, Value.int .u8 0, Value.int .u8 0, Value.int .u8 0, Value.int .u8 0, Value.int .u8 0, Value.int .u8 0, Value.int .u8 0, Value.int .u8 0, Value.int .u8 0, Value.int .u8 0, Value.int .u8 0, Value.int .u8 0, Value.int .u8 0, Value.int .u8 0, Value.int .u8 0, Value.int .u8 0, Value.int .u8 0, Value.int .u8 0, Value.int .u8 0, Value.int .u8 0, Value.int .u8 0, Value.int .u8 0, Value.int .u8 0] T)) := by
  subst hT
  refine Go.wpList_store_mid hgd 23 x y ho w.heap.size 0 (b8l g 32).toArray hx hy (by rw [show (b8l g 32).toArray.size = 32 by simp [b8l_len]]; exact there_z w _) (by simp only [List.size_toArray, b8l_len]; kernel_rfl) (Go.all_oneCell_toArray (b8l_one g 32)) ?_
  exact h _ (store_z hm _ _ (b8l_len _ _)) (bl_setCells (Nat.le_refl _) _ _ _ (below_alloc w _))

end Go.Proofs.YtfbhpkhpkaeagaaDoor
