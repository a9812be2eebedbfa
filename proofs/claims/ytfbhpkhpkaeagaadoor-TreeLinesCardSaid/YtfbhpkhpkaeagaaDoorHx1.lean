/- Package hash: Text. (hM) -/
import Derived.Test.YtfbhpkhpkaeagaaDoorBy6
import Derived.Test.YtfbhpkhpkaeagaaDoorApp2
namespace Go.Proofs.YtfbhpkhpkaeagaaDoor
set_option linter.unusedVariables false
set_option linter.unusedSimpArgs false
open Go.RowKit

/-- a hash's digits of sixteen, the highest first -/
def txN (f : Nat → Int) (j : Nat) : Int := if j % 2 = 0 then f (31 - j / 2) / 16 else f (31 - j / 2) % 16
def txC (f : Nat → Int) (j : Nat) : Int := hexd (txN f j)
def textT (f : Nat → Int) : ByteArray := strOfNums (bnums (txC f) 64)
theorem u8_and15t : ∀ x : Fin 256, bits .and .u8 (x.val : Int) 15 = (x.val : Int) % 16 := by decide +kernel
theorem u8_and15 (x : Int) (h : 0 ≤ x ∧ x < 256) : bits .and .u8 x 15 = x % 16 := by
  have := u8_and15t ⟨x.toNat, by omega⟩
  simpa [Int.toNat_of_nonneg h.1] using this
theorem bcells_add2 (F : Nat → Int) (k : Nat) : bcells F (k + 2) = bcells F k ++ [.int .u8 (F k), .int .u8 (F (k + 1))] := by
  simp [bcells, List.range_succ]
theorem txN_b (f : Nat → Int) (hf : ∀ i, 0 ≤ f i ∧ f i < 256) (j : Nat) : 0 ≤ txN f j ∧ txN f j < 16 := by
  have := hf (31 - j / 2)
  unfold txN
  split <;> omega
/-- the relation of Text's loop -/
def TxRel (B : Nat) (w1 : World) (f : Nat → Int) (t i : Value) (wr : World) : Prop :=
  ∃ (j : Nat) (ao : Option Addr) (c : Nat), j ≤ 32 ∧ i = .int .i64 (31 - (j : Int)) ∧ t = .slice ao (2 * j) c ∧ OwnN B 5 1 wr ao (2 * j) c (bcells (txC f) (2 * j)) ∧ Below B w1 wr ∧ w1.heap.size ≤ wr.heap.size

end Go.Proofs.YtfbhpkhpkaeagaaDoor
