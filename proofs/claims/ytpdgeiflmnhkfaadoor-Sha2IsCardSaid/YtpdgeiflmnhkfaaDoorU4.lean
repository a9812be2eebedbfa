/- Package u256: Hex. -/
import Derived.Test.YtpdgeiflmnhkfaaDoorU3
import Derived.Test.YtpdgeiflmnhkfaaDoorBuf
namespace Go.Proofs.YtpdgeiflmnhkfaaDoor
set_option linter.unusedVariables false
set_option linter.unusedSimpArgs false
open Go.RowKit

def limbN (a0 a1 a2 a3 : Int) (k : Nat) : Int := match k with | 0 => a0 | 1 => a1 | 2 => a2 | _ => a3
/-- the i-th digit of sixteen, the lowest first -/
def nibN (a0 a1 a2 a3 : Int) (i : Nat) : Int := limbN a0 a1 a2 a3 (i / 16) / 2 ^ (i % 16 * 4) % 16
def hexd (d : Int) : Int := if d < 10 then 48 + d else 87 + d
def hexLenN (L : Int) : Int := max ((L + 3) / 4) 1

theorem u64_and15 (x : Int) (h : 0 ≤ x ∧ x < WI) : bits .and .u64 x 15 = x % 16 := by
  obtain ⟨X, rfl⟩ := Int.eq_ofNat_of_zero_le h.1
  have e := u64_and_nat X 15 (by unfold WI at h; omega) (by decide)
  have e2 : X &&& 15 = X % 16 := Nat.and_two_pow_sub_one_eq_mod X 4
  rw [e2] at e
  exact e

theorem eltU8 : Elt Tryd.prog 22 5 (.int .u8 0) 1 1 := ⟨Tryd.underlying22, by kernel_rfl, rfl, by decide, by decide⟩
theorem limb_le {a0 a1 a2 a3 : Int} (h : 0 ≤ a0 ∧ a0 < WI ∧ 0 ≤ a1 ∧ a1 < WI ∧ 0 ≤ a2 ∧ a2 < WI ∧ 0 ≤ a3 ∧ a3 < WI) (k : Nat) : 0 ≤ limbN a0 a1 a2 a3 k ∧ limbN a0 a1 a2 a3 k < WI := by
  obtain ⟨h0, h1, h2, h3, h4, h5, h6, h7⟩ := h
  unfold limbN
  split <;> constructor <;> assumption
theorem div_le {x : Int} (h : 0 ≤ x ∧ x < WI) (k : Nat) : 0 ≤ x / 2 ^ k ∧ x / 2 ^ k < WI := by
  have hp : (0 : Int) < 2 ^ k := Int.pow_pos (by decide)
  exact ⟨Int.ediv_nonneg h.1 (by omega), Int.lt_of_le_of_lt (Int.ediv_le_self _ h.1) h.2⟩
theorem hex_tab16 : ∀ d : Fin 16, ((({ data := #[48, 49, 50, 51, 52, 53, 54, 55, 56, 57, 97, 98, 99, 100, 101, 102] } : ByteArray)[d.val]'(by have := d.isLt; exact this)).toNat : Int) = hexd (d.val : Int) := by decide +kernel
theorem hex_tab (d : Int) (h : 0 ≤ d ∧ d < 16) (h' : d.toNat < ({ data := #[48, 49, 50, 51, 52, 53, 54, 55, 56, 57, 97, 98, 99, 100, 101, 102] } : ByteArray).size) :
    ((({ data := #[48, 49, 50, 51, 52, 53, 54, 55, 56, 57, 97, 98, 99, 100, 101, 102] } : ByteArray)[d.toNat]'h').toNat : Int) = hexd d := by
  have := hex_tab16 ⟨d.toNat, by omega⟩
  simp only [Int.toNat_of_nonneg h.1] at this
  exact this
/-- the relation of Hex's loop -/
def HexRel (w : World) (a0 a1 a2 a3 : Int) (g m cap : Nat) (i : Value) (wr : World) : Prop :=
  ∃ (j : Nat) (f : Nat → Int), j ≤ m ∧ i = .int .i64 j ∧ Own wr w.heap.size 5 g m cap f ∧ (∀ k, k < j → f (m - 1 - k) = hexd (nibN a0 a1 a2 a3 k)) ∧ Below w.heap.size w wr ∧ (∀ k, k < 4 → wr.cell? ⟨w.heap.size, k, none⟩ = some (.int .u64 (limbN a0 a1 a2 a3 k))) ∧ w.heap.size < g

end Go.Proofs.YtpdgeiflmnhkfaaDoor
