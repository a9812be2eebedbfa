/- Package hash: Zero, two hashes compared by ==; florinlaw03: awake. (hM) -/
import Derived.Test.YtfbhpkhpkaeagaaDoorHx1
import Derived.Test.YtfbhpkhpkaeagaaDoorVz
namespace Go.Proofs.YtfbhpkhpkaeagaaDoor
set_option linter.unusedVariables false
set_option linter.unusedSimpArgs false
open Go.RowKit

def hl (f : Nat → Int) : List Int := (List.range 32).map f
theorem hl_len (f : Nat → Int) : (hl f).length = 32 := by simp [hl]
theorem hl_cells (f : Nat → Int) : b8l f 32 = (hl f).map (Value.int .u8) := by simp [hl, b8l]
theorem hl_eq {f g : Nat → Int} : (hl f = hl g) ↔ ∀ i, i < 32 → f i = g i := by
  unfold hl
  constructor
  · intro h i hi
    have := congrArg (fun l => l[i]?) h
    simpa [hi] using this
  · intro h
    exact List.map_congr_left fun i hi => h i (List.mem_range.1 hi)
theorem eq_h (f g : Nat → Int) (b : Bool) (hb : (hl f == hl g) = b) (w : World) : (binOp .eql 24 (arr32 f) (arr32 g)).run Tryd.prog w = .ok (.bool b) w := by
  have := eqlArr Tryd.prog 32 24 5 .u8 Tryd.underlying24 Tryd.underlying5 (by kernel_rfl) (hl f) (hl g) (hl_len f) (hl_len g) w
  rw [hb] at this
  unfold arr32
  rw [hl_cells, hl_cells]
  exact this

def oneF (i : Nat) : Int := if i = 0 then 1 else 0
theorem oneF_b (i : Nat) : 0 ≤ oneF i ∧ oneF i < 256 := by unfold oneF; split <;> omega
theorem one_text : (textT oneF).size = 64 ∧ (textT oneF).extract 62 64 = { data := #[48, 49] } := by decide +kernel
theorem one_hash : hashN oneF = 1 := by decide +kernel
theorem one_lit : arr32 oneF = .agg #[.int .u8 1, .int .u8 0, .int .u8 0, .int .u8 0, .int .u8 0, .int .u8 0, .int .u8 0, .int .u8 0, .int .u8 0, .int .u8 0, .int .u8 0, .int .u8 0, .int .u8 0, .int .u8 0, .int .u8 0, .int .u8 0, .int .u8 0, .int .u8 0, .int .u8 0, .int .u8 0, .int .u8 0, .int .u8 0, .int .u8 0, .int .u8 0, .int .u8 0, .int .u8 0, .int .u8 0, .int .u8 0, .int .u8 0, .int .u8 0, .int .u8 0, .int .u8 0] := by kernel_rfl
theorem zero_lit : arr32 (fun _ => 0) = .agg #[.int .u8 0, .int .u8 0, .int .u8 0, .int .u8 0, .int .u8 0, .int .u8 0, .int .u8 0, .int .u8 0, .int .u8 0, .int .u8 0, .int .u8 0, .int .u8 0, .int .u8 0, .int .u8 0, .int .u8 0, .int .u8 0, .int .u8 0, .int .u8 0, .int .u8 0, .int .u8 0, .int .u8 0, .int .u8 0, .int .u8 0, .int .u8 0, .int .u8 0, .int .u8 0, .int .u8 0, .int .u8 0, .int .u8 0, .int .u8 0, .int .u8 0, .int .u8 0] := by kernel_rfl

end Go.Proofs.YtfbhpkhpkaeagaaDoor
