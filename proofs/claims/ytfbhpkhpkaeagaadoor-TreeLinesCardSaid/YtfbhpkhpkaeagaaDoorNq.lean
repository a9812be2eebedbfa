/- Hashes that are unlike; rows of headers: a beginning, one of them, its Prev. -/
import Derived.Test.YtfbhpkhpkaeagaaDoorHd3
namespace Go.Proofs.YtfbhpkhpkaeagaaDoor
set_option linter.unusedVariables false
set_option linter.unusedSimpArgs false
open Go.RowKit

theorem neq_hash (f g : Nat → Int) (b : Bool) (hb : (!(hl f == hl g)) = b) (w : World) : (binOp .neq 24 (arr32 f) (arr32 g)).run Tryd.prog w = .ok (.bool b) w := by
  have := neqArr Tryd.prog 32 24 5 .u8 Tryd.underlying24 Tryd.underlying5 (by kernel_rfl) (hl f) (hl g) (hl_len f) (hl_len g) w
  rw [hb] at this
  unfold arr32
  rw [hl_cells, hl_cells]
  exact this
theorem srow_pre {w : World} {ao : Option Addr} {n c sz : Nat} {X : Nat → List Value} (h : SRow w ao n c sz X) (r : Nat) (hr : r ≤ n) : SRow w ao r c sz X :=
  ⟨fun i hi => h.len i (by omega), Nat.le_trans hr h.le, h.nil, fun ad ha i hi j u hu => h.cells ad ha i (by omega) j u hu⟩
theorem srow_head {w : World} {b off n c : Nat} {L : Nat → Hd} (h : SRow w (some ⟨b, off, none⟩) n c 68 (fun i => hdL (L i))) (i : Nat) (hi : i < n) : w.rangeAt b (off + i * 68) (hdL (L i)) := fun j v hv => by
  rw [Nat.add_assoc]
  exact (h.cells _ rfl i hi j v hv).2
theorem srow_prev {w : World} {b off n c : Nat} {L : Nat → Hd} (h : SRow w (some ⟨b, off, none⟩) n c 68 (fun i => hdL (L i))) (i : Nat) (hi : i < n) : w.rangeAt b (off + i * 68 + 1) (b8l (L i).p 32) := fun j v hv => by
  have hlt : j < 32 := by have := (List.getElem?_eq_some_iff.1 hv).1; rwa [b8l_len] at this
  rw [b8l_get _ _ _ hlt] at hv
  cases hv
  rw [show off + i * 68 + 1 + j = off + (i * 68 + (1 + j)) by omega]
  exact (h.cells _ rfl i hi (1 + j) _ (hdL_p (L i) j hlt)).2

end Go.Proofs.YtfbhpkhpkaeagaaDoor
