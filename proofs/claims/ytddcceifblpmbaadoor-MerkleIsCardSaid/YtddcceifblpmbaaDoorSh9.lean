/- florinlaw02: awake. (hM) -/
import Derived.Test.YtddcceifblpmbaaDoorSh8
import Derived.Lib.SlBytesConst
namespace Go.Proofs.YtddcceifblpmbaaDoor
set_option linter.unusedVariables false
set_option linter.unusedSimpArgs false
open Go.RowKit

def abcF (k : Nat) : Int := if k = 0 then 97 else if k = 1 then 98 else if k = 2 then 99 else 0
theorem abc_sum : shaF abcF 3 0 = 186 ∧ shaF abcF 3 1 = 120 ∧ shaF abcF 3 31 = 173 := by decide +kernel

theorem row_marked (w : World) (cs : Array Value) (E : TypeId) (fr : Nat × Nat) (n : Nat) (hn : cs.size = n) (h1 : ∀ u ∈ cs.toList, u.oneCell' = true) : Row (w.alloc (.cells cs E fr)) (some ⟨w.heap.size, 0, none⟩) n n 1 cs.toList :=
  ⟨by simp [hn], Nat.le_refl _, (fun h => by cases h), (fun ad ha i u hu => by
    simp only [Option.some.injEq] at ha
    subst ha
    refine ⟨rfl, ?_⟩
    have hh : (w.alloc (.cells cs E fr)).heap[w.heap.size]? = some (.cells cs E fr) := by
      show (w.heap.push (.cells cs E fr))[w.heap.size]? = _
      simp
    rw [Nat.zero_add]
    unfold World.cell?
    rw [hh]
    simpa using hu), h1⟩

end Go.Proofs.YtddcceifblpmbaaDoor
