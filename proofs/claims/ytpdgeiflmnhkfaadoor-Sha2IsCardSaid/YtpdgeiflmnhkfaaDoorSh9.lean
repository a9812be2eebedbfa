/- florinlaw02: awake. (hM) -/
import Derived.Test.YtpdgeiflmnhkfaaDoorSh8
import Derived.Lib.SlBytesConst
namespace Go.Proofs.YtpdgeiflmnhkfaaDoor
set_option linter.unusedVariables false
set_option linter.unusedSimpArgs false
open Go.RowKit

def abcF (k : Nat) : Int := if k = 0 then 97 else if k = 1 then 98 else if k = 2 then 99 else 0
theorem abc_sum : shaF abcF 3 0 = 186 ∧ shaF abcF 3 1 = 120 ∧ shaF abcF 3 31 = 173 := by decide +kernel

theorem row_marked (w : World) (cs : Array Value) (E : TypeId) (fr : Nat × Nat) (n : Nat) (hn : cs.size = n) (h1 : ∀ u ∈ cs.toList, u.oneCell' = true) : Row (w.alloc (.cells cs E fr)) (some ⟨w.heap.size, 0, none⟩) n n 1 cs.toList :=
  ⟨by simp [hn], Nat.le_refl _, (fun h => by cases h), (fun ad ha i u hu => by
    simp only [Option.some.injEq] at ha
    subst ha
    refine ⟨rfl, ?_⟩
    have hh : (w.alloc (.cells cs E fr)).heap[w.heap.size]? = some (.cells cs E fr) := by
      show (w.heap.push (.cells cs E fr))[w.heap.size]? = _
      simp
    rw [Nat.zero_add]
    unfold World.cell?
    rw [hh]
    simpa using hu), h1⟩

set_option maxRecDepth 100000 in
set_option maxHeartbeats 2000000 in
theorem awake2_any (w : World) (hT : Tab w) : Calls Tryd.prog 18 #[] w fun e w' => e = .returned (.bool true) ∧ Below w.heap.size w w' := by
  obtain ⟨g, hg⟩ : ∃ g, shaF abcF 3 = g := ⟨_, rfl⟩
  have h3 := abc_sum
  rw [hg] at h3
  have hrow := row_marked w #[.int .u8 97, .int .u8 98, .int .u8 99] 5 (3, 4) 3 rfl (by intro u hu; simp at hu; rcases hu with rfl | rfl | rfl <;> rfl)
  have HS := Lib.hid (hg ▸ sum_any (some ⟨w.heap.size, 0, none⟩) 3 3 abcF _ (hT.later (below_alloc w _)) hrow (fun i => by unfold abcF; split; omega; split; omega; split <;> omega) (by omega))
  have hcv := Lib.run_convert_bytes_const (P := Tryd.prog) w 22 5 #[.int .u8 97, .int .u8 98, .int .u8 99] 3 3 eltU8.ht Tryd.underlying5
  have HG := Lib.hid h3
  have hB := Below.refl w.heap.size w
  have hM := Lib.hid (mem_nil w)
  have hF : True := trivial
  clear hrow hg h3 hT
  go_enter Tryd.func18, Tryd.ntmps18
  go_wp2_with (first | (go_at_call 19; refine HS.out.mono ?_; rintro e w1 ⟨rfl, hb⟩; have hB1 := bl_then (bl_al hB _) hb; clear hB hb hM hF; have hB := hB1; clear hB1; have hF : True := trivial; have hM := Lib.hid (mem_nil w1)) | (refine wpList_store_newV rfl (.tmp 1) (.tmp 4) 30 rfl _ (bcells g 32) _ Tryd.underlying30 rfl (by rw [bcells_len]; kernel_rfl) (by rw [bcells_len]; rfl) (bcells_one g 32) rfl rfl hM.out ?_; intro W2 hMW hbW; have hBW := bl_then hB hbW; have k0 := cellsAt_get hMW.1.2.2 (bcells_get g 32 0 (by omega)); have k1 := cellsAt_get hMW.1.2.2 (bcells_get g 32 1 (by omega)); have k31 := cellsAt_get hMW.1.2.2 (bcells_get g 32 31 (by omega)); rw [HG.out.1] at k0; rw [HG.out.2.1] at k1; rw [HG.out.2.2] at k31; clear hM hF hB; have hM := Lib.hid hMW; have hB := hBW; clear hMW hbW hBW))
  go_ret
  exact ⟨rfl, hB⟩
end Go.Proofs.YtpdgeiflmnhkfaaDoor
