/- Clock: the document's Times, Median, Check, Last. -/
import Derived.Test.YtppbnanhippdaaaCkT
namespace Go.Proofs.Ytppbnanhippdaaa
set_option linter.unusedVariables false
set_option linter.unusedSimpArgs false
open Go.RowKit

def RtRel (w : World) (n : Nat) (τ : Nat → Int) (out i : Value) (wr : World) : Prop :=
  ∃ (j c : Nat) (ao : Option Addr), j ≤ n ∧ i = .int .i64 (j : Int) ∧ out = .slice ao j c ∧ OwnN w.heap.size 22 1 wr ao j c (c32 (timesN τ j)) ∧ Below w.heap.size w wr

set_option maxHeartbeats 1000000 in
theorem rtimes_any (ao : Option Addr) (n c : Nat) (X : Nat → List Value) (τ : Nat → Int) (w : World) (hr : SRow w ao n c 68 X) (hX : Heads X n τ) (hn : n ≤ 1000) :
    Calls Try.prog 17 #[.slice ao n c] w fun e w' => ∃ bo c', e = .returned (.slice bo n c') ∧ Row w' bo n c' 1 (c32 (timesN τ n)) ∧ Below w.heap.size w w' := by
  have hnc := hr.le
  have HR := Lib.hid hr
  have HX := Lib.hid hX
  clear hr hX
  go_enter Try.func17, Try.ntmps17
  go_wp2
  go_loopw [3, 4] (fun out i wr => RtRel w n τ out i wr) (fun _ i _ => n - (intOf i).toNat)
  case atStart => exact ⟨0, 0, none, by omega, rfl, rfl, by simpa [timesN, c32] using ownN_nil w.heap.size 22 1 w, Below.refl _ _⟩
  case round =>
    obtain ⟨j, cc, oo, hj, rfl, rfl, hown, hb1⟩ := hrel
    have HO := Lib.hid hown
    clear hown
    by_cases hlt : j < n
    · obtain ⟨b, off, rfl⟩ := HR.out.addr (by decide) (by omega)
      have hjn : (j : Int) < (n : Int) := by omega
      have hc := ((HR.out.later (by decide) hb1).cells _ rfl j hlt 65 _ (HX.out j hlt).1).2
      rw [← Nat.add_assoc] at hc
      dsimp only at hc
      have HN := Lib.hid (HO.out.alloc (.cells #[.int .u32 (τ j)] 22))
      have HXX := Lib.hid (row_new wr #[.int .u32 (τ j)] 22 1 1 1 rfl (by omega) (by simp [Value.oneCell']))
      go_wp2_with (at_builtin; refine wpList_appN eltU32 w _ (hb1.alloc hb1.size _) rfl _ _ rfl _ j cc _ rfl HN.out _ 1 1 _ rfl HXX.out (fun _ => by decide) (by omega) ?_; intro g3 cap3 w3 hown3 hb3; replace hown3 := Lib.hid hown3)
      go_roundw
      case rel => exact ⟨j + 1, cap3, some ⟨g3, 0, none⟩, by omega, by go_num, rfl, .inr ⟨g3, rfl, by rw [show timesN τ (j + 1) = timesN τ j ++ [τ j] by simp [timesN, List.range_succ], c32_app]; exact hown3.out⟩, hb3⟩
      case measure => simp [intOf]; omega
    · have hjn : j = n := by omega
      subst hjn
      go_wp2
      go_ret
      exact ⟨_, _, rfl, HO.out.row (c32_one _), hb1⟩
end Go.Proofs.Ytppbnanhippdaaa
