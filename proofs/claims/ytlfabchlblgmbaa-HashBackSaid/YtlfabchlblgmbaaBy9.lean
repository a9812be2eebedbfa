/- Package u256: FromHex. (hM) -/
import Derived.Test.YtlfabchlblgmbaaBy6
import Derived.Lib.OthersKept
namespace Go.Proofs.Ytlfabchlblgmbaa
set_option linter.unusedVariables false
set_option linter.unusedSimpArgs false
open Go.RowKit

/-- digits of sixteen, the highest first -/
def hexV (dg : Nat → Int) : Nat → Int
  | 0 => 0
  | j + 1 => hexV dg j * 16 + dg j
theorem hexV_mono (dg : Nat → Int) (hd : ∀ j, 0 ≤ dg j ∧ dg j < 16) (n : Nat) : 0 ≤ hexV dg n ∧ ∀ j, j ≤ n → hexV dg j ≤ hexV dg n := by
  induction n with
  | zero => exact ⟨Int.le_refl _, fun j hj => by rw [Nat.le_zero.1 hj]; exact Int.le_refl _⟩
  | succ n ih =>
    have h1 := hd n
    have h2 : hexV dg (n + 1) = hexV dg n * 16 + dg n := rfl
    refine ⟨by omega, fun j hj => ?_⟩
    rcases Nat.lt_or_ge n j with h | h
    · rw [show j = n + 1 by omega]; exact Int.le_refl _
    · have := ih.2 j h
      omega
theorem hexd_b {d : Int} (h : 0 ≤ d ∧ d < 16) : 48 ≤ hexd d ∧ hexd d ≤ 102 := by
  unfold hexd
  split <;> omega
theorem Mem.laterB {B : Nat} {w w' : World} (hb : Below B w w') : ∀ {l : List (Nat × List Value)}, (∀ p ∈ l, p.1 < B) → Mem w l → Mem w' l
  | [], _, _ => trivial
  | (b, vs) :: l, hl, h => ⟨⟨Nat.lt_of_lt_of_le h.1.1 hb.size, fun i => (hb.frozen (p := ⟨b, i, none⟩) (hl _ (List.mem_cons_self ..))).trans (h.1.2.1 i), cellsAt.map (fun i u hu => (hb.cell (p := ⟨b, i, none⟩) (hl _ (List.mem_cons_self ..))).trans hu) vs 0 h.1.2.2⟩, Mem.laterB hb (fun p hp => hl p (List.mem_cons_of_mem _ hp)) h.2⟩

set_option maxHeartbeats 1000000 in
theorem digit_any (d : Int) (hd : 0 ≤ d ∧ d < 16) (w : World) :
    Calls Try.prog 50 #[.int .i32 (hexd d)] w fun e w' => e = .returned (.tuple #[.int .u64 d, .bool true]) ∧ Below w.heap.size w w' := by
  by_cases h : d < 10
  · rw [show hexd d = 48 + d by unfold hexd; rw [if_pos h]]
    have h1 : (48 : Int) ≤ 48 + d := by omega
    have h2 : 48 + d ≤ (57 : Int) := by omega
    have h3 : IntKind.i32.wrap (48 + d - 48) = d := by rw [show 48 + d - 48 = d by omega]; rw [IntKind.wrap_i32]; omega
    have h4 : IntKind.u64.wrap d = d := by rw [IntKind.wrap_u64]; omega
    go_enter Try.func50, Try.ntmps50
    go_wp2
    refine bodyPost_ret (v := .tuple #[.int .u64 d, .bool true]) (by simp [results, Try.results50, go_sem]) rfl ?_
    exact ⟨rfl, by (repeat (first | exact Below.refl _ _ | refine Below.drew ?_ | refine bl_drewN ?_ _ | (refine Below.alloc ?_ (by first | exact Nat.le_refl _ | (simp; done) | (simp; omega)) _)))⟩
  · rw [show hexd d = 87 + d by unfold hexd; rw [if_neg h]]
    have h1 : (48 : Int) ≤ 87 + d := by omega
    have h2 : ¬ 87 + d ≤ (57 : Int) := by omega
    have h5 : (97 : Int) ≤ 87 + d := by omega
    have h6 : 87 + d ≤ (102 : Int) := by omega
    have h3 : IntKind.i32.wrap (87 + d - 97) = d - 10 := by rw [show 87 + d - 97 = d - 10 by omega]; rw [IntKind.wrap_i32]; omega
    have h4 : IntKind.u64.wrap (d - 10) = d - 10 := by rw [IntKind.wrap_u64]; omega
    have h7 : IntKind.u64.wrap (d - 10 + 10) = d := by rw [IntKind.wrap_u64]; omega
    go_enter Try.func50, Try.ntmps50
    go_wp2
    refine bodyPost_ret (v := .tuple #[.int .u64 d, .bool true]) (by simp [results, Try.results50, go_sem]) rfl ?_
    exact ⟨rfl, by (repeat (first | exact Below.refl _ _ | refine Below.drew ?_ | refine bl_drewN ?_ _ | (refine Below.alloc ?_ (by first | exact Nat.le_refl _ | (simp; done) | (simp; omega)) _)))⟩
end Go.Proofs.Ytlfabchlblgmbaa
