/- florinlaw02: theirs; florinref02: Same, Initial, constants, Constant; sha2: Constant, Initial of any place. (hM) -/
import Derived.Test.YtcaclbblldnnnaaDoorSh9
namespace Go.Proofs.YtcaclbblldnnnaaDoor
set_option linter.unusedVariables false
set_option linter.unusedSimpArgs false
open Go.RowKit

def kAny (i : Int) : Int := if 0 ≤ i ∧ i < 64 then kF i.toNat else 0
def hAny (i : Int) : Int := if 0 ≤ i ∧ i < 8 then hF0 i.toNat else 0

set_option maxHeartbeats 1000000 in
theorem const_any (i : Int) (w : World) (hT : Tab w) : Calls Tryd.prog 13 #[.int .i64 i] w fun e w' => e = .returned (.int .u32 (kAny i)) ∧ w = w' := by
  by_cases h0 : i < 0
  · rw [show kAny i = 0 by unfold kAny; rw [if_neg (by omega)]]
    clear hT
    go_enter Tryd.func13, Tryd.ntmps13
    go_wp2
    go_ret
    exact ⟨rfl, rfl⟩
  · by_cases h1 : 64 ≤ i
    · rw [show kAny i = 0 by unfold kAny; rw [if_neg (by omega)]]
      clear hT
      go_enter Tryd.func13, Tryd.ntmps13
      go_wp2
      go_ret
      exact ⟨rfl, rfl⟩
    · obtain ⟨j, rfl⟩ := Int.eq_ofNat_of_zero_le (show 0 ≤ i by omega)
      have hc := hT.1.2 j (by omega)
      rw [show kAny (j : Int) = kF j by unfold kAny; rw [if_pos (by omega), Int.toNat_natCast]]
      obtain ⟨v, hv⟩ : ∃ v, kF j = v := ⟨_, rfl⟩
      rw [hv] at hc ⊢
      have h2 : (j : Int) < 64 := by omega
      clear hT hv
      go_enter Tryd.func13, Tryd.ntmps13
      go_wp2
      go_ret
      exact ⟨rfl, rfl⟩
set_option maxHeartbeats 1000000 in
theorem init_any (i : Int) (w : World) (hT : Tab w) : Calls Tryd.prog 18 #[.int .i64 i] w fun e w' => e = .returned (.int .u32 (hAny i)) ∧ w = w' := by
  by_cases h0 : i < 0
  · rw [show hAny i = 0 by unfold hAny; rw [if_neg (by omega)]]
    clear hT
    go_enter Tryd.func18, Tryd.ntmps18
    go_wp2
    go_ret
    exact ⟨rfl, rfl⟩
  · by_cases h1 : 8 ≤ i
    · rw [show hAny i = 0 by unfold hAny; rw [if_neg (by omega)]]
      clear hT
      go_enter Tryd.func18, Tryd.ntmps18
      go_wp2
      go_ret
      exact ⟨rfl, rfl⟩
    · obtain ⟨j, rfl⟩ := Int.eq_ofNat_of_zero_le (show 0 ≤ i by omega)
      rw [show hAny (j : Int) = hF0 j by unfold hAny; rw [if_pos (by omega), Int.toNat_natCast]]
      exact initial_in j (by omega) w hT

end Go.Proofs.YtcaclbblldnnnaaDoor
