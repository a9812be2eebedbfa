/- florinlaw02: theirs; florinref02: Same, Initial, constants, Constant; sha2: Constant, Initial of any place. (hM) -/
import Derived.Test.YtddcceifblpmbaaDoorSh9
namespace Go.Proofs.YtddcceifblpmbaaDoor
set_option linter.unusedVariables false
set_option linter.unusedSimpArgs false
open Go.RowKit

def kAny (i : Int) : Int := if 0 ≤ i ∧ i < 64 then kF i.toNat else 0
def hAny (i : Int) : Int := if 0 ≤ i ∧ i < 8 then hF0 i.toNat else 0

set_option maxHeartbeats 1000000 in
theorem init_any (i : Int) (w : World) (hT : Tab w) : Calls Tryd.prog 110 #[.int .i64 i] w fun e w' => e = .returned (.int .u32 (hAny i)) ∧ w = w' := by
  by_cases h0 : i < 0
  · rw [show hAny i = 0 by unfold hAny; rw [if_neg (by omega)]]
    clear hT
    go_enter Tryd.func110, Tryd.ntmps110
    go_wp2
    go_ret
    exact ⟨rfl, rfl⟩
  · by_cases h1 : 8 ≤ i
    · rw [show hAny i = 0 by unfold hAny; rw [if_neg (by omega)]]
      clear hT
      go_enter Tryd.func110, Tryd.ntmps110
      go_wp2
      go_ret
      exact ⟨rfl, rfl⟩
    · obtain ⟨j, rfl⟩ := Int.eq_ofNat_of_zero_le (show 0 ≤ i by omega)
      rw [show hAny (j : Int) = hF0 j by unfold hAny; rw [if_pos (by omega), Int.toNat_natCast]]
      exact initial_in j (by omega) w hT

set_option maxRecDepth 100000 in
set_option maxHeartbeats 2000000 in
theorem rinit_any (i : Int) (w : World) : Calls Tryd.prog 114 #[.int .i64 i] w fun e w' => e = .returned (.int .u32 (hAny i)) ∧ Below w.heap.size w w' := by
  have hB := Below.refl w.heap.size w
  have hM := Lib.hid (mem_nil w)
  by_cases h0 : i < 0
  · rw [show hAny i = 0 by unfold hAny; rw [if_neg (by omega)]]
    go_enter Tryd.func114, Tryd.ntmps114
    go_wp2_with (refine wpList_store_newV rfl (.tmp 3) (.tmp 4) 115 rfl _ (u32l hF0 8) _ Tryd.underlying115 rfl (by rw [u32l_len]; kernel_rfl) (by rw [u32l_len]; rfl) (u32l_one hF0 8) rfl (by kernel_rfl) hM.out ?_; intro W2 hMW hbW)
    go_ret
    exact ⟨rfl, hbW⟩
  · by_cases h1 : 7 < i
    · rw [show hAny i = 0 by unfold hAny; rw [if_neg (by omega)]]
      go_enter Tryd.func114, Tryd.ntmps114
      go_wp2_with (refine wpList_store_newV rfl (.tmp 3) (.tmp 4) 115 rfl _ (u32l hF0 8) _ Tryd.underlying115 rfl (by rw [u32l_len]; kernel_rfl) (by rw [u32l_len]; rfl) (u32l_one hF0 8) rfl (by kernel_rfl) hM.out ?_; intro W2 hMW hbW)
      go_ret
      exact ⟨rfl, hbW⟩
    · obtain ⟨j, rfl⟩ := Int.eq_ofNat_of_zero_le (show 0 ≤ i by omega)
      rw [show hAny (j : Int) = hF0 j by unfold hAny; rw [if_pos (by omega), Int.toNat_natCast]]
      have h2 : (j : Int) < 8 := by omega
      have hj : j < 8 := by omega
      go_enter Tryd.func114, Tryd.ntmps114
      go_wp2_with (refine wpList_store_newV rfl (.tmp 3) (.tmp 4) 115 rfl _ (u32l hF0 8) _ Tryd.underlying115 rfl (by rw [u32l_len]; kernel_rfl) (by rw [u32l_len]; rfl) (u32l_one hF0 8) rfl (by kernel_rfl) hM.out ?_; intro W2 hMW hbW; have hc := cellsAt_get hMW.1.2.2 (u32l_get hF0 8 j hj); clear hMW)
      go_ret
      exact ⟨rfl, hbW⟩

set_option maxRecDepth 100000 in
set_option maxHeartbeats 2000000 in
theorem rconsts (w : World) : Calls Tryd.prog 124 #[] w fun e w' => e = .returned (.agg (u32l kF 64).toArray) ∧ Below w.heap.size w w' := by
  have hM := Lib.hid (mem_nil w)
  go_enter Tryd.func124, Tryd.ntmps124
  go_wp2_with (refine wpList_store_newV rfl (.tmp 0) (.tmp 1) 142 rfl _ (u32l kF 64) _ Tryd.underlying142 rfl (by rw [u32l_len]; kernel_rfl) (by rw [u32l_len]; rfl) (u32l_one kF 64) rfl (by kernel_rfl) hM.out ?_; intro W2 hMW hbW)
  have hl := Go.run_loadVar_mid (P := Tryd.prog) W2 w.heap.size 0 142 (u32l kF 64) _ (rangeAt_of hMW.1.2.2) Tryd.underlying142 rfl (by rw [u32l_len]; kernel_rfl)
  refine bodyPost_ret (v := .agg (u32l kF 64).toArray) (by simp [results, Tryd.results124, asAddr, hl, Act.put]) rfl ⟨rfl, hbW⟩

end Go.Proofs.YtddcceifblpmbaaDoor
