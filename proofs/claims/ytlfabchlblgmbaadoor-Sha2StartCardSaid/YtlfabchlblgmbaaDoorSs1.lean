/- florinlaw02: theirs; florinref02: Same, Initial, constants, Constant; sha2: Constant, Initial of any place. (hM) -/
import Derived.Test.YtlfabchlblgmbaaDoorSh9
namespace Go.Proofs.YtlfabchlblgmbaaDoor
set_option linter.unusedVariables false
set_option linter.unusedSimpArgs false
open Go.RowKit

def kAny (i : Int) : Int := if 0 ≤ i ∧ i < 64 then kF i.toNat else 0
def hAny (i : Int) : Int := if 0 ≤ i ∧ i < 8 then hF0 i.toNat else 0

set_option maxHeartbeats 1000000 in
theorem const_any (i : Int) (w : World) (hT : Tab w) : Calls Tryd.prog 33 #[.int .i64 i] w fun e w' => e = .returned (.int .u32 (kAny i)) ∧ w = w' := by
  by_cases h0 : i < 0
  · rw [show kAny i = 0 by unfold kAny; rw [if_neg (by omega)]]
    clear hT
    go_enter Tryd.func33, Tryd.ntmps33
    go_wp2
    go_ret
    exact ⟨rfl, rfl⟩
  · by_cases h1 : 64 ≤ i
    · rw [show kAny i = 0 by unfold kAny; rw [if_neg (by omega)]]
      clear hT
      go_enter Tryd.func33, Tryd.ntmps33
      go_wp2
      go_ret
      exact ⟨rfl, rfl⟩
    · obtain ⟨j, rfl⟩ := Int.eq_ofNat_of_zero_le (show 0 ≤ i by omega)
      have hc := hT.1.2 j (by omega)
      rw [show kAny (j : Int) = kF j by unfold kAny; rw [if_pos (by omega), Int.toNat_natCast]]
      obtain ⟨v, hv⟩ : ∃ v, kF j = v := ⟨_, rfl⟩
      rw [hv] at hc ⊢
      have h2 : (j : Int) < 64 := by omega
      clear hT hv
      go_enter Tryd.func33, Tryd.ntmps33
      go_wp2
      go_ret
      exact ⟨rfl, rfl⟩
set_option maxHeartbeats 1000000 in
theorem init_any (i : Int) (w : World) (hT : Tab w) : Calls Tryd.prog 35 #[.int .i64 i] w fun e w' => e = .returned (.int .u32 (hAny i)) ∧ w = w' := by
  by_cases h0 : i < 0
  · rw [show hAny i = 0 by unfold hAny; rw [if_neg (by omega)]]
    clear hT
    go_enter Tryd.func35, Tryd.ntmps35
    go_wp2
    go_ret
    exact ⟨rfl, rfl⟩
  · by_cases h1 : 8 ≤ i
    · rw [show hAny i = 0 by unfold hAny; rw [if_neg (by omega)]]
      clear hT
      go_enter Tryd.func35, Tryd.ntmps35
      go_wp2
      go_ret
      exact ⟨rfl, rfl⟩
    · obtain ⟨j, rfl⟩ := Int.eq_ofNat_of_zero_le (show 0 ≤ i by omega)
      rw [show hAny (j : Int) = hF0 j by unfold hAny; rw [if_pos (by omega), Int.toNat_natCast]]
      exact initial_in j (by omega) w hT

set_option maxRecDepth 100000 in
set_option maxHeartbeats 2000000 in
theorem rinit_any (i : Int) (w : World) : Calls Tryd.prog 36 #[.int .i64 i] w fun e w' => e = .returned (.int .u32 (hAny i)) ∧ Below w.heap.size w w' := by
  have hB := Below.refl w.heap.size w
  have hM := Lib.hid (mem_nil w)
  by_cases h0 : i < 0
  · rw [show hAny i = 0 by unfold hAny; rw [if_neg (by omega)]]
    go_enter Tryd.func36, Tryd.ntmps36
    go_wp2_with (refine wpList_store_newV rfl (.tmp 3) (.tmp 4) 24 rfl _ (u32l hF0 8) _ Tryd.underlying24 rfl (by rw [u32l_len]; kernel_rfl) (by rw [u32l_len]; rfl) (u32l_one hF0 8) rfl (by kernel_rfl) hM.out ?_; intro W2 hMW hbW)
    go_ret
    exact ⟨rfl, hbW⟩
  · by_cases h1 : 7 < i
    · rw [show hAny i = 0 by unfold hAny; rw [if_neg (by omega)]]
      go_enter Tryd.func36, Tryd.ntmps36
      go_wp2_with (refine wpList_store_newV rfl (.tmp 3) (.tmp 4) 24 rfl _ (u32l hF0 8) _ Tryd.underlying24 rfl (by rw [u32l_len]; kernel_rfl) (by rw [u32l_len]; rfl) (u32l_one hF0 8) rfl (by kernel_rfl) hM.out ?_; intro W2 hMW hbW)
      go_ret
      exact ⟨rfl, hbW⟩
    · obtain ⟨j, rfl⟩ := Int.eq_ofNat_of_zero_le (show 0 ≤ i by omega)
      rw [show hAny (j : Int) = hF0 j by unfold hAny; rw [if_pos (by omega), Int.toNat_natCast]]
      have h2 : (j : Int) < 8 := by omega
      have hj : j < 8 := by omega
      go_enter Tryd.func36, Tryd.ntmps36
      go_wp2_with (refine wpList_store_newV rfl (.tmp 3) (.tmp 4) 24 rfl _ (u32l hF0 8) _ Tryd.underlying24 rfl (by rw [u32l_len]; kernel_rfl) (by rw [u32l_len]; rfl) (u32l_one hF0 8) rfl (by kernel_rfl) hM.out ?_; intro W2 hMW hbW; have hc := cellsAt_get hMW.1.2.2 (u32l_get hF0 8 j hj); clear hMW)
      go_ret
      exact ⟨rfl, hbW⟩

set_option maxRecDepth 100000 in
set_option maxHeartbeats 2000000 in
theorem rconsts (w : World) : Calls Tryd.prog 67 #[] w fun e w' => e = .returned (.agg (u32l kF 64).toArray) ∧ Below w.heap.size w w' := by
  have hM := Lib.hid (mem_nil w)
  go_enter Tryd.func67, Tryd.ntmps67
  go_wp2_with (refine wpList_store_newV rfl (.tmp 0) (.tmp 1) 82 rfl _ (u32l kF 64) _ Tryd.underlying82 rfl (by rw [u32l_len]; kernel_rfl) (by rw [u32l_len]; rfl) (u32l_one kF 64) rfl (by kernel_rfl) hM.out ?_; intro W2 hMW hbW)
  have hl := Go.run_loadVar_mid (P := Tryd.prog) W2 w.heap.size 0 82 (u32l kF 64) _ (rangeAt_of hMW.1.2.2) Tryd.underlying82 rfl (by rw [u32l_len]; kernel_rfl)
  refine bodyPost_ret (v := .agg (u32l kF 64).toArray) (by simp [results, Tryd.results67, asAddr, hl, Act.put]) rfl ⟨rfl, hbW⟩

set_option maxRecDepth 100000 in
set_option maxHeartbeats 2000000 in
theorem rconst_any (i : Int) (w : World) : Calls Tryd.prog 34 #[.int .i64 i] w fun e w' => e = .returned (.int .u32 (kAny i)) ∧ Below w.heap.size w w' := by
  have hB := Below.refl w.heap.size w
  have hM := Lib.hid (mem_nil w)
  have hF : True := trivial
  by_cases h0 : i < 0
  · rw [show kAny i = 0 by unfold kAny; rw [if_neg (by omega)]]
    go_enter Tryd.func34, Tryd.ntmps34
    go_wp2
    go_ret
    exact ⟨rfl, hB⟩
  · by_cases h1 : 63 < i
    · rw [show kAny i = 0 by unfold kAny; rw [if_neg (by omega)]]
      go_enter Tryd.func34, Tryd.ntmps34
      go_wp2
      go_ret
      exact ⟨rfl, hB⟩
    · obtain ⟨j, rfl⟩ := Int.eq_ofNat_of_zero_le (show 0 ≤ i by omega)
      rw [show kAny (j : Int) = kF j by unfold kAny; rw [if_pos (by omega), Int.toNat_natCast]]
      have h2 : (j : Int) < 64 := by omega
      have hj : j < 64 := by omega
      have hle : (j : Int) ≤ 63 := by omega
      go_enter Tryd.func34, Tryd.ntmps34
      go_wp2_with (first | (go_at_call 67; (with_reducible refine (rconsts _).mono ?_); rintro e w1 ⟨rfl, hb⟩; have hB : Below w.heap.size w w1 := (by refine bl_then ?_ hb; (repeat (first | exact hB | refine bl_al ?_ _ | refine Below.setCell ?_ (by first | exact hgs | exact Nat.le_succ_of_le hgs | exact hgs2 | exact hgs3) _ | refine Below.drew ?_ | refine bl_drewN ?_ _))); (first | with_reducible have hM2 := Mem.later hb (hM.out) | with_reducible have hM2 := Mem.later hb (Mem.al (hM.out) _ _) | with_reducible have hM2 := Mem.later hb (Mem.al (Mem.al (hM.out) _ _) _ _) | with_reducible have hM2 := Mem.later hb (Mem.al (Mem.al (Mem.al (hM.out) _ _) _ _) _ _) | with_reducible have hM2 := Mem.later hb (Mem.al (Mem.al (Mem.al (Mem.al (hM.out) _ _) _ _) _ _) _ _) | with_reducible have hM2 := Mem.later hb (Mem.drew (hM.out)) | with_reducible have hM2 := Mem.later hb (Mem.drew (Mem.al (hM.out) _ _)) | with_reducible have hM2 := Mem.later hb (Mem.al (Mem.drew (hM.out)) _ _) | with_reducible have hM2 := Mem.later hb (Mem.al (Mem.drew (Mem.al (hM.out) _ _)) _ _) | with_reducible have hM2 := Mem.later hb (Mem.drew (Mem.al (Mem.al (hM.out) _ _) _ _)) | with_reducible have hM2 := Mem.later hb (Mem.al (Mem.al (Mem.drew (hM.out)) _ _) _ _) | with_reducible have hM2 := Mem.later hb (Mem.drew (Mem.drew (hM.out))) | with_reducible have hM2 := Mem.later hb (Mem.drew (Mem.al (Mem.drew (hM.out)) _ _)) | with_reducible have hM2 := Mem.later hb (Mem.drew (Mem.al (Mem.al (Mem.al (hM.out) _ _) _ _) _ _)) | with_reducible have hM2 := Mem.later hb (Mem.al (Mem.al (Mem.drew (Mem.al (hM.out) _ _)) _ _) _ _) | with_reducible have hM2 := Mem.later hb (Mem.drew (Mem.al (Mem.drew (Mem.al (hM.out) _ _)) _ _)) | with_reducible have hM2 := Mem.later hb (Mem.al (Mem.al (Mem.al (Mem.al (Mem.al (hM.out) _ _) _ _) _ _) _ _) _ _) | with_reducible have hM2 := Mem.later hb (Mem.al (Mem.al (Mem.al (Mem.al (Mem.al (Mem.al (hM.out) _ _) _ _) _ _) _ _) _ _) _ _) | with_reducible have hM2 := Mem.later hb (Mem.al (Mem.al (Mem.al (Mem.al (Mem.al (Mem.al (Mem.al (hM.out) _ _) _ _) _ _) _ _) _ _) _ _) _ _) | with_reducible have hM2 := Mem.later hb (Mem.al (Mem.al (Mem.al (Mem.al (Mem.al (Mem.al (Mem.al (Mem.al (hM.out) _ _) _ _) _ _) _ _) _ _) _ _) _ _) _ _)); (try simp only [World.size_alloc, size_drew] at hM2); clear hM; have hM := Lib.hid hM2; clear hF; have hF := hM2; (try simp only [Mem, cellsAt, World.size_alloc, Nat.zero_add, Nat.reduceAdd, and_true] at hF); clear hM2; clear hb) | (refine wpList_store_newV rfl (.tmp 3) (.tmp 10) 82 rfl _ (u32l kF 64) _ Tryd.underlying82 rfl (by rw [u32l_len]; kernel_rfl) (by rw [u32l_len]; rfl) (u32l_one kF 64) rfl rfl hM.out ?_; intro W2 hMW hbW; have hBW := bl_then hB hbW; have hc := cellsAt_get hMW.1.2.2 (u32l_get kF 64 j hj); clear hMW hF))
      go_ret
      exact ⟨rfl, hBW⟩
end Go.Proofs.YtlfabchlblgmbaaDoor
