/- florinref01: Cmp, Len. (hM) -/
import Derived.Test.YtlfabchlblgmbaaDg4
namespace Go.Proofs.Ytlfabchlblgmbaa
set_option linter.unusedVariables false
set_option linter.unusedSimpArgs false
open Go.RowKit

theorem half_step (A : Int) (k : Nat) : A / 2 ^ k = A / 2 ^ (k + 1) * 2 + digN A k := by
  unfold digN
  rw [Int.pow_succ, ← Int.ediv_ediv_of_nonneg (Int.le_of_lt (two_pow_pos k))]
  omega
theorem lt_of_half {A B : Int} (k : Nat) (h : A / 2 ^ k < B / 2 ^ k) : A < B := by
  rcases Int.lt_or_le A B with h1 | h1
  · exact h1
  · have := Int.ediv_le_ediv (two_pow_pos k) h1
    omega
def CmpRel (w : World) (gx gy : Nat) (A B : Int) (i : Value) (wr : World) : Prop :=
  ∃ j : Nat, j ≤ 256 ∧ i = .int .i64 ((j : Int) - 1) ∧ A / 2 ^ j = B / 2 ^ j ∧ Below w.heap.size w wr ∧ Mem wr [(gy, il (digN B) 256), (gx, il (digN A) 256)]

set_option maxRecDepth 100000 in
set_option maxHeartbeats 4000000 in
theorem cmpD_any {a0 a1 a2 a3 b0 b1 b2 b3 : Int} (ha : B4 a0 a1 a2 a3) (hb : B4 b0 b1 b2 b3) (w : World) :
    Calls Try.prog 17 #[U4 a0 a1 a2 a3, U4 b0 b1 b2 b3] w fun e w' => e = .returned (.int .i64 (cmpN (N4 a0 a1 a2 a3) (N4 b0 b1 b2 b3))) ∧ Below w.heap.size w w' := by
  have han := ha.nn
  have hbn := hb.nn
  have hD1 := fun w => digits_any ha w
  have hD2 := fun w => digits_any hb w
  obtain ⟨A, hA⟩ : ∃ A, N4 a0 a1 a2 a3 = A := ⟨_, rfl⟩
  obtain ⟨B, hB'⟩ : ∃ B, N4 b0 b1 b2 b3 = B := ⟨_, rfl⟩
  rw [hA] at han hD1 ⊢
  rw [hB'] at hbn hD2 ⊢
  obtain ⟨r, hr⟩ : ∃ r, cmpN A B = r := ⟨_, rfl⟩
  rw [hr]
  have HD1 := Lib.hid hD1
  have HD2 := Lib.hid hD2
  have HA := Lib.hid (And.intro han (And.intro hbn hr))
  clear hD1 hD2 han hbn hA hB' hr ha hb
  have hB := Below.refl w.heap.size w
  have hM := Lib.hid (mem_nil w)
  have hF : True := trivial
  have hZD := zeroD
  go_enter Try.func17, Try.ntmps17
  go_wp2_with (first | (go_at_call 45; first | ((with_reducible refine (HD1.out _).mono ?_); rintro e w1 ⟨rfl, hb⟩; have hB : Below w.heap.size w w1 := (by refine bl_then ?_ hb; (repeat (first | exact hB | refine bl_al ?_ _ | refine Below.setCell ?_ (by first | exact hgs | exact Nat.le_succ_of_le hgs | exact hgs2 | exact hgs3) _ | refine Below.drew ?_ | refine bl_drewN ?_ _))); (first | with_reducible have hM2 := Mem.later hb (hM.out) | with_reducible have hM2 := Mem.later hb (Mem.al (hM.out) _ _) | with_reducible have hM2 := Mem.later hb (Mem.al (Mem.al (hM.out) _ _) _ _) | with_reducible have hM2 := Mem.later hb (Mem.al (Mem.al (Mem.al (hM.out) _ _) _ _) _ _) | with_reducible have hM2 := Mem.later hb (Mem.al (Mem.al (Mem.al (Mem.al (hM.out) _ _) _ _) _ _) _ _) | with_reducible have hM2 := Mem.later hb (Mem.drew (hM.out)) | with_reducible have hM2 := Mem.later hb (Mem.drew (Mem.al (hM.out) _ _)) | with_reducible have hM2 := Mem.later hb (Mem.al (Mem.drew (hM.out)) _ _) | with_reducible have hM2 := Mem.later hb (Mem.al (Mem.drew (Mem.al (hM.out) _ _)) _ _) | with_reducible have hM2 := Mem.later hb (Mem.drew (Mem.al (Mem.al (hM.out) _ _) _ _)) | with_reducible have hM2 := Mem.later hb (Mem.al (Mem.al (Mem.drew (hM.out)) _ _) _ _) | with_reducible have hM2 := Mem.later hb (Mem.drew (Mem.drew (hM.out))) | with_reducible have hM2 := Mem.later hb (Mem.drew (Mem.al (Mem.drew (hM.out)) _ _)) | with_reducible have hM2 := Mem.later hb (Mem.drew (Mem.al (Mem.al (Mem.al (hM.out) _ _) _ _) _ _)) | with_reducible have hM2 := Mem.later hb (Mem.al (Mem.al (Mem.drew (Mem.al (hM.out) _ _)) _ _) _ _) | with_reducible have hM2 := Mem.later hb (Mem.drew (Mem.al (Mem.drew (Mem.al (hM.out) _ _)) _ _)) | with_reducible have hM2 := Mem.later hb (Mem.al (Mem.al (Mem.al (Mem.al (Mem.al (hM.out) _ _) _ _) _ _) _ _) _ _) | with_reducible have hM2 := Mem.later hb (Mem.al (Mem.al (Mem.al (Mem.al (Mem.al (Mem.al (hM.out) _ _) _ _) _ _) _ _) _ _) _ _) | with_reducible have hM2 := Mem.later hb (Mem.al (Mem.al (Mem.al (Mem.al (Mem.al (Mem.al (Mem.al (hM.out) _ _) _ _) _ _) _ _) _ _) _ _) _ _) | with_reducible have hM2 := Mem.later hb (Mem.al (Mem.al (Mem.al (Mem.al (Mem.al (Mem.al (Mem.al (Mem.al (hM.out) _ _) _ _) _ _) _ _) _ _) _ _) _ _) _ _)); (try simp only [World.size_alloc, size_drew] at hM2); clear hM; have hM := Lib.hid hM2; clear hF; have hF := hM2; (try simp only [Mem, cellsAt, World.size_alloc, Nat.zero_add, Nat.reduceAdd, and_true] at hF); clear hM2; clear hb) | ((with_reducible refine (HD2.out _).mono ?_); rintro e w2 ⟨rfl, hb⟩; have hB : Below w.heap.size w w2 := (by refine bl_then ?_ hb; (repeat (first | exact hB | refine bl_al ?_ _ | refine Below.setCell ?_ (by first | exact hgs | exact Nat.le_succ_of_le hgs | exact hgs2 | exact hgs3) _ | refine Below.drew ?_ | refine bl_drewN ?_ _))); (first | with_reducible have hM2 := Mem.later hb (hM.out) | with_reducible have hM2 := Mem.later hb (Mem.al (hM.out) _ _) | with_reducible have hM2 := Mem.later hb (Mem.al (Mem.al (hM.out) _ _) _ _) | with_reducible have hM2 := Mem.later hb (Mem.al (Mem.al (Mem.al (hM.out) _ _) _ _) _ _) | with_reducible have hM2 := Mem.later hb (Mem.al (Mem.al (Mem.al (Mem.al (hM.out) _ _) _ _) _ _) _ _) | with_reducible have hM2 := Mem.later hb (Mem.drew (hM.out)) | with_reducible have hM2 := Mem.later hb (Mem.drew (Mem.al (hM.out) _ _)) | with_reducible have hM2 := Mem.later hb (Mem.al (Mem.drew (hM.out)) _ _) | with_reducible have hM2 := Mem.later hb (Mem.al (Mem.drew (Mem.al (hM.out) _ _)) _ _) | with_reducible have hM2 := Mem.later hb (Mem.drew (Mem.al (Mem.al (hM.out) _ _) _ _)) | with_reducible have hM2 := Mem.later hb (Mem.al (Mem.al (Mem.drew (hM.out)) _ _) _ _) | with_reducible have hM2 := Mem.later hb (Mem.drew (Mem.drew (hM.out))) | with_reducible have hM2 := Mem.later hb (Mem.drew (Mem.al (Mem.drew (hM.out)) _ _)) | with_reducible have hM2 := Mem.later hb (Mem.drew (Mem.al (Mem.al (Mem.al (hM.out) _ _) _ _) _ _)) | with_reducible have hM2 := Mem.later hb (Mem.al (Mem.al (Mem.drew (Mem.al (hM.out) _ _)) _ _) _ _) | with_reducible have hM2 := Mem.later hb (Mem.drew (Mem.al (Mem.drew (Mem.al (hM.out) _ _)) _ _)) | with_reducible have hM2 := Mem.later hb (Mem.al (Mem.al (Mem.al (Mem.al (Mem.al (hM.out) _ _) _ _) _ _) _ _) _ _) | with_reducible have hM2 := Mem.later hb (Mem.al (Mem.al (Mem.al (Mem.al (Mem.al (Mem.al (hM.out) _ _) _ _) _ _) _ _) _ _) _ _) | with_reducible have hM2 := Mem.later hb (Mem.al (Mem.al (Mem.al (Mem.al (Mem.al (Mem.al (Mem.al (hM.out) _ _) _ _) _ _) _ _) _ _) _ _) _ _) | with_reducible have hM2 := Mem.later hb (Mem.al (Mem.al (Mem.al (Mem.al (Mem.al (Mem.al (Mem.al (Mem.al (hM.out) _ _) _ _) _ _) _ _) _ _) _ _) _ _) _ _)); (try simp only [World.size_alloc, size_drew] at hM2); clear hM; have hM := Lib.hid hM2; clear hF; have hF := hM2; (try simp only [Mem, cellsAt, World.size_alloc, Nat.zero_add, Nat.reduceAdd, and_true] at hF); clear hM2; clear hb)) | (refine wpList_store_newD rfl (.tmp 5) (.tmp 9) _ rfl rfl (digN A) rfl rfl hM.out ?_; intro W hMW hbW; have hBW := bl_then hB hbW; clear hM hF hB; have hM := Lib.hid hMW; have hF := hMW; (simp only [Mem, cellsAt, Nat.zero_add, Nat.reduceAdd, and_true] at hF); have hB := hBW; clear hMW hbW hBW) | (refine wpList_store_newD rfl (.tmp 6) (.tmp 11) _ rfl rfl (digN B) rfl rfl hM.out ?_; intro W hMW hbW; have hBW := bl_then hB hbW; clear hM hF hB; have hM := Lib.hid hMW; have hF := hMW; (simp only [Mem, cellsAt, Nat.zero_add, Nat.reduceAdd, and_true] at hF); have hB := hBW; clear hMW hbW hBW))
  obtain ⟨gx, hgx⟩ : ∃ g, w1.heap.size = g := ⟨_, rfl⟩
  obtain ⟨gy, hgy⟩ : ∃ g, w2.heap.size = g := ⟨_, rfl⟩
  rw [hgx, hgy] at hM
  simp only [hgx, hgy]
  have HM0 := hM
  clear hM hF hgx hgy
  go_loopw [7] (fun i wr => CmpRel w gx gy A B i wr) (fun i _ => (intOf i + 1).toNat)
  case atStart =>
    refine ⟨256, Nat.le_refl _, rfl, ?_, hB, HM0.out.1, HM0.out.2.1, trivial⟩
    rw [show (2 : Int) ^ 256 = WW by decide, Int.ediv_eq_zero_of_lt HA.out.1.1 HA.out.1.2, Int.ediv_eq_zero_of_lt HA.out.2.1.1 HA.out.2.1.2]
  case round =>
    obtain ⟨j, hj, rfl, he, hB, hm⟩ := hrel
    cases j with
    | succ k =>
      have hi : ((k + 1 : Nat) : Int) - 1 = (k : Int) := by omega
      rw [hi]
      have hk : k < 256 := by omega
      have sA := half_step A k
      have sB := half_step B k
      obtain ⟨x, hx⟩ : ∃ x, digN A k = x := ⟨_, rfl⟩
      obtain ⟨y, hy⟩ : ∃ y, digN B k = y := ⟨_, rfl⟩
      rw [hx] at sA
      rw [hy] at sB
      have hcx : wr.cell? ⟨gx, k, none⟩ = some (.int .i64 x) := by
        rw [← hx]
        exact cellsAt_get hm.2.1.2.2 (il_get (digN A) 256 k hk)
      have hcy : wr.cell? ⟨gy, k, none⟩ = some (.int .i64 y) := by
        rw [← hy]
        exact cellsAt_get hm.1.2.2 (il_get (digN B) 256 k hk)
      have HC := Lib.hid (And.intro hcx hcy)
      have hk0 : (0 : Int) ≤ (k : Int) := by omega
      have hk256 : (k : Int) < 256 := by omega
      have hkw : IntKind.i64.wrap ((k : Int) - 1) = (k : Int) - 1 := by rw [IntKind.wrap_i64]; omega
      have hres : (x < y → r = -1) ∧ (y < x → r = 1) ∧ (x = y → A / 2 ^ k = B / 2 ^ k) := by
        refine ⟨fun h => ?_, fun h => ?_, fun h => by omega⟩
        · have h1 := lt_of_half (A := A) (B := B) k (by omega)
          rw [← HA.out.2.2]
          unfold cmpN
          rw [if_pos h1]
        · have h1 := lt_of_half (A := B) (B := A) k (by omega)
          rw [← HA.out.2.2]
          unfold cmpN
          rw [if_neg (by omega), if_pos h1]
      have HX := Lib.hid (And.intro hres hm)
      clear hres hm sA sB he hx hy hi
      rcases Int.lt_trichotomy x y with hlt | heq | hgt
      · have hr := HX.out.1.1 hlt
        subst hr
        go_wp2
        refine wp_plan (fun q => q.cell? ⟨gx, k, none⟩ = some (.int .i64 x) ∧ q.cell? ⟨gy, k, none⟩ = some (.int .i64 y)) [] [0, 1, 2, 3, 4, 5, 6] (by kernel_rfl) (by kernel_rfl) HC.out (fun hHeld => ?_)
        iterate 7 (refine wpT_take rfl (by rfl) (by rfl) (by intro w' hSw; (try dsimp only [Mem, cellsAt] at hSw); go_simp; (try with_reducible rfl)) (by assumption) ?_; (try simp only [Act.put, List.setIfInBounds_toArray, List.set_cons_zero, List.set_cons_succ]))
        (refine wpT_nil ?_)
        go_wp2
        go_ret
        exact ⟨rfl, by (repeat (first | exact hB | refine bl_al ?_ _ | refine Below.setCell ?_ (by first | exact hgs | exact Nat.le_succ_of_le hgs | exact hgs2 | exact hgs3) _ | refine Below.drew ?_ | refine bl_drewN ?_ _))⟩
      · have hn1 : ¬ x < y := by omega
        have hn2 : ¬ y < x := by omega
        go_wp2
        refine wp_plan (fun q => q.cell? ⟨gx, k, none⟩ = some (.int .i64 x) ∧ q.cell? ⟨gy, k, none⟩ = some (.int .i64 y)) [] [0, 1, 2, 3, 4, 5, 6] (by kernel_rfl) (by kernel_rfl) HC.out (fun hHeld => ?_)
        iterate 7 (refine wpT_take rfl (by rfl) (by rfl) (by intro w' hSw; (try dsimp only [Mem, cellsAt] at hSw); go_simp; (try with_reducible rfl)) (by assumption) ?_; (try simp only [Act.put, List.setIfInBounds_toArray, List.set_cons_zero, List.set_cons_succ]))
        (refine wpT_nil ?_)
        go_wp2
        refine wp_plan (fun q => q.cell? ⟨gx, k, none⟩ = some (.int .i64 x) ∧ q.cell? ⟨gy, k, none⟩ = some (.int .i64 y)) [] [0, 1, 2, 3, 4, 5, 6] (by kernel_rfl) (by kernel_rfl) HC.out (fun hHeld => ?_)
        iterate 7 (refine wpT_take rfl (by rfl) (by rfl) (by intro w' hSw; (try dsimp only [Mem, cellsAt] at hSw); go_simp; (try with_reducible rfl)) (by assumption) ?_; (try simp only [Act.put, List.setIfInBounds_toArray, List.set_cons_zero, List.set_cons_succ]))
        (refine wpT_nil ?_)
        go_wp2
        refine ⟨⟨k, by omega, rfl, HX.out.1.2.2 heq, by (repeat (first | exact hB | refine bl_al ?_ _ | refine Below.setCell ?_ (by first | exact hgs | exact Nat.le_succ_of_le hgs | exact hgs2 | exact hgs3) _ | refine Below.drew ?_ | refine bl_drewN ?_ _)), Mem.drew (Mem.drew HX.out.2)⟩, by simp [intOf]⟩
      · have hr := HX.out.1.2.1 hgt
        subst hr
        have hn1 : ¬ x < y := by omega
        go_wp2
        refine wp_plan (fun q => q.cell? ⟨gx, k, none⟩ = some (.int .i64 x) ∧ q.cell? ⟨gy, k, none⟩ = some (.int .i64 y)) [] [0, 1, 2, 3, 4, 5, 6] (by kernel_rfl) (by kernel_rfl) HC.out (fun hHeld => ?_)
        iterate 7 (refine wpT_take rfl (by rfl) (by rfl) (by intro w' hSw; (try dsimp only [Mem, cellsAt] at hSw); go_simp; (try with_reducible rfl)) (by assumption) ?_; (try simp only [Act.put, List.setIfInBounds_toArray, List.set_cons_zero, List.set_cons_succ]))
        (refine wpT_nil ?_)
        go_wp2
        refine wp_plan (fun q => q.cell? ⟨gx, k, none⟩ = some (.int .i64 x) ∧ q.cell? ⟨gy, k, none⟩ = some (.int .i64 y)) [] [0, 1, 2, 3, 4, 5, 6] (by kernel_rfl) (by kernel_rfl) HC.out (fun hHeld => ?_)
        iterate 7 (refine wpT_take rfl (by rfl) (by rfl) (by intro w' hSw; (try dsimp only [Mem, cellsAt] at hSw); go_simp; (try with_reducible rfl)) (by assumption) ?_; (try simp only [Act.put, List.setIfInBounds_toArray, List.set_cons_zero, List.set_cons_succ]))
        (refine wpT_nil ?_)
        go_wp2
        go_ret
        exact ⟨rfl, by (repeat (first | exact hB | refine bl_al ?_ _ | refine Below.setCell ?_ (by first | exact hgs | exact Nat.le_succ_of_le hgs | exact hgs2 | exact hgs3) _ | refine Below.drew ?_ | refine bl_drewN ?_ _))⟩
    | zero =>
      have hr : r = 0 := by
        rw [← HA.out.2.2]
        rw [Int.pow_zero, Int.ediv_one, Int.ediv_one] at he
        unfold cmpN
        rw [if_neg (by omega), if_neg (by omega)]
      subst hr
      have hi : ((0 : Nat) : Int) - 1 = -1 := rfl
      rw [hi]
      clear he hm
      go_wp2
      go_ret
      exact ⟨rfl, by (repeat (first | exact hB | refine bl_al ?_ _ | refine Below.setCell ?_ (by first | exact hgs | exact Nat.le_succ_of_le hgs | exact hgs2 | exact hgs3) _ | refine Below.drew ?_ | refine bl_drewN ?_ _))⟩
end Go.Proofs.Ytlfabchlblgmbaa
