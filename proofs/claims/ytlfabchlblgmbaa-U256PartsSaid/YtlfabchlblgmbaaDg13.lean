/- florinref01: Of, Not. (hM) -/
import Derived.Test.YtlfabchlblgmbaaDg4
namespace Go.Proofs.Ytlfabchlblgmbaa
set_option linter.unusedVariables false
set_option linter.unusedSimpArgs false
open Go.RowKit

set_option maxHeartbeats 1000000 in
theorem ofD_any (n : Int) (w : World) : Calls Try.prog 23 #[.int .u64 n] w fun e w' => e = .returned (U4 n 0 0 0) ∧ Below w.heap.size w w' := by
  go_enter Try.func23, Try.ntmps23
  go_wp2
  exact bodyPost_ret (v := U4 n 0 0 0) (by simp [results, Try.results23, go_sem]) rfl ⟨rfl, by (repeat (first | exact Below.refl _ _ | refine Below.drew ?_ | refine bl_drewN ?_ _ | (refine Below.alloc ?_ (by first | exact Nat.le_refl _ | (simp; done) | (simp; omega)) _)))⟩

theorem not_step (X D P a : Int) (h : X + D = P - 1) : X + (1 - a) * P + (D + a * P) = P * 2 - 1 := by
  rw [Int.sub_mul]
  omega

def NotRel (w : World) (gx : Nat) (A : Int) (i : Value) (wr : World) : Prop :=
  ∃ (j : Nat) (f : Nat → Int), j ≤ 256 ∧ i = .int .i64 j ∧ (∀ k, 0 ≤ f k ∧ f k < 2) ∧ (∀ k, j ≤ k → f k = digN A k) ∧ sumD f j + sumD (digN A) j = 2 ^ j - 1 ∧ Below w.heap.size w wr ∧
    Mem wr [(gx, il f 256), (w.heap.size + 1, [.int .u64 0, .int .u64 0, .int .u64 0, .int .u64 0])]

set_option maxRecDepth 100000 in
set_option maxHeartbeats 4000000 in
theorem notD_any {a0 a1 a2 a3 s0 s1 s2 s3 : Int} (ha : B4 a0 a1 a2 a3) (hs : B4 s0 s1 s2 s3) (h : N4 s0 s1 s2 s3 = WW - 1 - N4 a0 a1 a2 a3) (w : World) :
    Calls Try.prog 21 #[U4 a0 a1 a2 a3] w fun e w' => e = .returned (U4 s0 s1 s2 s3) ∧ Below w.heap.size w w' := by
  have han := ha.nn
  have hD1 := fun w => digits_any ha w
  obtain ⟨A, hA⟩ : ∃ A, N4 a0 a1 a2 a3 = A := ⟨_, rfl⟩
  rw [hA] at han hD1 h
  have HD1 := Lib.hid hD1
  have HA := Lib.hid (And.intro han (And.intro hs h))
  clear hD1 han hA h hs ha
  have hB := Below.refl w.heap.size w
  have hM := Lib.hid (mem_nil w)
  have hF : True := trivial
  have hZD := zeroD
  go_enter Try.func21, Try.ntmps21
  go_wp2_with (first | (go_at_call 45; ((with_reducible refine (HD1.out _).mono ?_); rintro e w1 ⟨rfl, hb⟩; have hB : Below w.heap.size w w1 := (by refine bl_then ?_ hb; (repeat (first | exact hB | refine bl_al ?_ _ | refine Below.setCell ?_ (by first | exact hgs | exact Nat.le_succ_of_le hgs | exact hgs2 | exact hgs3) _ | refine Below.drew ?_ | refine bl_drewN ?_ _))); (first | with_reducible have hM2 := Mem.later hb (hM.out) | with_reducible have hM2 := Mem.later hb (Mem.al (hM.out) _ _) | with_reducible have hM2 := Mem.later hb (Mem.al (Mem.al (hM.out) _ _) _ _) | with_reducible have hM2 := Mem.later hb (Mem.al (Mem.al (Mem.al (hM.out) _ _) _ _) _ _) | with_reducible have hM2 := Mem.later hb (Mem.al (Mem.al (Mem.al (Mem.al (hM.out) _ _) _ _) _ _) _ _) | with_reducible have hM2 := Mem.later hb (Mem.drew (hM.out)) | with_reducible have hM2 := Mem.later hb (Mem.drew (Mem.al (hM.out) _ _)) | with_reducible have hM2 := Mem.later hb (Mem.al (Mem.drew (hM.out)) _ _) | with_reducible have hM2 := Mem.later hb (Mem.al (Mem.drew (Mem.al (hM.out) _ _)) _ _) | with_reducible have hM2 := Mem.later hb (Mem.drew (Mem.al (Mem.al (hM.out) _ _) _ _)) | with_reducible have hM2 := Mem.later hb (Mem.al (Mem.al (Mem.drew (hM.out)) _ _) _ _) | with_reducible have hM2 := Mem.later hb (Mem.drew (Mem.drew (hM.out))) | with_reducible have hM2 := Mem.later hb (Mem.drew (Mem.al (Mem.drew (hM.out)) _ _)) | with_reducible have hM2 := Mem.later hb (Mem.drew (Mem.al (Mem.al (Mem.al (hM.out) _ _) _ _) _ _)) | with_reducible have hM2 := Mem.later hb (Mem.al (Mem.al (Mem.drew (Mem.al (hM.out) _ _)) _ _) _ _) | with_reducible have hM2 := Mem.later hb (Mem.drew (Mem.al (Mem.drew (Mem.al (hM.out) _ _)) _ _)) | with_reducible have hM2 := Mem.later hb (Mem.al (Mem.al (Mem.al (Mem.al (Mem.al (hM.out) _ _) _ _) _ _) _ _) _ _) | with_reducible have hM2 := Mem.later hb (Mem.al (Mem.al (Mem.al (Mem.al (Mem.al (Mem.al (hM.out) _ _) _ _) _ _) _ _) _ _) _ _) | with_reducible have hM2 := Mem.later hb (Mem.al (Mem.al (Mem.al (Mem.al (Mem.al (Mem.al (Mem.al (hM.out) _ _) _ _) _ _) _ _) _ _) _ _) _ _) | with_reducible have hM2 := Mem.later hb (Mem.al (Mem.al (Mem.al (Mem.al (Mem.al (Mem.al (Mem.al (Mem.al (hM.out) _ _) _ _) _ _) _ _) _ _) _ _) _ _) _ _)); (try simp only [World.size_alloc, size_drew] at hM2); clear hM; have hM := Lib.hid hM2; clear hF; have hF := hM2; (try simp only [Mem, cellsAt, World.size_alloc, Nat.zero_add, Nat.reduceAdd, and_true] at hF); clear hM2; clear hb; have hlt1 := Lib.hid hF.1.1)) | (refine wpList_store_newD rfl (.tmp 3) (.tmp 6) _ rfl rfl (digN A) rfl rfl hM.out ?_; intro W hMW hbW; have hBW := bl_then hB hbW; clear hM hF hB; have hM := Lib.hid hMW; have hF := hMW; (simp only [Mem, cellsAt, Nat.zero_add, Nat.reduceAdd, and_true] at hF); have hB := hBW; clear hMW hbW hBW))
  obtain ⟨gx, hgx⟩ : ∃ g, w1.heap.size = g := ⟨_, rfl⟩
  rw [hgx] at hlt1 hM
  simp only [hgx]
  have HM0 := hM
  clear hM hF hgx
  go_loopw [4] (fun i wr => NotRel w gx A i wr) (fun i _ => 256 - (intOf i).toNat)
  case atStart =>
    refine ⟨0, digN A, Nat.zero_le _, rfl, digN_b A, fun k _ => rfl, by simp [sumD], hB, ?_⟩
    exact ⟨HM0.out.1, HM0.out.2.1, trivial⟩
  case round =>
    obtain ⟨j, f, hj, rfl, hf, hfA, hsum, hB, hm⟩ := hrel
    have hne2 : w.heap.size + 1 ≠ gx := by have := hlt1.out; omega
    have hgs : w.heap.size ≤ gx := by have := hlt1.out; omega
    by_cases hlt : j < 256
    · obtain ⟨x, hx⟩ : ∃ x, digN A j = x := ⟨_, rfl⟩
      have hxb := digN_b A j
      rw [hx] at hxb
      have hcx : wr.cell? ⟨gx, j, none⟩ = some (.int .i64 x) := by
        rw [← hx, ← hfA j (Nat.le_refl _)]
        exact cellsAt_get hm.1.2.2 (il_get f 256 j hlt)
      have hfz := hm.1.2.1 j
      have hw1 : IntKind.i64.wrap (1 - x) = 1 - x := by rw [IntKind.wrap_i64]; omega
      have hstep : Hid (sumD (setF f j (1 - x)) (j + 1) + sumD (digN A) (j + 1) = 2 ^ (j + 1) - 1) := by
        show _ = _
        rw [sumD_set, Int.pow_succ]
        show _ + (sumD (digN A) j + digN A j * 2 ^ j) = _
        rw [hx]
        exact not_step (sumD f j) _ (2 ^ j) x hsum
      have HX := Lib.hid (And.intro hf (And.intro hfA hm))
      have HN := Lib.hid hne2
      have HU : Hid (0 ≤ 1 - x ∧ 1 - x < 2) := ⟨by omega, by omega⟩
      clear hf hfA hsum hm hne2 hx
      have hj0 : (j : Int) < 256 := by omega
      go_wp2
      refine ⟨⟨j + 1, setF f j (1 - x), by omega, by go_num, setF_b HX.out.1 j _ HU.out, fun k hk => by unfold setF; rw [if_neg (by omega)]; exact HX.out.2.1 k (by omega), hstep.out, hB.setCell (by show w.heap.size ≤ gx; exact hgs) _, ?_⟩, by simp [intOf]; omega⟩
      have h1 := Mem.setN (k := j) (v := .int .i64 (1 - x)) (b := gx) (by intro p hp; simp at hp; rcases hp with rfl; exact HN.out) HX.out.2.2
      rw [il_set] at h1
      exact h1
    · have hjn : j = 256 := by omega
      subst hjn
      obtain ⟨hA1, hsB, hsum0⟩ := HA.out
      have e256 : (2 : Int) ^ 256 = WW := by decide
      rw [sum_dig A hA1.1 256, e256, Int.emod_eq_of_lt hA1.1 hA1.2] at hsum
      have HNum := Lib.hid (fun w => numD_any f hf hsB (by omega) w)
      have hM := Lib.hid hm
      have hF := hm
      simp only [Mem, cellsAt, Nat.zero_add, Nat.reduceAdd, and_true] at hF
      clear hm hf hfA hsum hA1 hsB hsum0 e256 HA hgs
      have hgs2 : w.heap.size ≤ w.heap.size + 1 := by omega
      go_wp2_with (first | (refine Go.wpList_load_mid rfl 77 (.tmp 3) rfl gx 0 rfl (il f 256) _ (rangeAt_of hM.out.1.2.2) Try.underlying77 rfl (by rw [il_len]; kernel_rfl) ?_) | (go_at_call 46; (with_reducible refine (HNum.out _).mono ?_); rintro e w1 ⟨rfl, hb⟩; have hB : Below w.heap.size w w1 := (by refine bl_then ?_ hb; (repeat (first | exact hB | refine bl_al ?_ _ | refine Below.setCell ?_ (by first | exact hgs | exact Nat.le_succ_of_le hgs | exact hgs2 | exact hgs3) _ | refine Below.drew ?_ | refine bl_drewN ?_ _))); (first | with_reducible have hM2 := Mem.later hb (hM.out) | with_reducible have hM2 := Mem.later hb (Mem.al (hM.out) _ _) | with_reducible have hM2 := Mem.later hb (Mem.al (Mem.al (hM.out) _ _) _ _) | with_reducible have hM2 := Mem.later hb (Mem.al (Mem.al (Mem.al (hM.out) _ _) _ _) _ _) | with_reducible have hM2 := Mem.later hb (Mem.al (Mem.al (Mem.al (Mem.al (hM.out) _ _) _ _) _ _) _ _) | with_reducible have hM2 := Mem.later hb (Mem.drew (hM.out)) | with_reducible have hM2 := Mem.later hb (Mem.drew (Mem.al (hM.out) _ _)) | with_reducible have hM2 := Mem.later hb (Mem.al (Mem.drew (hM.out)) _ _) | with_reducible have hM2 := Mem.later hb (Mem.al (Mem.drew (Mem.al (hM.out) _ _)) _ _) | with_reducible have hM2 := Mem.later hb (Mem.drew (Mem.al (Mem.al (hM.out) _ _) _ _)) | with_reducible have hM2 := Mem.later hb (Mem.al (Mem.al (Mem.drew (hM.out)) _ _) _ _) | with_reducible have hM2 := Mem.later hb (Mem.drew (Mem.drew (hM.out))) | with_reducible have hM2 := Mem.later hb (Mem.drew (Mem.al (Mem.drew (hM.out)) _ _)) | with_reducible have hM2 := Mem.later hb (Mem.drew (Mem.al (Mem.al (Mem.al (hM.out) _ _) _ _) _ _)) | with_reducible have hM2 := Mem.later hb (Mem.al (Mem.al (Mem.drew (Mem.al (hM.out) _ _)) _ _) _ _) | with_reducible have hM2 := Mem.later hb (Mem.drew (Mem.al (Mem.drew (Mem.al (hM.out) _ _)) _ _)) | with_reducible have hM2 := Mem.later hb (Mem.al (Mem.al (Mem.al (Mem.al (Mem.al (hM.out) _ _) _ _) _ _) _ _) _ _) | with_reducible have hM2 := Mem.later hb (Mem.al (Mem.al (Mem.al (Mem.al (Mem.al (Mem.al (hM.out) _ _) _ _) _ _) _ _) _ _) _ _) | with_reducible have hM2 := Mem.later hb (Mem.al (Mem.al (Mem.al (Mem.al (Mem.al (Mem.al (Mem.al (hM.out) _ _) _ _) _ _) _ _) _ _) _ _) _ _) | with_reducible have hM2 := Mem.later hb (Mem.al (Mem.al (Mem.al (Mem.al (Mem.al (Mem.al (Mem.al (Mem.al (hM.out) _ _) _ _) _ _) _ _) _ _) _ _) _ _) _ _)); (try simp only [World.size_alloc, size_drew] at hM2); clear hM; have hM := Lib.hid hM2; clear hF; have hF := hM2; (try simp only [Mem, cellsAt, World.size_alloc, Nat.zero_add, Nat.reduceAdd, and_true] at hF); clear hM2; clear hb))
      refine bodyPost_ret (v := U4 s0 s1 s2 s3) (by simp [results, Try.results21, go_sem, hF]) rfl ?_
      exact ⟨rfl, by (repeat (first | exact hB | refine bl_al ?_ _ | refine Below.setCell ?_ (by first | exact hgs | exact Nat.le_succ_of_le hgs | exact hgs2 | exact hgs3) _ | refine Below.drew ?_ | refine bl_drewN ?_ _))⟩
end Go.Proofs.Ytlfabchlblgmbaa
