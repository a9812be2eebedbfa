/- florinref01: Add. (hM) -/
import Derived.Test.YtlfabchlblgmbaaDg3
namespace Go.Proofs.Ytlfabchlblgmbaa
set_option linter.unusedVariables false
set_option linter.unusedSimpArgs false
open Go.RowKit

theorem digN_b (N : Int) (i : Nat) : 0 ≤ digN N i ∧ digN N i < 2 := ⟨Int.emod_nonneg _ (by decide), Int.emod_lt_of_pos _ (by decide)⟩
theorem setF_b {f : Nat → Int} (hf : ∀ k, 0 ≤ f k ∧ f k < 2) (j : Nat) (v : Int) (hv : 0 ≤ v ∧ v < 2) : ∀ k, 0 ≤ setF f j v k ∧ setF f j v k < 2 := fun k => by
  unfold setF
  split
  · exact hv
  · exact hf k
theorem sumD_set (f : Nat → Int) (j : Nat) (v : Int) : sumD (setF f j v) (j + 1) = sumD f j + v * 2 ^ j := by
  show sumD (setF f j v) j + setF f j v j * 2 ^ j = _
  rw [sumD_congr j (g := f) (fun k hk => by unfold setF; rw [if_neg (by omega)])]
  unfold setF
  rw [if_pos rfl]
theorem carry_step (X C P a b c s u v : Int) (h : X + c * P = C) (hs : s = a + b + c) (huv : s = u * 2 + v) : X + v * P + u * (P * 2) = C + (a + b) * P := by
  rw [← h]
  have e : u * (P * 2) = u * 2 * P := by ac_rfl
  rw [e, Int.add_assoc, ← Int.add_mul, Int.add_assoc, ← Int.add_mul, show v + u * 2 = c + (a + b) by omega]

def AddRel (w : World) (gx gy : Nat) (A B : Int) (c i : Value) (wr : World) : Prop :=
  ∃ (j : Nat) (cc : Int) (f : Nat → Int), j ≤ 256 ∧ c = .int .i64 cc ∧ i = .int .i64 j ∧ (0 ≤ cc ∧ cc ≤ 1) ∧ (∀ k, 0 ≤ f k ∧ f k < 2) ∧ (∀ k, j ≤ k → f k = digN A k) ∧ sumD f j + cc * 2 ^ j = sumD (digN A) j + sumD (digN B) j ∧ Below w.heap.size w wr ∧
    Mem wr [(gy, il (digN B) 256), (gx, il f 256), (w.heap.size + 1 + 1, [.int .u64 0, .int .u64 0, .int .u64 0, .int .u64 0])]

set_option maxRecDepth 100000 in
set_option maxHeartbeats 4000000 in
theorem addD_any {a0 a1 a2 a3 b0 b1 b2 b3 s0 s1 s2 s3 : Int} (ha : B4 a0 a1 a2 a3) (hb : B4 b0 b1 b2 b3) (hs : B4 s0 s1 s2 s3) (c : Bool) (h : N4 a0 a1 a2 a3 + N4 b0 b1 b2 b3 = N4 s0 s1 s2 s3 + (if c then WW else 0)) (w : World) :
    Calls Try.prog 10 #[U4 a0 a1 a2 a3, U4 b0 b1 b2 b3] w fun e w' => e = .returned (.tuple #[U4 s0 s1 s2 s3, .bool c]) ∧ Below w.heap.size w w' := by
  have han := ha.nn
  have hbn := hb.nn
  have hD1 := fun w => digits_any ha w
  have hD2 := fun w => digits_any hb w
  obtain ⟨A, hA⟩ : ∃ A, N4 a0 a1 a2 a3 = A := ⟨_, rfl⟩
  obtain ⟨B, hB'⟩ : ∃ B, N4 b0 b1 b2 b3 = B := ⟨_, rfl⟩
  rw [hA] at han hD1 h
  rw [hB'] at hbn hD2 h
  have HD1 := Lib.hid hD1
  have HD2 := Lib.hid hD2
  have HA := Lib.hid (And.intro han (And.intro hbn (And.intro hs h)))
  clear hD1 hD2 han hbn hA hB' h hs ha hb
  have hB := Below.refl w.heap.size w
  have hM := Lib.hid (mem_nil w)
  have hF : True := trivial
  have hZD := zeroD
  go_enter Try.func10, Try.ntmps10
  go_wp2_with (first | (go_at_call 45; first | ((with_reducible refine (HD1.out _).mono ?_); rintro e w1 ⟨rfl, hb⟩; have hB : Below w.heap.size w w1 := (by refine bl_then ?_ hb; (repeat (first | exact hB | refine bl_al ?_ _ | refine Below.setCell ?_ (by first | exact hgs | exact Nat.le_succ_of_le hgs | exact hgs2 | exact hgs3) _ | refine Below.drew ?_ | refine bl_drewN ?_ _))); (first | with_reducible have hM2 := Mem.later hb (hM.out) | with_reducible have hM2 := Mem.later hb (Mem.al (hM.out) _ _) | with_reducible have hM2 := Mem.later hb (Mem.al (Mem.al (hM.out) _ _) _ _) | with_reducible have hM2 := Mem.later hb (Mem.al (Mem.al (Mem.al (hM.out) _ _) _ _) _ _) | with_reducible have hM2 := Mem.later hb (Mem.al (Mem.al (Mem.al (Mem.al (hM.out) _ _) _ _) _ _) _ _) | with_reducible have hM2 := Mem.later hb (Mem.drew (hM.out)) | with_reducible have hM2 := Mem.later hb (Mem.drew (Mem.al (hM.out) _ _)) | with_reducible have hM2 := Mem.later hb (Mem.al (Mem.drew (hM.out)) _ _) | with_reducible have hM2 := Mem.later hb (Mem.al (Mem.drew (Mem.al (hM.out) _ _)) _ _) | with_reducible have hM2 := Mem.later hb (Mem.drew (Mem.al (Mem.al (hM.out) _ _) _ _)) | with_reducible have hM2 := Mem.later hb (Mem.al (Mem.al (Mem.drew (hM.out)) _ _) _ _) | with_reducible have hM2 := Mem.later hb (Mem.drew (Mem.drew (hM.out))) | with_reducible have hM2 := Mem.later hb (Mem.drew (Mem.al (Mem.drew (hM.out)) _ _)) | with_reducible have hM2 := Mem.later hb (Mem.drew (Mem.al (Mem.al (Mem.al (hM.out) _ _) _ _) _ _)) | with_reducible have hM2 := Mem.later hb (Mem.al (Mem.al (Mem.drew (Mem.al (hM.out) _ _)) _ _) _ _) | with_reducible have hM2 := Mem.later hb (Mem.drew (Mem.al (Mem.drew (Mem.al (hM.out) _ _)) _ _)) | with_reducible have hM2 := Mem.later hb (Mem.al (Mem.al (Mem.al (Mem.al (Mem.al (hM.out) _ _) _ _) _ _) _ _) _ _) | with_reducible have hM2 := Mem.later hb (Mem.al (Mem.al (Mem.al (Mem.al (Mem.al (Mem.al (hM.out) _ _) _ _) _ _) _ _) _ _) _ _) | with_reducible have hM2 := Mem.later hb (Mem.al (Mem.al (Mem.al (Mem.al (Mem.al (Mem.al (Mem.al (hM.out) _ _) _ _) _ _) _ _) _ _) _ _) _ _) | with_reducible have hM2 := Mem.later hb (Mem.al (Mem.al (Mem.al (Mem.al (Mem.al (Mem.al (Mem.al (Mem.al (hM.out) _ _) _ _) _ _) _ _) _ _) _ _) _ _) _ _)); (try simp only [World.size_alloc, size_drew] at hM2); clear hM; have hM := Lib.hid hM2; clear hF; have hF := hM2; (try simp only [Mem, cellsAt, World.size_alloc, Nat.zero_add, Nat.reduceAdd, and_true] at hF); clear hM2; clear hb; have hlt1 := Lib.hid hF.1.1) | ((with_reducible refine (HD2.out _).mono ?_); rintro e w2 ⟨rfl, hb⟩; have hB : Below w.heap.size w w2 := (by refine bl_then ?_ hb; (repeat (first | exact hB | refine bl_al ?_ _ | refine Below.setCell ?_ (by first | exact hgs | exact Nat.le_succ_of_le hgs | exact hgs2 | exact hgs3) _ | refine Below.drew ?_ | refine bl_drewN ?_ _))); (first | with_reducible have hM2 := Mem.later hb (hM.out) | with_reducible have hM2 := Mem.later hb (Mem.al (hM.out) _ _) | with_reducible have hM2 := Mem.later hb (Mem.al (Mem.al (hM.out) _ _) _ _) | with_reducible have hM2 := Mem.later hb (Mem.al (Mem.al (Mem.al (hM.out) _ _) _ _) _ _) | with_reducible have hM2 := Mem.later hb (Mem.al (Mem.al (Mem.al (Mem.al (hM.out) _ _) _ _) _ _) _ _) | with_reducible have hM2 := Mem.later hb (Mem.drew (hM.out)) | with_reducible have hM2 := Mem.later hb (Mem.drew (Mem.al (hM.out) _ _)) | with_reducible have hM2 := Mem.later hb (Mem.al (Mem.drew (hM.out)) _ _) | with_reducible have hM2 := Mem.later hb (Mem.al (Mem.drew (Mem.al (hM.out) _ _)) _ _) | with_reducible have hM2 := Mem.later hb (Mem.drew (Mem.al (Mem.al (hM.out) _ _) _ _)) | with_reducible have hM2 := Mem.later hb (Mem.al (Mem.al (Mem.drew (hM.out)) _ _) _ _) | with_reducible have hM2 := Mem.later hb (Mem.drew (Mem.drew (hM.out))) | with_reducible have hM2 := Mem.later hb (Mem.drew (Mem.al (Mem.drew (hM.out)) _ _)) | with_reducible have hM2 := Mem.later hb (Mem.drew (Mem.al (Mem.al (Mem.al (hM.out) _ _) _ _) _ _)) | with_reducible have hM2 := Mem.later hb (Mem.al (Mem.al (Mem.drew (Mem.al (hM.out) _ _)) _ _) _ _) | with_reducible have hM2 := Mem.later hb (Mem.drew (Mem.al (Mem.drew (Mem.al (hM.out) _ _)) _ _)) | with_reducible have hM2 := Mem.later hb (Mem.al (Mem.al (Mem.al (Mem.al (Mem.al (hM.out) _ _) _ _) _ _) _ _) _ _) | with_reducible have hM2 := Mem.later hb (Mem.al (Mem.al (Mem.al (Mem.al (Mem.al (Mem.al (hM.out) _ _) _ _) _ _) _ _) _ _) _ _) | with_reducible have hM2 := Mem.later hb (Mem.al (Mem.al (Mem.al (Mem.al (Mem.al (Mem.al (Mem.al (hM.out) _ _) _ _) _ _) _ _) _ _) _ _) _ _) | with_reducible have hM2 := Mem.later hb (Mem.al (Mem.al (Mem.al (Mem.al (Mem.al (Mem.al (Mem.al (Mem.al (hM.out) _ _) _ _) _ _) _ _) _ _) _ _) _ _) _ _)); (try simp only [World.size_alloc, size_drew] at hM2); clear hM; have hM := Lib.hid hM2; clear hF; have hF := hM2; (try simp only [Mem, cellsAt, World.size_alloc, Nat.zero_add, Nat.reduceAdd, and_true] at hF); clear hM2; clear hb; have hlt2 := Lib.hid hF.1.1)) | (refine wpList_store_newD rfl (.tmp 6) (.tmp 12) _ rfl rfl (digN A) rfl rfl hM.out ?_; intro W hMW hbW; have hBW := bl_then hB hbW; clear hM hF hB; have hM := Lib.hid hMW; have hF := hMW; (simp only [Mem, cellsAt, Nat.zero_add, Nat.reduceAdd, and_true] at hF); have hB := hBW; clear hMW hbW hBW) | (refine wpList_store_newD rfl (.tmp 7) (.tmp 14) _ rfl rfl (digN B) rfl rfl hM.out ?_; intro W hMW hbW; have hBW := bl_then hB hbW; clear hM hF hB; have hM := Lib.hid hMW; have hF := hMW; (simp only [Mem, cellsAt, Nat.zero_add, Nat.reduceAdd, and_true] at hF); have hB := hBW; clear hMW hbW hBW))
  obtain ⟨gx, hgx⟩ : ∃ g, w1.heap.size = g := ⟨_, rfl⟩
  obtain ⟨gy, hgy⟩ : ∃ g, w2.heap.size = g := ⟨_, rfl⟩
  rw [hgx] at hlt1 hlt2 hM
  rw [hgy] at hlt2 hM
  simp only [hgx, hgy]
  have HM0 := hM
  clear hM hF hgx hgy
  go_loopw [8, 9] (fun c i wr => AddRel w gx gy A B c i wr) (fun _ i _ => 256 - (intOf i).toNat)
  case atStart =>
    refine ⟨0, 0, digN A, Nat.zero_le _, rfl, rfl, by omega, digN_b A, fun k _ => rfl, by simp [sumD], hB, ?_⟩
    exact ⟨HM0.out.1, HM0.out.2.1, HM0.out.2.2.1, trivial⟩
  case round =>
    obtain ⟨j, cc, f, hj, rfl, rfl, hcc, hf, hfA, hsum, hB, hm⟩ := hrel
    have hne1 : gx ≠ gy := by have := hlt2.out; omega
    have hne2 : w.heap.size + 1 + 1 ≠ gx := by have := hlt1.out; omega
    have hne3 : w.heap.size + 1 + 1 ≠ gy := by have := hlt1.out; have := hlt2.out; omega
    have hgs : w.heap.size ≤ gx := by have := hlt1.out; omega
    by_cases hlt : j < 256
    · obtain ⟨x, hx⟩ : ∃ x, digN A j = x := ⟨_, rfl⟩
      obtain ⟨y, hy⟩ : ∃ y, digN B j = y := ⟨_, rfl⟩
      have hxb := digN_b A j
      have hyb := digN_b B j
      rw [hx] at hxb
      rw [hy] at hyb
      obtain ⟨s, hs⟩ : ∃ s, x + y + cc = s := ⟨_, rfl⟩
      obtain ⟨v, hv⟩ : ∃ v, s % 2 = v := ⟨_, rfl⟩
      obtain ⟨u, hu⟩ : ∃ u, s / 2 = u := ⟨_, rfl⟩
      have hvt : s.tmod 2 = v := by rw [Int.tmod_eq_emod_of_nonneg (by omega)]; exact hv
      have hut : s.tdiv 2 = u := by rw [Int.tdiv_eq_ediv_of_nonneg (by omega)]; exact hu
      have hcx : wr.cell? ⟨gx, j, none⟩ = some (.int .i64 x) := by
        rw [← hx, ← hfA j (Nat.le_refl _)]
        exact cellsAt_get hm.2.1.2.2 (il_get f 256 j hlt)
      have hcy : wr.cell? ⟨gy, j, none⟩ = some (.int .i64 y) := by
        rw [← hy]
        exact cellsAt_get hm.1.2.2 (il_get (digN B) 256 j hlt)
      have hfz := hm.2.1.2.1 j
      have hw1 : IntKind.i64.wrap (x + y) = x + y := by rw [IntKind.wrap_i64]; omega
      have hw2 : IntKind.i64.wrap s = s := by rw [IntKind.wrap_i64]; omega
      have hstep : Hid (sumD (setF f j v) (j + 1) + u * 2 ^ (j + 1) = sumD (digN A) (j + 1) + sumD (digN B) (j + 1)) := by
        show _ = _
        rw [sumD_set, Int.pow_succ]
        show _ = sumD (digN A) j + digN A j * 2 ^ j + (sumD (digN B) j + digN B j * 2 ^ j)
        rw [hx, hy]
        have e := carry_step (sumD f j) _ (2 ^ j) x y cc s u v hsum hs.symm (by omega)
        rw [e, Int.add_mul]
        omega
      have HX := Lib.hid (And.intro hf (And.intro hfA hm))
      have HC := Lib.hid (And.intro hcx hcy)
      have HN := Lib.hid (And.intro hne1 (And.intro hne2 hne3))
      have HU : Hid ((0 ≤ u ∧ u ≤ 1) ∧ (0 ≤ v ∧ v < 2)) := ⟨by omega, by omega⟩
      clear hf hfA hsum hm hne1 hne2 hne3 hx hy
      go_wp2
      refine wp_plan (fun q => q.cell? ⟨gx, j, none⟩ = some (.int .i64 x) ∧ q.cell? ⟨gy, j, none⟩ = some (.int .i64 y)) [] [0, 1, 2, 3, 4, 5, 6, 7, 8, 9] (by kernel_rfl) (by kernel_rfl) HC.out (fun hHeld => ?_)
      iterate 10 (refine wpT_take rfl (by rfl) (by rfl) (by intro w' hSw; (try dsimp only [Mem, cellsAt] at hSw); go_simp; (try with_reducible rfl)) (by assumption) ?_; (try simp only [Act.put, List.setIfInBounds_toArray, List.set_cons_zero, List.set_cons_succ]))
      (refine wpT_nil ?_)
      go_wp2
      refine ⟨⟨j + 1, u, setF f j v, by omega, rfl, by go_num, HU.out.1, setF_b HX.out.1 j v HU.out.2, fun k hk => by unfold setF; rw [if_neg (by omega)]; exact HX.out.2.1 k (by omega), hstep.out, hB.drew.setCell (by show w.heap.size ≤ gx; exact hgs) _, ?_⟩, by simp [intOf]; omega⟩
      have h1 := Mem.setN (k := j) (v := .int .i64 v) (b := gx) (by intro p hp; simp at hp; rcases hp with rfl | rfl; exact HN.out.1.symm; exact HN.out.2.1) (Mem.swap HX.out.2.2)
      rw [il_set] at h1
      exact Mem.drew (Mem.swap h1)
    · have hjn : j = 256 := by omega
      subst hjn
      obtain ⟨hA1, hB1, hsB, hsum0⟩ := HA.out
      have e256 : (2 : Int) ^ 256 = WW := by decide
      have hSb := sumD_b f hf 256
      rw [sum_dig A hA1.1 256, sum_dig B hB1.1 256, e256, Int.emod_eq_of_lt hA1.1 hA1.2, Int.emod_eq_of_lt hB1.1 hB1.2] at hsum
      rw [e256] at hSb
      have hsn := hsB.nn
      have he : N4 s0 s1 s2 s3 = sumD f 256 ∧ (cc == 1) = c := by
        have hcc2 : cc = 0 ∨ cc = 1 := by omega
        rcases hcc2 with rfl | rfl <;> cases c <;> simp at hsum hsum0 ⊢ <;> omega
      have HNum := Lib.hid (fun w => numD_any f hf hsB he.1 w)
      have hc1 := he.2
      have hM := Lib.hid hm
      have hF := hm
      simp only [Mem, cellsAt, Nat.zero_add, Nat.reduceAdd, and_true] at hF
      clear hm hf hfA hsum hSb hsn he hA1 hB1 hsB hsum0 e256 HA hgs
      have hgs2 : w.heap.size ≤ w.heap.size + 1 + 1 := by omega
      go_wp2_with (first | (refine Go.wpList_load_mid rfl 77 (.tmp 6) rfl gx 0 rfl (il f 256) _ (rangeAt_of hM.out.2.1.2.2) Try.underlying77 rfl (by rw [il_len]; kernel_rfl) ?_) | (go_at_call 46; (with_reducible refine (HNum.out _).mono ?_); rintro e w1 ⟨rfl, hb⟩; have hB : Below w.heap.size w w1 := (by refine bl_then ?_ hb; (repeat (first | exact hB | refine bl_al ?_ _ | refine Below.setCell ?_ (by first | exact hgs | exact Nat.le_succ_of_le hgs | exact hgs2 | exact hgs3) _ | refine Below.drew ?_ | refine bl_drewN ?_ _))); (first | with_reducible have hM2 := Mem.later hb (hM.out) | with_reducible have hM2 := Mem.later hb (Mem.al (hM.out) _ _) | with_reducible have hM2 := Mem.later hb (Mem.al (Mem.al (hM.out) _ _) _ _) | with_reducible have hM2 := Mem.later hb (Mem.al (Mem.al (Mem.al (hM.out) _ _) _ _) _ _) | with_reducible have hM2 := Mem.later hb (Mem.al (Mem.al (Mem.al (Mem.al (hM.out) _ _) _ _) _ _) _ _) | with_reducible have hM2 := Mem.later hb (Mem.drew (hM.out)) | with_reducible have hM2 := Mem.later hb (Mem.drew (Mem.al (hM.out) _ _)) | with_reducible have hM2 := Mem.later hb (Mem.al (Mem.drew (hM.out)) _ _) | with_reducible have hM2 := Mem.later hb (Mem.al (Mem.drew (Mem.al (hM.out) _ _)) _ _) | with_reducible have hM2 := Mem.later hb (Mem.drew (Mem.al (Mem.al (hM.out) _ _) _ _)) | with_reducible have hM2 := Mem.later hb (Mem.al (Mem.al (Mem.drew (hM.out)) _ _) _ _) | with_reducible have hM2 := Mem.later hb (Mem.drew (Mem.drew (hM.out))) | with_reducible have hM2 := Mem.later hb (Mem.drew (Mem.al (Mem.drew (hM.out)) _ _)) | with_reducible have hM2 := Mem.later hb (Mem.drew (Mem.al (Mem.al (Mem.al (hM.out) _ _) _ _) _ _)) | with_reducible have hM2 := Mem.later hb (Mem.al (Mem.al (Mem.drew (Mem.al (hM.out) _ _)) _ _) _ _) | with_reducible have hM2 := Mem.later hb (Mem.drew (Mem.al (Mem.drew (Mem.al (hM.out) _ _)) _ _)) | with_reducible have hM2 := Mem.later hb (Mem.al (Mem.al (Mem.al (Mem.al (Mem.al (hM.out) _ _) _ _) _ _) _ _) _ _) | with_reducible have hM2 := Mem.later hb (Mem.al (Mem.al (Mem.al (Mem.al (Mem.al (Mem.al (hM.out) _ _) _ _) _ _) _ _) _ _) _ _) | with_reducible have hM2 := Mem.later hb (Mem.al (Mem.al (Mem.al (Mem.al (Mem.al (Mem.al (Mem.al (hM.out) _ _) _ _) _ _) _ _) _ _) _ _) _ _) | with_reducible have hM2 := Mem.later hb (Mem.al (Mem.al (Mem.al (Mem.al (Mem.al (Mem.al (Mem.al (Mem.al (hM.out) _ _) _ _) _ _) _ _) _ _) _ _) _ _) _ _)); (try simp only [World.size_alloc, size_drew] at hM2); clear hM; have hM := Lib.hid hM2; clear hF; have hF := hM2; (try simp only [Mem, cellsAt, World.size_alloc, Nat.zero_add, Nat.reduceAdd, and_true] at hF); clear hM2; clear hb))
      refine bodyPost_ret (v := .tuple #[U4 s0 s1 s2 s3, .bool c]) (by simp [results, Try.results10, go_sem, hF]) rfl ?_
      exact ⟨rfl, by (repeat (first | exact hB | refine bl_al ?_ _ | refine Below.setCell ?_ (by first | exact hgs | exact Nat.le_succ_of_le hgs | exact hgs2 | exact hgs3) _ | refine Below.drew ?_ | refine bl_drewN ?_ _))⟩
end Go.Proofs.Ytlfabchlblgmbaa
