/- florinref01: Shr. (hM) Merged: Dg8, Dg9. -/
import Derived.Test.YtlfabchlblgmbaaDg7
/- florinref01: Shr. (hM) -/
namespace Go.Proofs.Ytlfabchlblgmbaa
set_option linter.unusedVariables false
set_option linter.unusedSimpArgs false
open Go.RowKit

theorem dig_shr (A : Int) (m k : Nat) : digN (A / 2 ^ m) k = digN A (k + m) := by
  unfold digN
  rw [Int.ediv_ediv_of_nonneg (Int.le_of_lt (two_pow_pos m)), ← Int.pow_add, Nat.add_comm m k]
theorem dig_high {A : Int} (h : 0 ≤ A ∧ A < WW) (k : Nat) (hk : 256 ≤ k) : digN A k = 0 := by
  unfold digN
  rw [Int.ediv_eq_zero_of_lt h.1 (Int.lt_of_lt_of_le h.2 (by rw [show WW = (2 : Int) ^ 256 by decide]; exact pow2_le hk))]
  rfl
/-- the digits moved down, the first j of them -/
def dnF (A : Int) (m j k : Nat) : Int := if k < j ∧ k + m < 256 then digN A (k + m) else 0
theorem dnF_b (A : Int) (m j k : Nat) : 0 ≤ dnF A m j k ∧ dnF A m j k < 2 := by
  unfold dnF
  split
  · exact digN_b _ _
  · omega
theorem dnF_set (A : Int) (m j : Nat) (h : j + m < 256) : setF (dnF A m j) j (digN A (j + m)) = dnF A m (j + 1) := by
  funext k
  unfold setF dnF
  by_cases hk : k = j
  · subst hk
    rw [if_pos rfl, if_pos ⟨by omega, h⟩]
  · rw [if_neg hk]
    by_cases h2 : k < j ∧ k + m < 256
    · rw [if_pos h2, if_pos ⟨by omega, h2.2⟩]
    · rw [if_neg h2, if_neg (by omega)]
theorem dnF_skip (A : Int) (m j : Nat) (h : ¬ j + m < 256) : dnF A m j = dnF A m (j + 1) := by
  funext k
  unfold dnF
  by_cases h2 : k < j ∧ k + m < 256
  · rw [if_pos h2, if_pos ⟨by omega, h2.2⟩]
  · rw [if_neg h2, if_neg (by omega)]
theorem sum_dn {A : Int} (h : 0 ≤ A ∧ A < WW) (m : Nat) : sumD (dnF A m 256) 256 = A / 2 ^ m := by
  have hp := two_pow_pos m
  have h0 := Int.ediv_nonneg h.1 (Int.le_of_lt hp)
  have h1 := Int.ediv_le_self (2 ^ m) h.1
  rw [sumD_congr 256 (g := digN (A / 2 ^ m)) (fun k hk => by
    rw [dig_shr]
    unfold dnF
    by_cases h2 : k + m < 256
    · rw [if_pos ⟨hk, h2⟩]
    · rw [if_neg (by omega), dig_high h _ (by omega)]), sum_dig _ h0, show (2 : Int) ^ 256 = WW by decide, Int.emod_eq_of_lt h0 (by omega)]
def ShrRel (w : World) (gx gy : Nat) (A : Int) (m : Nat) (i : Value) (wr : World) : Prop :=
  ∃ j : Nat, j ≤ 256 ∧ i = .int .i64 j ∧ Below w.heap.size w wr ∧
    Mem wr [(gy, il (dnF A m j) 256), (gx, il (digN A) 256), (w.heap.size + 1, [.int .u64 0, .int .u64 0, .int .u64 0, .int .u64 0])]

set_option maxRecDepth 100000 in
set_option maxHeartbeats 4000000 in
theorem shrD_low {a0 a1 a2 a3 s0 s1 s2 s3 : Int} (ha : B4 a0 a1 a2 a3) (hs : B4 s0 s1 s2 s3) (n : Int) (m : Nat) (hm1 : (if 0 < n then n else 0) = (m : Int)) (hm2 : max n 0 = (m : Int)) (hm256 : m < 256) (h : N4 s0 s1 s2 s3 = N4 a0 a1 a2 a3 / 2 ^ m) (w : World) :
    Calls Try.prog 29 #[U4 a0 a1 a2 a3, .int .i64 n] w fun e w' => e = .returned (U4 s0 s1 s2 s3) ∧ Below w.heap.size w w' := by
  have han := ha.nn
  have hD1 := fun w => digits_any ha w
  obtain ⟨A, hA⟩ : ∃ A, N4 a0 a1 a2 a3 = A := ⟨_, rfl⟩
  rw [hA] at han hD1 h
  have HD1 := Lib.hid hD1
  have HNum := Lib.hid (fun w => numD_any (dnF A m 256) (dnF_b A m 256) hs (by rw [sum_dn han]; exact h) w)
  have hm3 : (m : Int) < 256 := by omega
  clear hD1 han hA h hs ha
  have hB := Below.refl w.heap.size w
  have hM := Lib.hid (mem_nil w)
  have hF : True := trivial
  have hZD := zeroD
  go_enter Try.func29, Try.ntmps29
  go_wp2_with (first | (go_at_call 45; ((with_reducible refine (HD1.out _).mono ?_); rintro e w1 ⟨rfl, hb⟩; have hB : Below w.heap.size w w1 := (by refine bl_then ?_ hb; (repeat (first | exact hB | refine bl_al ?_ _ | refine Below.setCell ?_ (by first | exact hgs | exact Nat.le_succ_of_le hgs | exact hgs2 | exact hgs3) _ | refine Below.drew ?_ | refine bl_drewN ?_ _))); (first | with_reducible have hM2 := Mem.later hb (hM.out) | with_reducible have hM2 := Mem.later hb (Mem.al (hM.out) _ _) | with_reducible have hM2 := Mem.later hb (Mem.al (Mem.al (hM.out) _ _) _ _) | with_reducible have hM2 := Mem.later hb (Mem.al (Mem.al (Mem.al (hM.out) _ _) _ _) _ _) | with_reducible have hM2 := Mem.later hb (Mem.al (Mem.al (Mem.al (Mem.al (hM.out) _ _) _ _) _ _) _ _) | with_reducible have hM2 := Mem.later hb (Mem.drew (hM.out)) | with_reducible have hM2 := Mem.later hb (Mem.drew (Mem.al (hM.out) _ _)) | with_reducible have hM2 := Mem.later hb (Mem.al (Mem.drew (hM.out)) _ _) | with_reducible have hM2 := Mem.later hb (Mem.al (Mem.drew (Mem.al (hM.out) _ _)) _ _) | with_reducible have hM2 := Mem.later hb (Mem.drew (Mem.al (Mem.al (hM.out) _ _) _ _)) | with_reducible have hM2 := Mem.later hb (Mem.al (Mem.al (Mem.drew (hM.out)) _ _) _ _) | with_reducible have hM2 := Mem.later hb (Mem.drew (Mem.drew (hM.out))) | with_reducible have hM2 := Mem.later hb (Mem.drew (Mem.al (Mem.drew (hM.out)) _ _)) | with_reducible have hM2 := Mem.later hb (Mem.drew (Mem.al (Mem.al (Mem.al (hM.out) _ _) _ _) _ _)) | with_reducible have hM2 := Mem.later hb (Mem.al (Mem.al (Mem.drew (Mem.al (hM.out) _ _)) _ _) _ _) | with_reducible have hM2 := Mem.later hb (Mem.drew (Mem.al (Mem.drew (Mem.al (hM.out) _ _)) _ _)) | with_reducible have hM2 := Mem.later hb (Mem.al (Mem.al (Mem.al (Mem.al (Mem.al (hM.out) _ _) _ _) _ _) _ _) _ _) | with_reducible have hM2 := Mem.later hb (Mem.al (Mem.al (Mem.al (Mem.al (Mem.al (Mem.al (hM.out) _ _) _ _) _ _) _ _) _ _) _ _) | with_reducible have hM2 := Mem.later hb (Mem.al (Mem.al (Mem.al (Mem.al (Mem.al (Mem.al (Mem.al (hM.out) _ _) _ _) _ _) _ _) _ _) _ _) _ _) | with_reducible have hM2 := Mem.later hb (Mem.al (Mem.al (Mem.al (Mem.al (Mem.al (Mem.al (Mem.al (Mem.al (hM.out) _ _) _ _) _ _) _ _) _ _) _ _) _ _) _ _)); (try simp only [World.size_alloc, size_drew] at hM2); clear hM; have hM := Lib.hid hM2; clear hF; have hF := hM2; (try simp only [Mem, cellsAt, World.size_alloc, Nat.zero_add, Nat.reduceAdd, and_true] at hF); clear hM2; clear hb; have hlt1 := Lib.hid hF.1.1)) | (refine wpList_store_newD rfl (.tmp 5) (.tmp 11) _ rfl rfl (digN A) rfl rfl hM.out ?_; intro W hMW hbW; have hBW := bl_then hB hbW; clear hM hF hB; have hM := Lib.hid hMW; have hF := hMW; (simp only [Mem, cellsAt, Nat.zero_add, Nat.reduceAdd, and_true] at hF); have hB := hBW; clear hMW hbW hBW))
  obtain ⟨gx, hgx⟩ : ∃ g, w1.heap.size = g := ⟨_, rfl⟩
  obtain ⟨gy, hgy⟩ : ∃ g, W.heap.size = g := ⟨_, rfl⟩
  have hlt2 := hF.1.1
  rw [hgx] at hlt1 hM hlt2
  rw [hgy] at hlt2
  simp only [hgx, hgy]
  have HM0 := hM
  have HL2 := Lib.hid hlt2
  have HY := Lib.hid hgy
  clear hM hF hgx hgy hlt2
  go_loopw [7] (fun i wr => ShrRel w gx gy A m i wr) (fun i _ => 256 - (intOf i).toNat)
  case atStart =>
    have h1 := Mem.al HM0.out (il (fun _ => 0) 256) 77
    rw [HY.out] at h1
    refine ⟨0, Nat.zero_le _, rfl, bl_al hB _, ?_, h1.2.1, h1.2.2.1, trivial⟩
    rw [il_congr (g := fun _ => 0) (fun k _ => by unfold dnF; rw [if_neg (by omega)])]
    exact h1.1
  case round =>
    obtain ⟨j, hj, rfl, hB, hm⟩ := hrel
    have hgs : w.heap.size ≤ gy := by have := hlt1.out; have := HL2.out; omega
    have D : Hid (∀ p ∈ [(gx, il (digN A) 256), (w.heap.size + 1, [Value.int .u64 0, .int .u64 0, .int .u64 0, .int .u64 0])], p.1 ≠ gy) := by
      have := hlt1.out
      have := HL2.out
      intro p hp
      simp at hp
      rcases hp with rfl | rfl <;> (dsimp only; omega)
    by_cases hlt : j < 256
    · have hj0 : (j : Int) < 256 := by omega
      have hjw : IntKind.i64.wrap ((j : Int) + (m : Int)) = ((j + m : Nat) : Int) := by rw [IntKind.wrap_i64]; omega
      by_cases hjm : j + m < 256
      · obtain ⟨t, ht⟩ : ∃ t, j + m = t := ⟨_, rfl⟩
        rw [ht] at hjw
        obtain ⟨x, hx⟩ : ∃ x, digN A t = x := ⟨_, rfl⟩
        have ht2 : (t : Int) < 256 := by omega
        have ht3 : t < 256 := by omega
        have hjt : (j : Int) + (m : Int) = (t : Int) := by omega
        have hwt : IntKind.i64.wrap (t : Int) = (t : Int) := by rw [IntKind.wrap_i64]; omega
        have hcx : wr.cell? ⟨gx, t, none⟩ = some (.int .i64 x) := by
          rw [← hx]
          exact cellsAt_get hm.2.1.2.2 (il_get (digN A) 256 t ht3)
        have hcy : wr.cell? ⟨gy, j, none⟩ = some (.int .i64 (dnF A m j j)) := cellsAt_get hm.1.2.2 (il_get (dnF A m j) 256 j hlt)
        have hfz := hm.1.2.1 j
        have HX := Lib.hid (And.intro hm (show setF (dnF A m j) j x = dnF A m (j + 1) by rw [← hx, ← ht]; exact dnF_set A m j hjm))
        clear hm hx ht hjm
        go_wp2
        refine ⟨⟨j + 1, by omega, by go_num, hB.setCell (by show w.heap.size ≤ gy; exact hgs) _, ?_⟩, by simp [intOf]; omega⟩
        have h1 := Mem.setN (k := j) (v := .int .i64 x) (b := gy) D.out HX.out.1
        rw [il_set, HX.out.2] at h1
        exact h1
      · have hjt : ¬ (j : Int) + (m : Int) < 256 := by omega
        have hjt2 : ¬ ((j + m : Nat) : Int) < 256 := by omega
        have HX := Lib.hid (And.intro hm (dnF_skip A m j hjm))
        clear hm
        go_wp2
        refine ⟨⟨j + 1, by omega, by go_num, by (repeat (first | exact hB | refine bl_al ?_ _ | refine Below.setCell ?_ (by first | exact hgs | exact Nat.le_succ_of_le hgs | exact hgs2 | exact hgs3) _ | refine Below.drew ?_ | refine bl_drewN ?_ _)), ?_⟩, by simp [intOf]; omega⟩
        rw [← HX.out.2]
        exact HX.out.1
    · have hjn : j = 256 := by omega
      subst hjn
      have hM := Lib.hid hm
      have hF := hm
      simp only [Mem, cellsAt, Nat.zero_add, Nat.reduceAdd, and_true] at hF
      clear hm hgs D
      have hgs2 : w.heap.size ≤ w.heap.size + 1 := by omega
      go_wp2_with (first | (refine Go.wpList_load_mid rfl 77 (.tmp 6) rfl gy 0 rfl (il (dnF A m 256) 256) _ (rangeAt_of hM.out.1.2.2) Try.underlying77 rfl (by rw [il_len]; kernel_rfl) ?_) | (go_at_call 46; (with_reducible refine (HNum.out _).mono ?_); rintro e w1 ⟨rfl, hb⟩; have hB : Below w.heap.size w w1 := (by refine bl_then ?_ hb; (repeat (first | exact hB | refine bl_al ?_ _ | refine Below.setCell ?_ (by first | exact hgs | exact Nat.le_succ_of_le hgs | exact hgs2 | exact hgs3) _ | refine Below.drew ?_ | refine bl_drewN ?_ _))); (first | with_reducible have hM2 := Mem.later hb (hM.out) | with_reducible have hM2 := Mem.later hb (Mem.al (hM.out) _ _) | with_reducible have hM2 := Mem.later hb (Mem.al (Mem.al (hM.out) _ _) _ _) | with_reducible have hM2 := Mem.later hb (Mem.al (Mem.al (Mem.al (hM.out) _ _) _ _) _ _) | with_reducible have hM2 := Mem.later hb (Mem.al (Mem.al (Mem.al (Mem.al (hM.out) _ _) _ _) _ _) _ _) | with_reducible have hM2 := Mem.later hb (Mem.drew (hM.out)) | with_reducible have hM2 := Mem.later hb (Mem.drew (Mem.al (hM.out) _ _)) | with_reducible have hM2 := Mem.later hb (Mem.al (Mem.drew (hM.out)) _ _) | with_reducible have hM2 := Mem.later hb (Mem.al (Mem.drew (Mem.al (hM.out) _ _)) _ _) | with_reducible have hM2 := Mem.later hb (Mem.drew (Mem.al (Mem.al (hM.out) _ _) _ _)) | with_reducible have hM2 := Mem.later hb (Mem.al (Mem.al (Mem.drew (hM.out)) _ _) _ _) | with_reducible have hM2 := Mem.later hb (Mem.drew (Mem.drew (hM.out))) | with_reducible have hM2 := Mem.later hb (Mem.drew (Mem.al (Mem.drew (hM.out)) _ _)) | with_reducible have hM2 := Mem.later hb (Mem.drew (Mem.al (Mem.al (Mem.al (hM.out) _ _) _ _) _ _)) | with_reducible have hM2 := Mem.later hb (Mem.al (Mem.al (Mem.drew (Mem.al (hM.out) _ _)) _ _) _ _) | with_reducible have hM2 := Mem.later hb (Mem.drew (Mem.al (Mem.drew (Mem.al (hM.out) _ _)) _ _)) | with_reducible have hM2 := Mem.later hb (Mem.al (Mem.al (Mem.al (Mem.al (Mem.al (hM.out) _ _) _ _) _ _) _ _) _ _) | with_reducible have hM2 := Mem.later hb (Mem.al (Mem.al (Mem.al (Mem.al (Mem.al (Mem.al (hM.out) _ _) _ _) _ _) _ _) _ _) _ _) | with_reducible have hM2 := Mem.later hb (Mem.al (Mem.al (Mem.al (Mem.al (Mem.al (Mem.al (Mem.al (hM.out) _ _) _ _) _ _) _ _) _ _) _ _) _ _) | with_reducible have hM2 := Mem.later hb (Mem.al (Mem.al (Mem.al (Mem.al (Mem.al (Mem.al (Mem.al (Mem.al (hM.out) _ _) _ _) _ _) _ _) _ _) _ _) _ _) _ _)); (try simp only [World.size_alloc, size_drew] at hM2); clear hM; have hM := Lib.hid hM2; clear hF; have hF := hM2; (try simp only [Mem, cellsAt, World.size_alloc, Nat.zero_add, Nat.reduceAdd, and_true] at hF); clear hM2; clear hb))
      refine bodyPost_ret (v := U4 s0 s1 s2 s3) (by simp [results, Try.results29, go_sem, hF]) rfl ?_
      exact ⟨rfl, by (repeat (first | exact hB | refine bl_al ?_ _ | refine Below.setCell ?_ (by first | exact hgs | exact Nat.le_succ_of_le hgs | exact hgs2 | exact hgs3) _ | refine Below.drew ?_ | refine bl_drewN ?_ _))⟩
end Go.Proofs.Ytlfabchlblgmbaa

/- florinref01: Shr, whole. (hM) -/
namespace Go.Proofs.Ytlfabchlblgmbaa
open Go.RowKit

def ShrHi (w : World) (gx gy : Nat) (A : Int) (i : Value) (wr : World) : Prop :=
  i = .int .i64 0 ∧ Below w.heap.size w wr ∧ Mem wr [(gy, il (fun _ => 0) 256), (gx, il (digN A) 256), (w.heap.size + 1, [.int .u64 0, .int .u64 0, .int .u64 0, .int .u64 0])]

set_option maxRecDepth 100000 in
set_option maxHeartbeats 4000000 in
theorem shrD_high {a0 a1 a2 a3 s0 s1 s2 s3 : Int} (ha : B4 a0 a1 a2 a3) (hs : B4 s0 s1 s2 s3) (n : Int) (m : Nat) (hm1 : (if 0 < n then n else 0) = (m : Int)) (hm2 : max n 0 = (m : Int)) (hm256 : ¬ m < 256) (h : N4 s0 s1 s2 s3 = N4 a0 a1 a2 a3 / 2 ^ m) (w : World) :
    Calls Try.prog 29 #[U4 a0 a1 a2 a3, .int .i64 n] w fun e w' => e = .returned (U4 s0 s1 s2 s3) ∧ Below w.heap.size w w' := by
  have han := ha.nn
  have hD1 := fun w => digits_any ha w
  obtain ⟨A, hA⟩ : ∃ A, N4 a0 a1 a2 a3 = A := ⟨_, rfl⟩
  rw [hA] at han hD1 h
  have HD1 := Lib.hid hD1
  have HNum := Lib.hid (fun w => numD_any (fun _ => 0) (fun _ => by omega) hs (by rw [h, ← sum_dn han m]; exact sumD_congr 256 (fun k _ => by unfold dnF; rw [if_neg (by omega)])) w)
  have hm3 : ¬ (m : Int) < 256 := by omega
  clear hD1 han hA h hs ha
  have hB := Below.refl w.heap.size w
  have hM := Lib.hid (mem_nil w)
  have hF : True := trivial
  have hZD := zeroD
  go_enter Try.func29, Try.ntmps29
  go_wp2_with (first | (go_at_call 45; ((with_reducible refine (HD1.out _).mono ?_); rintro e w1 ⟨rfl, hb⟩; have hB : Below w.heap.size w w1 := (by refine bl_then ?_ hb; (repeat (first | exact hB | refine bl_al ?_ _ | refine Below.setCell ?_ (by first | exact hgs | exact Nat.le_succ_of_le hgs | exact hgs2 | exact hgs3) _ | refine Below.drew ?_ | refine bl_drewN ?_ _))); (first | with_reducible have hM2 := Mem.later hb (hM.out) | with_reducible have hM2 := Mem.later hb (Mem.al (hM.out) _ _) | with_reducible have hM2 := Mem.later hb (Mem.al (Mem.al (hM.out) _ _) _ _) | with_reducible have hM2 := Mem.later hb (Mem.al (Mem.al (Mem.al (hM.out) _ _) _ _) _ _) | with_reducible have hM2 := Mem.later hb (Mem.al (Mem.al (Mem.al (Mem.al (hM.out) _ _) _ _) _ _) _ _) | with_reducible have hM2 := Mem.later hb (Mem.drew (hM.out)) | with_reducible have hM2 := Mem.later hb (Mem.drew (Mem.al (hM.out) _ _)) | with_reducible have hM2 := Mem.later hb (Mem.al (Mem.drew (hM.out)) _ _) | with_reducible have hM2 := Mem.later hb (Mem.al (Mem.drew (Mem.al (hM.out) _ _)) _ _) | with_reducible have hM2 := Mem.later hb (Mem.drew (Mem.al (Mem.al (hM.out) _ _) _ _)) | with_reducible have hM2 := Mem.later hb (Mem.al (Mem.al (Mem.drew (hM.out)) _ _) _ _) | with_reducible have hM2 := Mem.later hb (Mem.drew (Mem.drew (hM.out))) | with_reducible have hM2 := Mem.later hb (Mem.drew (Mem.al (Mem.drew (hM.out)) _ _)) | with_reducible have hM2 := Mem.later hb (Mem.drew (Mem.al (Mem.al (Mem.al (hM.out) _ _) _ _) _ _)) | with_reducible have hM2 := Mem.later hb (Mem.al (Mem.al (Mem.drew (Mem.al (hM.out) _ _)) _ _) _ _) | with_reducible have hM2 := Mem.later hb (Mem.drew (Mem.al (Mem.drew (Mem.al (hM.out) _ _)) _ _)) | with_reducible have hM2 := Mem.later hb (Mem.al (Mem.al (Mem.al (Mem.al (Mem.al (hM.out) _ _) _ _) _ _) _ _) _ _) | with_reducible have hM2 := Mem.later hb (Mem.al (Mem.al (Mem.al (Mem.al (Mem.al (Mem.al (hM.out) _ _) _ _) _ _) _ _) _ _) _ _) | with_reducible have hM2 := Mem.later hb (Mem.al (Mem.al (Mem.al (Mem.al (Mem.al (Mem.al (Mem.al (hM.out) _ _) _ _) _ _) _ _) _ _) _ _) _ _) | with_reducible have hM2 := Mem.later hb (Mem.al (Mem.al (Mem.al (Mem.al (Mem.al (Mem.al (Mem.al (Mem.al (hM.out) _ _) _ _) _ _) _ _) _ _) _ _) _ _) _ _)); (try simp only [World.size_alloc, size_drew] at hM2); clear hM; have hM := Lib.hid hM2; clear hF; have hF := hM2; (try simp only [Mem, cellsAt, World.size_alloc, Nat.zero_add, Nat.reduceAdd, and_true] at hF); clear hM2; clear hb; have hlt1 := Lib.hid hF.1.1)) | (refine wpList_store_newD rfl (.tmp 5) (.tmp 11) _ rfl rfl (digN A) rfl rfl hM.out ?_; intro W hMW hbW; have hBW := bl_then hB hbW; clear hM hF hB; have hM := Lib.hid hMW; have hF := hMW; (simp only [Mem, cellsAt, Nat.zero_add, Nat.reduceAdd, and_true] at hF); have hB := hBW; clear hMW hbW hBW))
  obtain ⟨gx, hgx⟩ : ∃ g, w1.heap.size = g := ⟨_, rfl⟩
  obtain ⟨gy, hgy⟩ : ∃ g, W.heap.size = g := ⟨_, rfl⟩
  have hlt2 := hF.1.1
  rw [hgx] at hlt1 hM hlt2
  rw [hgy] at hlt2
  simp only [hgx, hgy]
  have HM0 := hM
  have HL2 := Lib.hid hlt2
  have HY := Lib.hid hgy
  clear hM hF hgx hgy hlt2
  go_loopw [7] (fun i wr => ShrHi w gx gy A i wr) (fun _ _ => 0)
  case atStart =>
    have h1 := Mem.al HM0.out (il (fun _ => 0) 256) 77
    rw [HY.out] at h1
    exact ⟨rfl, bl_al hB _, h1.1, h1.2.1, h1.2.2.1, trivial⟩
  case round =>
    obtain ⟨rfl, hB, hm⟩ := hrel
    have hM := Lib.hid hm
    have hF := hm
    simp only [Mem, cellsAt, Nat.zero_add, Nat.reduceAdd, and_true] at hF
    clear hm
    have hgs2 : w.heap.size ≤ w.heap.size + 1 := by omega
    go_wp2_with (first | (refine Go.wpList_load_mid rfl 77 (.tmp 6) rfl gy 0 rfl (il (fun _ => 0) 256) _ (rangeAt_of hM.out.1.2.2) Try.underlying77 rfl (by rw [il_len]; kernel_rfl) ?_) | (go_at_call 46; (with_reducible refine (HNum.out _).mono ?_); rintro e w1 ⟨rfl, hb⟩; have hB : Below w.heap.size w w1 := (by refine bl_then ?_ hb; (repeat (first | exact hB | refine bl_al ?_ _ | refine Below.setCell ?_ (by first | exact hgs | exact Nat.le_succ_of_le hgs | exact hgs2 | exact hgs3) _ | refine Below.drew ?_ | refine bl_drewN ?_ _))); (first | with_reducible have hM2 := Mem.later hb (hM.out) | with_reducible have hM2 := Mem.later hb (Mem.al (hM.out) _ _) | with_reducible have hM2 := Mem.later hb (Mem.al (Mem.al (hM.out) _ _) _ _) | with_reducible have hM2 := Mem.later hb (Mem.al (Mem.al (Mem.al (hM.out) _ _) _ _) _ _) | with_reducible have hM2 := Mem.later hb (Mem.al (Mem.al (Mem.al (Mem.al (hM.out) _ _) _ _) _ _) _ _) | with_reducible have hM2 := Mem.later hb (Mem.drew (hM.out)) | with_reducible have hM2 := Mem.later hb (Mem.drew (Mem.al (hM.out) _ _)) | with_reducible have hM2 := Mem.later hb (Mem.al (Mem.drew (hM.out)) _ _) | with_reducible have hM2 := Mem.later hb (Mem.al (Mem.drew (Mem.al (hM.out) _ _)) _ _) | with_reducible have hM2 := Mem.later hb (Mem.drew (Mem.al (Mem.al (hM.out) _ _) _ _)) | with_reducible have hM2 := Mem.later hb (Mem.al (Mem.al (Mem.drew (hM.out)) _ _) _ _) | with_reducible have hM2 := Mem.later hb (Mem.drew (Mem.drew (hM.out))) | with_reducible have hM2 := Mem.later hb (Mem.drew (Mem.al (Mem.drew (hM.out)) _ _)) | with_reducible have hM2 := Mem.later hb (Mem.drew (Mem.al (Mem.al (Mem.al (hM.out) _ _) _ _) _ _)) | with_reducible have hM2 := Mem.later hb (Mem.al (Mem.al (Mem.drew (Mem.al (hM.out) _ _)) _ _) _ _) | with_reducible have hM2 := Mem.later hb (Mem.drew (Mem.al (Mem.drew (Mem.al (hM.out) _ _)) _ _)) | with_reducible have hM2 := Mem.later hb (Mem.al (Mem.al (Mem.al (Mem.al (Mem.al (hM.out) _ _) _ _) _ _) _ _) _ _) | with_reducible have hM2 := Mem.later hb (Mem.al (Mem.al (Mem.al (Mem.al (Mem.al (Mem.al (hM.out) _ _) _ _) _ _) _ _) _ _) _ _) | with_reducible have hM2 := Mem.later hb (Mem.al (Mem.al (Mem.al (Mem.al (Mem.al (Mem.al (Mem.al (hM.out) _ _) _ _) _ _) _ _) _ _) _ _) _ _) | with_reducible have hM2 := Mem.later hb (Mem.al (Mem.al (Mem.al (Mem.al (Mem.al (Mem.al (Mem.al (Mem.al (hM.out) _ _) _ _) _ _) _ _) _ _) _ _) _ _) _ _)); (try simp only [World.size_alloc, size_drew] at hM2); clear hM; have hM := Lib.hid hM2; clear hF; have hF := hM2; (try simp only [Mem, cellsAt, World.size_alloc, Nat.zero_add, Nat.reduceAdd, and_true] at hF); clear hM2; clear hb))
    refine bodyPost_ret (v := U4 s0 s1 s2 s3) (by simp [results, Try.results29, go_sem, hF]) rfl ?_
    exact ⟨rfl, by (repeat (first | exact hB | refine bl_al ?_ _ | refine Below.setCell ?_ (by first | exact hgs | exact Nat.le_succ_of_le hgs | exact hgs2 | exact hgs3) _ | refine Below.drew ?_ | refine bl_drewN ?_ _))⟩
theorem shrD_any {a0 a1 a2 a3 s0 s1 s2 s3 : Int} (ha : B4 a0 a1 a2 a3) (hs : B4 s0 s1 s2 s3) (n : Int) (h : N4 s0 s1 s2 s3 = N4 a0 a1 a2 a3 / 2 ^ n.toNat) (w : World) :
    Calls Try.prog 29 #[U4 a0 a1 a2 a3, .int .i64 n] w fun e w' => e = .returned (U4 s0 s1 s2 s3) ∧ Below w.heap.size w w' := by
  have h1 : (if 0 < n then n else 0) = (n.toNat : Int) := by split <;> omega
  have h2 : max n 0 = (n.toNat : Int) := by omega
  by_cases hm : n.toNat < 256
  · exact shrD_low ha hs n n.toNat h1 h2 hm h w
  · exact shrD_high ha hs n n.toNat h1 h2 hm h w
end Go.Proofs.Ytlfabchlblgmbaa
