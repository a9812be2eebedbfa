/- florinref01: Div, the numbers. (hM) Merged: Dg14, Dg15, Dg16. -/
import Derived.Test.YtlfabchlblgmbaaDg11
import Derived.Test.YtlfabchlblgmbaaDg5
import Derived.Test.YtlfabchlblgmbaaDg7
import Derived.Test.YtlfabchlblgmbaaWpy
/- florinref01: Div, the numbers. -/
namespace Go.Proofs.Ytlfabchlblgmbaa
set_option linter.unusedVariables false
set_option linter.unusedSimpArgs false
open Go.RowKit

theorem eq_nD {a0 a1 a2 a3 b0 b1 b2 b3 : Int} (ha : B4 a0 a1 a2 a3) (hb : B4 b0 b1 b2 b3) (w : World) :
    (binOp .eql 24 (U4 a0 a1 a2 a3) (U4 b0 b1 b2 b3)).run Try.prog w = .ok (.bool (decide (N4 a0 a1 a2 a3 = N4 b0 b1 b2 b3))) w := by
  have := eqlArr Try.prog 4 24 22 .u64 Try.underlying24 Try.underlying22 (by kernel_rfl) [a0, a1, a2, a3] [b0, b1, b2, b3] rfl rfl w
  rw [show ([a0, a1, a2, a3] == [b0, b1, b2, b3]) = decide (N4 a0 a1 a2 a3 = N4 b0 b1 b2 b3) by
    by_cases h : N4 a0 a1 a2 a3 = N4 b0 b1 b2 b3
    · obtain ⟨rfl, rfl, rfl, rfl⟩ := ha.inj hb h
      simp
    · have : ¬ (a0 = b0 ∧ a1 = b1 ∧ a2 = b2 ∧ a3 = b3) := fun ⟨h0, h1, h2, h3⟩ => h (by rw [h0, h1, h2, h3])
      rw [decide_eq_false h]
      simpa using this] at this
  exact this

/-- the quotient's digits, from the j-th on -/
def qF (Q : Int) (j k : Nat) : Int := if j ≤ k then digN Q k else 0
theorem qF_b (Q : Int) (j k : Nat) : 0 ≤ qF Q j k ∧ qF Q j k < 2 := by
  unfold qF
  split
  · exact digN_b _ _
  · omega
theorem qF_one (Q : Int) (j : Nat) (h : digN Q j = 1) : setF (qF Q (j + 1)) j 1 = qF Q j := by
  funext k
  unfold setF qF
  by_cases hk : k = j
  · subst hk
    rw [if_pos rfl, if_pos (Nat.le_refl _), h]
  · rw [if_neg hk]
    by_cases h2 : j + 1 ≤ k
    · rw [if_pos h2, if_pos (by omega)]
    · rw [if_neg h2, if_neg (by omega)]
theorem qF_zero (Q : Int) (j : Nat) (h : digN Q j = 0) : qF Q (j + 1) = qF Q j := by
  funext k
  unfold qF
  by_cases hk : k = j
  · subst hk
    rw [if_neg (by omega), if_pos (Nat.le_refl _), h]
  · by_cases h2 : j + 1 ≤ k
    · rw [if_pos h2, if_pos (by omega)]
    · rw [if_neg h2, if_neg (by omega)]
theorem sum_q {Q : Int} (h : 0 ≤ Q ∧ Q < WW) : sumD (qF Q 0) 256 = Q := by
  rw [sumD_congr 256 (g := digN Q) (fun k _ => by unfold qF; rw [if_pos (Nat.zero_le _)]), sum_dig _ h.1, show (2 : Int) ^ 256 = WW by decide, Int.emod_eq_of_lt h.1 h.2]
theorem div_digit (A b l bit : Int) (k : Nat) (hb : 0 < b) (hbit : digN A k = bit) (hl : l = A / 2 ^ (k + 1) % b) :
    (2 * l + bit < b → digN (A / b) k = 0 ∧ A / 2 ^ k % b = 2 * l + bit) ∧ (b ≤ 2 * l + bit → digN (A / b) k = 1 ∧ A / 2 ^ k % b = 2 * l + bit - b) := by
  have hA2 : A / 2 ^ (k + 1) = A / 2 ^ k / 2 := by rw [Int.pow_succ, Int.ediv_ediv_of_nonneg (Int.le_of_lt (two_pow_pos k))]
  have hsw : A / b / 2 ^ k = A / 2 ^ k / b := by rw [Int.ediv_ediv_of_nonneg (Int.le_of_lt hb), Int.mul_comm, ← Int.ediv_ediv_of_nonneg (Int.le_of_lt (two_pow_pos k))]
  rw [hA2] at hl
  obtain ⟨n1, n2⟩ := div_num (A / 2 ^ k) b l bit hb hbit hl
  constructor
  · intro h
    obtain ⟨e1, e2⟩ := n1 h
    refine ⟨?_, e2⟩
    unfold digN
    rw [hsw, e1]
    omega
  · intro h
    obtain ⟨e1, e2⟩ := n2 h
    refine ⟨?_, e2⟩
    unfold digN
    rw [hsw, e1]
    omega
end Go.Proofs.Ytlfabchlblgmbaa

/- florinref01: Div, the walk. (hM) -/
namespace Go.Proofs.Ytlfabchlblgmbaa
open Go.RowKit

def DivDRel (w : World) (gx gq gr : Nat) (A B b0 b1 b2 b3 : Int) (i : Value) (wr : World) : Prop :=
  ∃ (j : Nat) (l0 l1 l2 l3 : Int), j ≤ 256 ∧ i = .int .i64 ((j : Int) - 1) ∧ B4 l0 l1 l2 l3 ∧ N4 l0 l1 l2 l3 = A / 2 ^ j % B ∧ Below w.heap.size w wr ∧
    Mem wr [(gr, [.int .u64 l0, .int .u64 l1, .int .u64 l2, .int .u64 l3]), (gq, il (qF (A / B) j) 256), (gx, il (digN A) 256), (w.heap.size + 1 + 1 + 1, [.int .u64 0, .int .u64 0, .int .u64 0, .int .u64 0]), (w.heap.size + 1 + 1, [.int .u64 0, .int .u64 0, .int .u64 0, .int .u64 0]), (w.heap.size + 1, [.int .u64 b0, .int .u64 b1, .int .u64 b2, .int .u64 b3])]

/-- what one round computes -/
theorem divD_round {l0 l1 l2 l3 b0 b1 b2 b3 : Int} (hl : B4 l0 l1 l2 l3) (hb : B4 b0 b1 b2 b3) (hlb : N4 l0 l1 l2 l3 < N4 b0 b1 b2 b3) (d : Int) (hd : 0 ≤ d ∧ d < 2) :
    ∃ (s0 s1 s2 s3 z t0 t1 t2 t3 : Int) (over : Bool), B4 s0 s1 s2 s3 ∧ B4 z s1 s2 s3 ∧ B4 t0 t1 t2 t3 ∧ N4 s0 s1 s2 s3 = N4 l0 l1 l2 l3 * 2 ^ (1 : Int).toNat % WW ∧ decide (WW ≤ N4 l0 l1 l2 l3 * 2 ^ (1 : Int).toNat) = over ∧
      bits .or .u64 s0 d = z ∧ N4 z s1 s2 s3 + (if over then WW else 0) = 2 * N4 l0 l1 l2 l3 + d ∧
      (N4 b0 b1 b2 b3 ≤ 2 * N4 l0 l1 l2 l3 + d → N4 t0 t1 t2 t3 = 2 * N4 l0 l1 l2 l3 + d - N4 b0 b1 b2 b3) ∧ (over = true → N4 b0 b1 b2 b3 ≤ 2 * N4 l0 l1 l2 l3 + d) := by
  have hln := hl.nn
  have hbn := hb.nn
  have e2 : (2 : Int) ^ (1 : Int).toNat = 2 := by decide
  rw [e2]
  obtain ⟨s0, s1, s2, s3, hs, hsn⟩ := b4_of (N4 l0 l1 l2 l3 * 2 % WW) ⟨Int.emod_nonneg _ (by decide), Int.emod_lt_of_pos _ (by decide)⟩
  obtain ⟨over, hov⟩ : ∃ o, decide (WW ≤ N4 l0 l1 l2 l3 * 2) = o := ⟨_, rfl⟩
  have hm : N4 s0 s1 s2 s3 + (if over then WW else 0) = 2 * N4 l0 l1 l2 l3 := by
    have h1 := Int.mul_ediv_add_emod (N4 l0 l1 l2 l3 * 2) WW
    rw [← hsn] at h1
    have hsb := hs.nn
    have hW : 0 < WW := by decide
    cases over
    · have : ¬ WW ≤ N4 l0 l1 l2 l3 * 2 := by simpa using hov
      rw [Int.emod_eq_of_lt (by omega) (by omega)] at hsn
      simp
      omega
    · have : WW ≤ N4 l0 l1 l2 l3 * 2 := by simpa using hov
      have h2 : N4 l0 l1 l2 l3 * 2 % WW = N4 l0 l1 l2 l3 * 2 - WW := by
        rw [← Int.sub_emod_right, Int.emod_eq_of_lt (by omega) (by omega)]
      simp
      omega
  have hev : ∃ m, s0 = 2 ^ 1 * m := by
    refine ⟨s0 / 2, ?_⟩
    have : s0 % 2 = 0 := by
      unfold N4 WW WI at hm
      split at hm <;> omega
    omega
  have hor : bits .or .u64 s0 d = s0 + d := by
    obtain ⟨m, rfl⟩ := hev
    exact or_add m 1 d hd hs.h0 (by omega)
  have hs0 : 0 ≤ s0 + d ∧ s0 + d < WI := by
    have := hs.h0
    obtain ⟨m, rfl⟩ := hev
    unfold WI at *
    omega
  have hz : B4 (s0 + d) s1 s2 s3 := ⟨hs0, hs.h1, hs.h2, hs.h3⟩
  have hzn : N4 (s0 + d) s1 s2 s3 = N4 s0 s1 s2 s3 + d := by unfold N4; omega
  by_cases hT : N4 b0 b1 b2 b3 ≤ 2 * N4 l0 l1 l2 l3 + d
  · obtain ⟨t0, t1, t2, t3, ht, htn⟩ := b4_of (2 * N4 l0 l1 l2 l3 + d - N4 b0 b1 b2 b3) ⟨by omega, by omega⟩
    exact ⟨s0, s1, s2, s3, s0 + d, t0, t1, t2, t3, over, hs, hz, ht, hsn, hov, hor, by rw [hzn]; omega, fun _ => htn, fun _ => hT⟩
  · refine ⟨s0, s1, s2, s3, s0 + d, 0, 0, 0, 0, over, hs, hz, b4_zero, hsn, hov, hor, by rw [hzn]; omega, fun h => absurd h hT, fun h => ?_⟩
    rw [h] at hm
    simp at hm
    have := hs.nn
    omega

set_option maxRecDepth 100000 in
set_option maxHeartbeats 4000000 in
theorem divD_pos {a0 a1 a2 a3 b0 b1 b2 b3 q0 q1 q2 q3 r0 r1 r2 r3 : Int} (ha : B4 a0 a1 a2 a3) (hbb : B4 b0 b1 b2 b3) (hq : B4 q0 q1 q2 q3) (hr : B4 r0 r1 r2 r3) (hb0 : N4 b0 b1 b2 b3 ≠ 0)
    (hqn : N4 q0 q1 q2 q3 = N4 a0 a1 a2 a3 / N4 b0 b1 b2 b3) (hrn : N4 r0 r1 r2 r3 = N4 a0 a1 a2 a3 % N4 b0 b1 b2 b3) (w : World) :
    Calls Try.prog 25 #[U4 a0 a1 a2 a3, U4 b0 b1 b2 b3] w fun e w' => e = .returned (.tuple #[U4 q0 q1 q2 q3, U4 r0 r1 r2 r3, .bool true]) ∧ Below w.heap.size w w' := by
  have hE := fun w => eq_nD hbb b4_zero w
  rw [n4_zero, decide_eq_false hb0] at hE
  have han := ha.nn
  have hbn := hbb.nn
  have hD1 := fun w => digits_any ha w
  obtain ⟨A, hA⟩ : ∃ A, N4 a0 a1 a2 a3 = A := ⟨_, rfl⟩
  obtain ⟨B, hB'⟩ : ∃ B, N4 b0 b1 b2 b3 = B := ⟨_, rfl⟩
  rw [hA] at han hD1 hqn hrn
  rw [hB'] at hbn hqn hrn hb0
  have HD1 := Lib.hid hD1
  have hQ0 := Int.ediv_nonneg han.1 hbn.1
  have hQ1 := Int.ediv_le_self B han.1
  have HNum := Lib.hid (fun w => numD_any (qF (A / B) 0) (qF_b (A / B) 0) hq (by rw [sum_q ⟨hQ0, by omega⟩]; exact hqn) w)
  have HA := Lib.hid (And.intro hbb (And.intro hB' (And.intro han (And.intro hbn (And.intro hr (And.intro hrn hb0))))))
  clear hD1 han hbn hA hB' hbb hq hr hqn hrn hb0 hQ0 hQ1 ha
  have hB := Below.refl w.heap.size w
  have hM := Lib.hid (mem_nil w)
  have hF : True := trivial
  have hZD := zeroD
  go_enter Try.func25, Try.ntmps25
  go_wp2_with (first | (go_at_call 45; ((with_reducible refine (HD1.out _).mono ?_); rintro e w1 ⟨rfl, hb⟩; have hB : Below w.heap.size w w1 := (by refine bl_then ?_ hb; (repeat (first | exact hB | refine bl_al ?_ _ | refine Below.setCell ?_ (by first | exact hgs | exact Nat.le_succ_of_le hgs | exact hgs2 | exact hgs3) _ | refine Below.drew ?_ | refine bl_drewN ?_ _))); (first | with_reducible have hM2 := Mem.later hb (hM.out) | with_reducible have hM2 := Mem.later hb (Mem.al (hM.out) _ _) | with_reducible have hM2 := Mem.later hb (Mem.al (Mem.al (hM.out) _ _) _ _) | with_reducible have hM2 := Mem.later hb (Mem.al (Mem.al (Mem.al (hM.out) _ _) _ _) _ _) | with_reducible have hM2 := Mem.later hb (Mem.al (Mem.al (Mem.al (Mem.al (hM.out) _ _) _ _) _ _) _ _) | with_reducible have hM2 := Mem.later hb (Mem.drew (hM.out)) | with_reducible have hM2 := Mem.later hb (Mem.drew (Mem.al (hM.out) _ _)) | with_reducible have hM2 := Mem.later hb (Mem.al (Mem.drew (hM.out)) _ _) | with_reducible have hM2 := Mem.later hb (Mem.al (Mem.drew (Mem.al (hM.out) _ _)) _ _) | with_reducible have hM2 := Mem.later hb (Mem.drew (Mem.al (Mem.al (hM.out) _ _) _ _)) | with_reducible have hM2 := Mem.later hb (Mem.al (Mem.al (Mem.drew (hM.out)) _ _) _ _) | with_reducible have hM2 := Mem.later hb (Mem.drew (Mem.drew (hM.out))) | with_reducible have hM2 := Mem.later hb (Mem.drew (Mem.al (Mem.drew (hM.out)) _ _)) | with_reducible have hM2 := Mem.later hb (Mem.drew (Mem.al (Mem.al (Mem.al (hM.out) _ _) _ _) _ _)) | with_reducible have hM2 := Mem.later hb (Mem.al (Mem.al (Mem.drew (Mem.al (hM.out) _ _)) _ _) _ _) | with_reducible have hM2 := Mem.later hb (Mem.drew (Mem.al (Mem.drew (Mem.al (hM.out) _ _)) _ _)) | with_reducible have hM2 := Mem.later hb (Mem.al (Mem.al (Mem.al (Mem.al (Mem.al (hM.out) _ _) _ _) _ _) _ _) _ _) | with_reducible have hM2 := Mem.later hb (Mem.al (Mem.al (Mem.al (Mem.al (Mem.al (Mem.al (hM.out) _ _) _ _) _ _) _ _) _ _) _ _) | with_reducible have hM2 := Mem.later hb (Mem.al (Mem.al (Mem.al (Mem.al (Mem.al (Mem.al (Mem.al (hM.out) _ _) _ _) _ _) _ _) _ _) _ _) _ _) | with_reducible have hM2 := Mem.later hb (Mem.al (Mem.al (Mem.al (Mem.al (Mem.al (Mem.al (Mem.al (Mem.al (hM.out) _ _) _ _) _ _) _ _) _ _) _ _) _ _) _ _)); (try simp only [World.size_alloc, size_drew] at hM2); clear hM; have hM := Lib.hid hM2; clear hF; have hF := hM2; (try simp only [Mem, cellsAt, World.size_alloc, Nat.zero_add, Nat.reduceAdd, and_true] at hF); clear hM2; clear hb; have hlt1 := Lib.hid hF.1.1)) | (refine wpList_store_newD rfl (.tmp 7) (.tmp 21) _ rfl rfl (digN A) rfl rfl hM.out ?_; intro W hMW hbW; have hBW := bl_then hB hbW; clear hM hF hB; have hM := Lib.hid hMW; have hF := hMW; (simp only [Mem, cellsAt, Nat.zero_add, Nat.reduceAdd, and_true] at hF); have hB := hBW; clear hMW hbW hBW))
  obtain ⟨gx, hgx⟩ : ∃ g, w1.heap.size = g := ⟨_, rfl⟩
  obtain ⟨gq, hgq⟩ : ∃ g, W.heap.size = g := ⟨_, rfl⟩
  obtain ⟨gr, hgr⟩ : ∃ g, gq + 1 = g := ⟨_, rfl⟩
  have hlt2 := hF.1.1
  rw [hgx] at hlt1 hM hlt2
  rw [hgq] at hlt2
  have hsz := hgq
  simp only [hgx, hgq, hgr, World.size_alloc]
  have HM0 := hM
  have HG := Lib.hid (And.intro hlt2 (And.intro hgr hsz))
  have hEE := Lib.hid hE
  clear hM hF hgx hgq hgr hlt2 hsz hE hZD
  go_loopw [10] (fun i wr => DivDRel w gx gq gr A B b0 b1 b2 b3 i wr) (fun i _ => (intOf i + 1).toNat)
  case atStart =>
    obtain ⟨hlt2, hgr, hsz⟩ := HG.out
    obtain ⟨hbb, hB', han, hbn, hr, hrn, hb0⟩ := HA.out
    have h1 := Mem.al (Mem.al HM0.out (il (fun _ => 0) 256) 77) [.int .u64 0, .int .u64 0, .int .u64 0, .int .u64 0] 24
    simp only [World.size_alloc] at h1
    rw [hsz, hgr] at h1
    refine ⟨256, 0, 0, 0, 0, Nat.le_refl _, rfl, b4_zero, ?_, bl_al (bl_al hB _) _, ?_⟩
    · rw [n4_zero, show (2 : Int) ^ 256 = WW by decide, Int.ediv_eq_zero_of_lt han.1 han.2]
      simp
    · rw [show il (qF (A / B) 256) 256 = il (fun _ => 0) 256 from il_congr fun k hk => by unfold qF; rw [if_neg (by omega)]]
      exact ⟨h1.1, h1.2.1, h1.2.2.1, h1.2.2.2.1, h1.2.2.2.2.1, h1.2.2.2.2.2.1, trivial⟩
  case round =>
    obtain ⟨j, l0, l1, l2, l3, hj, rfl, hl, hln, hB, hm⟩ := hrel
    obtain ⟨hlt2, hgr, hsz⟩ := HG.out
    have hlt1' := hlt1.out
    have hgs : w.heap.size ≤ gr := by omega
    have hgsq : w.heap.size ≤ gq := by omega
    have hgs2 : w.heap.size ≤ w.heap.size + 1 + 1 := by omega
    have hgs3 : w.heap.size ≤ w.heap.size + 1 + 1 + 1 := by omega
    cases j with
    | zero =>
      have h0 : ((0 : Nat) : Int) - 1 = -1 := rfl
      simp only [h0]
      obtain ⟨hbb, hB', han, hbn, hr, hrn, hb0⟩ := HA.out
      rw [Int.pow_zero, Int.ediv_one] at hln
      obtain ⟨rfl, rfl, rfl, rfl⟩ := hl.inj hr (hln.trans hrn.symm)
      have D2 : Hid (∀ p ∈ [(gr, [Value.int .u64 l0, .int .u64 l1, .int .u64 l2, .int .u64 l3]), (gq, il (qF (A / B) 0) 256)], p.1 ≠ w.heap.size + 1 + 1) := by
        intro p hp; simp at hp; rcases hp with rfl | rfl <;> (dsimp only; omega)
      have HM := Lib.hid hm
      have hgsf : w.heap.size + 1 + 1 ≠ w.heap.size + 1 + 1 + 1 := by omega
      have HS : Hid (w.heap.size + 1 + 1 < wr.heap.size ∧ w.heap.size + 1 + 1 + 1 < wr.heap.size ∧ gr < wr.heap.size ∧ gq < wr.heap.size ∧ w.heap.size + 1 + 1 ≠ gr ∧ w.heap.size + 1 + 1 + 1 ≠ gr ∧ w.heap.size + 1 + 1 + 1 ≠ gq) := ⟨hm.2.2.2.2.1.1, hm.2.2.2.1.1, hm.1.1, hm.2.1.1, by omega, by omega, by omega⟩
      clear hm hbb hB' han hbn hr hrn hb0 hln hlt2 hgr hsz hlt1'
      go_wp2
      have hMz : Mem wr [(gr, [.int .u64 l0, .int .u64 l1, .int .u64 l2, .int .u64 l3]), (gq, il (qF (A / B) 0) 256)] := ⟨HM.out.1, HM.out.2.1, trivial⟩
      have HW := Lib.hid hMz
      clear hMz
      refine wp_plan (fun x => Mem x [(gr, [.int .u64 l0, .int .u64 l1, .int .u64 l2, .int .u64 l3]), (gq, il (qF (A / B) 0) 256)]) [1, 3, 4] [0, 2, 1, 3, 4, 5] (by kernel_rfl) (by kernel_rfl) (Mem.drew HW.out) (fun hHeld => ?_)
      (refine wpT_yield rfl (by rfl) (Go.yieldsIf_load_mid (by rfl) 77 (.tmp 8) rfl gq 0 rfl (il (qF (A / B) 0) 256) _ (fun w' h => rangeAt_of h.2.1.2.2) Try.underlying77 rfl (by rw [il_len]; kernel_rfl)) (by assumption) ?_; (try simp only [Act.put, List.setIfInBounds_toArray, List.set_cons_zero, List.set_cons_succ]))
      iterate 1 (refine wpT_take rfl (by rfl) (by rfl) (by intro w' hSw; (try dsimp only [Mem, cellsAt] at hSw); go_simp; (try with_reducible rfl)) (by assumption) ?_; (try simp only [Act.put, List.setIfInBounds_toArray, List.set_cons_zero, List.set_cons_succ]))
      (refine wpT_step rfl (by rfl) (fun K hK => ?_); go_simp)
      refine (HNum.out _).mono ?_
      rintro e w4 ⟨rfl, hb4⟩
      have HW4 := Lib.hid (Mem.later hb4 (Mem.drew HW.out))
      have HR4 := Lib.hid (Mem.later hb4 (Mem.drew (show Mem wr [(w.heap.size + 1 + 1, [.int .u64 0, .int .u64 0, .int .u64 0, .int .u64 0]), (w.heap.size + 1 + 1 + 1, [.int .u64 0, .int .u64 0, .int .u64 0, .int .u64 0])] from ⟨HM.out.2.2.2.2.1, HM.out.2.2.2.1, trivial⟩)))
      have hB4 : Below w.heap.size w w4 := bl_then hB.drew hb4
      have hF4 := HR4.out
      simp only [Mem, cellsAt, Nat.zero_add, Nat.reduceAdd, and_true] at hF4
      have D3 : Hid (∀ p ∈ [(gr, [Value.int .u64 l0, .int .u64 l1, .int .u64 l2, .int .u64 l3]), (gq, il (qF (A / B) 0) 256)], p.1 ≠ w.heap.size + 1 + 1 + 1) := by
        intro p hp; simp at hp; have := HS.out; rcases hp with rfl | rfl <;> (dsimp only; omega)
      clear hb4
      (refine hK.out _ _ _ (fun _ h => h) (HW4.out) (fun hHeld => ?_); clear hK; clear K; (try simp only [Act.put, List.setIfInBounds_toArray, List.set_cons_zero, List.set_cons_succ]))
      (refine wpT_step rfl (by rfl) (fun K hK => ?_); go_simp)
      have HW5 := Lib.hid (Mem.far4 q0 q1 q2 q3 D2.out HW4.out)
      (refine hK.out _ _ _ (fun _ h => h) (HW5.out) (fun hHeld => ?_); clear hK; clear K; (try simp only [Act.put, List.setIfInBounds_toArray, List.set_cons_zero, List.set_cons_succ]))
      (refine wpT_step rfl (by rfl) (fun K hK => ?_); go_simp)
      have HW6 := Lib.hid (Mem.far4 l0 l1 l2 l3 D3.out HW5.out)
      (refine hK.out _ _ _ (fun _ h => h) (HW6.out) (fun hHeld => ?_); clear hK; clear K; (try simp only [Act.put, List.setIfInBounds_toArray, List.set_cons_zero, List.set_cons_succ]))
      iterate 1 (refine wpT_take rfl (by rfl) (by rfl) (by intro w' hSw; (try dsimp only [Mem, cellsAt] at hSw); go_simp; (try with_reducible rfl)) (by assumption) ?_; (try simp only [Act.put, List.setIfInBounds_toArray, List.set_cons_zero, List.set_cons_succ]))
      (refine wpT_nil ?_)
      go_wp2
      have hR : Mem (wset4 (wset4 w4 (w.heap.size + 1 + 1) q0 q1 q2 q3) (w.heap.size + 1 + 1 + 1) l0 l1 l2 l3) [(w.heap.size + 1 + 1 + 1, [.int .u64 l0, .int .u64 l1, .int .u64 l2, .int .u64 l3]), (w.heap.size + 1 + 1, [.int .u64 q0, .int .u64 q1, .int .u64 q2, .int .u64 q3])] := by
        have h2 := Mem.set4 q0 q1 q2 q3 (by intro p hp; simp at hp; subst hp; simp) HR4.out
        exact Mem.set4 l0 l1 l2 l3 (by intro p hp; simp at hp; subst hp; simp) ⟨h2.2.1, h2.1, trivial⟩
      have hBl : Below w.heap.size w (wset4 (wset4 w4 (w.heap.size + 1 + 1) q0 q1 q2 q3) (w.heap.size + 1 + 1 + 1) l0 l1 l2 l3) := bl_set4 _ _ _ _ hgs3 (bl_set4 _ _ _ _ hgs2 hB4)
      simp only [Mem, cellsAt, Nat.zero_add, Nat.reduceAdd, and_true] at hR
      change bodyPost _ _ _ _ _ (wset4 (wset4 w4 (w.heap.size + 1 + 1) q0 q1 q2 q3) (w.heap.size + 1 + 1 + 1) l0 l1 l2 l3)
      generalize (wset4 (wset4 w4 (w.heap.size + 1 + 1) q0 q1 q2 q3) (w.heap.size + 1 + 1 + 1) l0 l1 l2 l3) = wf at *
      refine bodyPost_ret (v := .tuple #[U4 q0 q1 q2 q3, U4 l0 l1 l2 l3, .bool true]) (by simp [results, Try.results25, go_sem, hR]) rfl ?_
      exact ⟨rfl, hBl⟩
    | succ k =>
      have hi : ((k + 1 : Nat) : Int) - 1 = (k : Int) := by omega
      simp only [hi]
      obtain ⟨hbb, hB', han, hbn, hr, hrn, hb0⟩ := HA.out
      have hBp : 0 < B := by omega
      have hlB : N4 l0 l1 l2 l3 < N4 b0 b1 b2 b3 := by rw [hln, hB']; exact Int.emod_lt_of_pos _ hBp
      have hdb := digN_b A k
      obtain ⟨d, hd⟩ : ∃ d, digN A k = d := ⟨_, rfl⟩
      rw [hd] at hdb
      obtain ⟨s0, s1, s2, s3, z, t0, t1, t2, t3, over, hs, hz, ht, hsn, hov, hor, hzn, htn, hot⟩ := divD_round hl hbb hlB d hdb
      obtain ⟨c1, c2⟩ := div_digit A B (N4 l0 l1 l2 l3) d k hBp hd hln
      rw [hB'] at htn hot
      obtain ⟨T, hT⟩ : ∃ T, 2 * N4 l0 l1 l2 l3 + d = T := ⟨_, rfl⟩
      rw [hT] at hzn htn hot c1 c2
      have HShl := Lib.hid (fun w => shlD_any hl hs 1 hsn over hov w)
      have HCmp := Lib.hid (fun w => cmpD_any hz hbb w)
      have hk256 : (k : Int) < 256 := by omega
      have hk256' : k < 256 := by omega
      have hwd : IntKind.u64.wrap d = d := by rw [IntKind.wrap_u64]; omega
      have hcx : wr.cell? ⟨gx, k, none⟩ = some (.int .i64 d) := by
        rw [← hd]
        exact cellsAt_get hm.2.2.1.2.2 (il_get (digN A) 256 k hk256')
      have hcases : (over = true ∧ B ≤ T) ∨ (over = false ∧ B ≤ T) ∨ (over = false ∧ T < B) := by
        cases over
        · rcases Int.lt_or_le T B with h | h <;> simp [h]
        · simp [hot rfl]
      have hm0 := hm
      have hF := hm
      simp only [Mem, cellsAt, Nat.zero_add, Nat.reduceAdd, and_true] at hF
      have hM := Lib.hid hm
      have HD := Lib.hid hd
      clear hm hln hlB hd hsn hov hT hm0
      go_wp2_with (go_at_call 27; (with_reducible refine (HShl.out _).mono ?_); rintro e w1 ⟨rfl, hb⟩; have hB : Below w.heap.size w w1 := (by refine bl_then ?_ hb; (repeat (first | exact hB | refine bl_al ?_ _ | refine Below.setCell ?_ (by first | exact hgs | exact Nat.le_succ_of_le hgs | exact hgs2 | exact hgs3) _ | refine Below.drew ?_ | refine bl_drewN ?_ _))); (first | with_reducible have hM2 := Mem.later hb (hM.out) | with_reducible have hM2 := Mem.later hb (Mem.al (hM.out) _ _) | with_reducible have hM2 := Mem.later hb (Mem.al (Mem.al (hM.out) _ _) _ _) | with_reducible have hM2 := Mem.later hb (Mem.al (Mem.al (Mem.al (hM.out) _ _) _ _) _ _) | with_reducible have hM2 := Mem.later hb (Mem.al (Mem.al (Mem.al (Mem.al (hM.out) _ _) _ _) _ _) _ _) | with_reducible have hM2 := Mem.later hb (Mem.drew (hM.out)) | with_reducible have hM2 := Mem.later hb (Mem.drew (Mem.al (hM.out) _ _)) | with_reducible have hM2 := Mem.later hb (Mem.al (Mem.drew (hM.out)) _ _) | with_reducible have hM2 := Mem.later hb (Mem.al (Mem.drew (Mem.al (hM.out) _ _)) _ _) | with_reducible have hM2 := Mem.later hb (Mem.drew (Mem.al (Mem.al (hM.out) _ _) _ _)) | with_reducible have hM2 := Mem.later hb (Mem.al (Mem.al (Mem.drew (hM.out)) _ _) _ _) | with_reducible have hM2 := Mem.later hb (Mem.drew (Mem.drew (hM.out))) | with_reducible have hM2 := Mem.later hb (Mem.drew (Mem.al (Mem.drew (hM.out)) _ _)) | with_reducible have hM2 := Mem.later hb (Mem.drew (Mem.al (Mem.al (Mem.al (hM.out) _ _) _ _) _ _)) | with_reducible have hM2 := Mem.later hb (Mem.al (Mem.al (Mem.drew (Mem.al (hM.out) _ _)) _ _) _ _) | with_reducible have hM2 := Mem.later hb (Mem.drew (Mem.al (Mem.drew (Mem.al (hM.out) _ _)) _ _)) | with_reducible have hM2 := Mem.later hb (Mem.al (Mem.al (Mem.al (Mem.al (Mem.al (hM.out) _ _) _ _) _ _) _ _) _ _) | with_reducible have hM2 := Mem.later hb (Mem.al (Mem.al (Mem.al (Mem.al (Mem.al (Mem.al (hM.out) _ _) _ _) _ _) _ _) _ _) _ _) | with_reducible have hM2 := Mem.later hb (Mem.al (Mem.al (Mem.al (Mem.al (Mem.al (Mem.al (Mem.al (hM.out) _ _) _ _) _ _) _ _) _ _) _ _) _ _) | with_reducible have hM2 := Mem.later hb (Mem.al (Mem.al (Mem.al (Mem.al (Mem.al (Mem.al (Mem.al (Mem.al (hM.out) _ _) _ _) _ _) _ _) _ _) _ _) _ _) _ _)); (try simp only [World.size_alloc, size_drew] at hM2); clear hM; have hM := Lib.hid hM2; clear hF; have hF := hM2; (try simp only [Mem, cellsAt, World.size_alloc, Nat.zero_add, Nat.reduceAdd, and_true] at hF); clear hM2; clear hb)
      have hMa := Mem.al hM.out [.int .u64 s0, .int .u64 s1, .int .u64 s2, .int .u64 s3] 24
      have hcx1 : w1.cell? ⟨gx, k, none⟩ = some (.int .i64 d) := by
        rw [← HD.out]
        exact cellsAt_get hM.out.2.2.1.2.2 (il_get (digN A) 256 k hk256')
      have hltx := hM.out.2.2.1.1
      have HCX : Hid (∀ (T : TypeId) (c : Array Value), (w1.alloc (.cells c T)).cell? ⟨gx, k, none⟩ = some (.int .i64 d)) := fun T c => by
        rw [(below_alloc w1 _).cell (p := ⟨gx, k, none⟩) hltx]
        exact hcx1
      have HMa := Lib.hid hMa
      clear hMa hcx1 hltx hcx
      refine wp_plan (fun x => x.cell? ⟨gx, k, none⟩ = some (.int .i64 d)) [1, 8] [0, 2, 3, 4, 5, 1, 6, 7, 8] (by kernel_rfl) (by kernel_rfl) (HCX.out _ _) (fun hHeld => ?_)
      iterate 5 (refine wpT_take rfl (by rfl) (by rfl) (by intro w' hSw; (try dsimp only [Mem, cellsAt] at hSw); go_simp; (try with_reducible rfl)) (by assumption) ?_; (try simp only [Act.put, List.setIfInBounds_toArray, List.set_cons_zero, List.set_cons_succ]))
      (refine wpT_step rfl (by rfl) (fun K hK => ?_); go_simp)
      (refine hK.out _ _ _ (fun _ h => h) (hHeld) (fun hHeld => ?_); clear hK; clear K; (try simp only [Act.put, List.setIfInBounds_toArray, List.set_cons_zero, List.set_cons_succ]))
      iterate 2 (refine wpT_take rfl (by rfl) (by rfl) (by intro w' hSw; (try dsimp only [Mem, cellsAt] at hSw); go_simp; (try with_reducible rfl)) (by assumption) ?_; (try simp only [Act.put, List.setIfInBounds_toArray, List.set_cons_zero, List.set_cons_succ]))
      (refine wpT_step rfl (by rfl) (fun K hK => ?_); go_simp)
      (refine hK.out _ _ _ (fun _ h => h) (HCX.out _ _) (fun hHeld => ?_); clear hK; clear K; (try simp only [Act.put, List.setIfInBounds_toArray, List.set_cons_zero, List.set_cons_succ]))
      (refine wpT_nil ?_)
      have D : Hid (∀ p ∈ [(gq, il (qF (A / B) (k + 1)) 256), (gx, il (digN A) 256), (w.heap.size + 1 + 1 + 1, [Value.int .u64 0, .int .u64 0, .int .u64 0, .int .u64 0]), (w.heap.size + 1 + 1, [Value.int .u64 0, .int .u64 0, .int .u64 0, .int .u64 0]), (w.heap.size + 1, [Value.int .u64 b0, .int .u64 b1, .int .u64 b2, .int .u64 b3])], p.1 ≠ gr) := by
        intro p hp; simp at hp; rcases hp with rfl | rfl | rfl | rfl | rfl <;> (dsimp only; omega)
      have hm4 := Mem.set4 z s1 s2 s3 D.out hM.out
      unfold wset4 at hm4
      have hM2 := Lib.hid hm4
      clear hM hm4
      have hM := hM2
      clear hM2
      have DQ : Hid (∀ p ∈ [(gr, [Value.int .u64 t0, .int .u64 t1, .int .u64 t2, .int .u64 t3]), (gx, il (digN A) 256), (w.heap.size + 1 + 1 + 1, [Value.int .u64 0, .int .u64 0, .int .u64 0, .int .u64 0]), (w.heap.size + 1 + 1, [Value.int .u64 0, .int .u64 0, .int .u64 0, .int .u64 0]), (w.heap.size + 1, [Value.int .u64 b0, .int .u64 b1, .int .u64 b2, .int .u64 b3])], p.1 ≠ gq) := by
        intro p hp; simp at hp; rcases hp with rfl | rfl | rfl | rfl | rfl <;> (dsimp only; omega)
      have hqr : gq ≠ gr := by omega
      have hrq : gr ≠ gq := by omega
      obtain ⟨c, hc⟩ : ∃ c, cmpN (N4 z s1 s2 s3) (N4 b0 b1 b2 b3) = c := ⟨_, rfl⟩
      rw [hc] at HCmp
      rw [hB'] at hc
      have HR := Lib.hid (And.intro hs (And.intro hz (And.intro ht (And.intro hzn (And.intro htn (And.intro c1 (And.intro c2 hbb)))))))
      rcases hcases with ⟨rfl, hTB⟩ | ⟨rfl, hTB⟩ | ⟨rfl, hTB⟩
      · have hzT : N4 z s1 s2 s3 + WW = T := by simpa using hzn
        have htT := htn hTB
        have HSub := Lib.hid (fun w => subD_any hz hbb ht true (by rw [htT, hB']; simp; omega) w)
        clear hs hz ht hzn htn c1 c2 hbb hc hr hrn hB' hzT htT
        go_wp2_with (first | (go_at_call 17; (with_reducible refine (HCmp.out _).mono ?_); rintro e w2 ⟨rfl, hb⟩; have hB : Below w.heap.size w w2 := (by refine bl_then ?_ hb; (repeat (first | exact hB | refine bl_al ?_ _ | refine Below.setCell ?_ (by first | exact hgs | exact Nat.le_succ_of_le hgs | exact hgs2 | exact hgs3) _ | refine Below.drew ?_ | refine bl_drewN ?_ _))); (first | with_reducible have hM2 := Mem.later hb (hM.out) | with_reducible have hM2 := Mem.later hb (Mem.al (hM.out) _ _) | with_reducible have hM2 := Mem.later hb (Mem.al (Mem.al (hM.out) _ _) _ _) | with_reducible have hM2 := Mem.later hb (Mem.al (Mem.al (Mem.al (hM.out) _ _) _ _) _ _) | with_reducible have hM2 := Mem.later hb (Mem.al (Mem.al (Mem.al (Mem.al (hM.out) _ _) _ _) _ _) _ _) | with_reducible have hM2 := Mem.later hb (Mem.drew (hM.out)) | with_reducible have hM2 := Mem.later hb (Mem.drew (Mem.al (hM.out) _ _)) | with_reducible have hM2 := Mem.later hb (Mem.al (Mem.drew (hM.out)) _ _) | with_reducible have hM2 := Mem.later hb (Mem.al (Mem.drew (Mem.al (hM.out) _ _)) _ _) | with_reducible have hM2 := Mem.later hb (Mem.drew (Mem.al (Mem.al (hM.out) _ _) _ _)) | with_reducible have hM2 := Mem.later hb (Mem.al (Mem.al (Mem.drew (hM.out)) _ _) _ _) | with_reducible have hM2 := Mem.later hb (Mem.drew (Mem.drew (hM.out))) | with_reducible have hM2 := Mem.later hb (Mem.drew (Mem.al (Mem.drew (hM.out)) _ _)) | with_reducible have hM2 := Mem.later hb (Mem.drew (Mem.al (Mem.al (Mem.al (hM.out) _ _) _ _) _ _)) | with_reducible have hM2 := Mem.later hb (Mem.al (Mem.al (Mem.drew (Mem.al (hM.out) _ _)) _ _) _ _) | with_reducible have hM2 := Mem.later hb (Mem.drew (Mem.al (Mem.drew (Mem.al (hM.out) _ _)) _ _)) | with_reducible have hM2 := Mem.later hb (Mem.al (Mem.al (Mem.al (Mem.al (Mem.al (hM.out) _ _) _ _) _ _) _ _) _ _) | with_reducible have hM2 := Mem.later hb (Mem.al (Mem.al (Mem.al (Mem.al (Mem.al (Mem.al (hM.out) _ _) _ _) _ _) _ _) _ _) _ _) | with_reducible have hM2 := Mem.later hb (Mem.al (Mem.al (Mem.al (Mem.al (Mem.al (Mem.al (Mem.al (hM.out) _ _) _ _) _ _) _ _) _ _) _ _) _ _) | with_reducible have hM2 := Mem.later hb (Mem.al (Mem.al (Mem.al (Mem.al (Mem.al (Mem.al (Mem.al (Mem.al (hM.out) _ _) _ _) _ _) _ _) _ _) _ _) _ _) _ _)); (try simp only [World.size_alloc, size_drew] at hM2); clear hM; have hM := Lib.hid hM2; clear hF; have hF := hM2; (try simp only [Mem, cellsAt, World.size_alloc, Nat.zero_add, Nat.reduceAdd, and_true] at hF); clear hM2; clear hb) | (go_at_call 12; (with_reducible refine (HSub.out _).mono ?_); rintro e w3 ⟨rfl, hb⟩; have hB : Below w.heap.size w w3 := (by refine bl_then ?_ hb; (repeat (first | exact hB | refine bl_al ?_ _ | refine Below.setCell ?_ (by first | exact hgs | exact Nat.le_succ_of_le hgs | exact hgs2 | exact hgs3) _ | refine Below.drew ?_ | refine bl_drewN ?_ _))); (first | with_reducible have hM2 := Mem.later hb (hM.out) | with_reducible have hM2 := Mem.later hb (Mem.al (hM.out) _ _) | with_reducible have hM2 := Mem.later hb (Mem.al (Mem.al (hM.out) _ _) _ _) | with_reducible have hM2 := Mem.later hb (Mem.al (Mem.al (Mem.al (hM.out) _ _) _ _) _ _) | with_reducible have hM2 := Mem.later hb (Mem.al (Mem.al (Mem.al (Mem.al (hM.out) _ _) _ _) _ _) _ _) | with_reducible have hM2 := Mem.later hb (Mem.drew (hM.out)) | with_reducible have hM2 := Mem.later hb (Mem.drew (Mem.al (hM.out) _ _)) | with_reducible have hM2 := Mem.later hb (Mem.al (Mem.drew (hM.out)) _ _) | with_reducible have hM2 := Mem.later hb (Mem.al (Mem.drew (Mem.al (hM.out) _ _)) _ _) | with_reducible have hM2 := Mem.later hb (Mem.drew (Mem.al (Mem.al (hM.out) _ _) _ _)) | with_reducible have hM2 := Mem.later hb (Mem.al (Mem.al (Mem.drew (hM.out)) _ _) _ _) | with_reducible have hM2 := Mem.later hb (Mem.drew (Mem.drew (hM.out))) | with_reducible have hM2 := Mem.later hb (Mem.drew (Mem.al (Mem.drew (hM.out)) _ _)) | with_reducible have hM2 := Mem.later hb (Mem.drew (Mem.al (Mem.al (Mem.al (hM.out) _ _) _ _) _ _)) | with_reducible have hM2 := Mem.later hb (Mem.al (Mem.al (Mem.drew (Mem.al (hM.out) _ _)) _ _) _ _) | with_reducible have hM2 := Mem.later hb (Mem.drew (Mem.al (Mem.drew (Mem.al (hM.out) _ _)) _ _)) | with_reducible have hM2 := Mem.later hb (Mem.al (Mem.al (Mem.al (Mem.al (Mem.al (hM.out) _ _) _ _) _ _) _ _) _ _) | with_reducible have hM2 := Mem.later hb (Mem.al (Mem.al (Mem.al (Mem.al (Mem.al (Mem.al (hM.out) _ _) _ _) _ _) _ _) _ _) _ _) | with_reducible have hM2 := Mem.later hb (Mem.al (Mem.al (Mem.al (Mem.al (Mem.al (Mem.al (Mem.al (hM.out) _ _) _ _) _ _) _ _) _ _) _ _) _ _) | with_reducible have hM2 := Mem.later hb (Mem.al (Mem.al (Mem.al (Mem.al (Mem.al (Mem.al (Mem.al (Mem.al (hM.out) _ _) _ _) _ _) _ _) _ _) _ _) _ _) _ _)); (try simp only [World.size_alloc, size_drew] at hM2); clear hM; have hM := Lib.hid hM2; clear hF; have hF := hM2; (try simp only [Mem, cellsAt, World.size_alloc, Nat.zero_add, Nat.reduceAdd, and_true] at hF); clear hM2; clear hb; have hcq := cellsAt_get hM.out.2.2.1.2.2 (il_get (qF (A / B) (k + 1)) 256 k hk256')))
        have h1 := Mem.set4 t0 t1 t2 t3 D.out hM.out.2
        have h2 := Mem.setN (k := k) (v := .int .i64 1) (b := gq) DQ.out (Mem.swap h1)
        rw [il_set] at h2
        obtain ⟨hd1, hd2⟩ := HR.out.2.2.2.2.2.2.1 hTB
        rw [qF_one _ _ hd1] at h2
        refine ⟨⟨k, t0, t1, t2, t3, by omega, rfl, HR.out.2.2.1, by rw [hd2]; exact HR.out.2.2.2.2.1 hTB, bl_al ((bl_set4 t0 t1 t2 t3 hgs hB).setCell hgsq _) _, Mem.skip (Mem.swap h2) _⟩, by simp [intOf]⟩
      · have hzT : N4 z s1 s2 s3 = T := by simpa using hzn
        have htT := htn hTB
        have HSub := Lib.hid (fun w => subD_any hz hbb ht false (by rw [htT, hB', hzT]; simp; omega) w)
        have hc0 : 0 ≤ c := by rw [← hc, hzT]; unfold cmpN; rw [if_neg (by omega)]; split <;> omega
        clear hs hz ht hzn htn c1 c2 hbb hc hr hrn hB' hzT htT
        go_wp2_with (first | (go_at_call 17; (with_reducible refine (HCmp.out _).mono ?_); rintro e w2 ⟨rfl, hb⟩; have hB : Below w.heap.size w w2 := (by refine bl_then ?_ hb; (repeat (first | exact hB | refine bl_al ?_ _ | refine Below.setCell ?_ (by first | exact hgs | exact Nat.le_succ_of_le hgs | exact hgs2 | exact hgs3) _ | refine Below.drew ?_ | refine bl_drewN ?_ _))); (first | with_reducible have hM2 := Mem.later hb (hM.out) | with_reducible have hM2 := Mem.later hb (Mem.al (hM.out) _ _) | with_reducible have hM2 := Mem.later hb (Mem.al (Mem.al (hM.out) _ _) _ _) | with_reducible have hM2 := Mem.later hb (Mem.al (Mem.al (Mem.al (hM.out) _ _) _ _) _ _) | with_reducible have hM2 := Mem.later hb (Mem.al (Mem.al (Mem.al (Mem.al (hM.out) _ _) _ _) _ _) _ _) | with_reducible have hM2 := Mem.later hb (Mem.drew (hM.out)) | with_reducible have hM2 := Mem.later hb (Mem.drew (Mem.al (hM.out) _ _)) | with_reducible have hM2 := Mem.later hb (Mem.al (Mem.drew (hM.out)) _ _) | with_reducible have hM2 := Mem.later hb (Mem.al (Mem.drew (Mem.al (hM.out) _ _)) _ _) | with_reducible have hM2 := Mem.later hb (Mem.drew (Mem.al (Mem.al (hM.out) _ _) _ _)) | with_reducible have hM2 := Mem.later hb (Mem.al (Mem.al (Mem.drew (hM.out)) _ _) _ _) | with_reducible have hM2 := Mem.later hb (Mem.drew (Mem.drew (hM.out))) | with_reducible have hM2 := Mem.later hb (Mem.drew (Mem.al (Mem.drew (hM.out)) _ _)) | with_reducible have hM2 := Mem.later hb (Mem.drew (Mem.al (Mem.al (Mem.al (hM.out) _ _) _ _) _ _)) | with_reducible have hM2 := Mem.later hb (Mem.al (Mem.al (Mem.drew (Mem.al (hM.out) _ _)) _ _) _ _) | with_reducible have hM2 := Mem.later hb (Mem.drew (Mem.al (Mem.drew (Mem.al (hM.out) _ _)) _ _)) | with_reducible have hM2 := Mem.later hb (Mem.al (Mem.al (Mem.al (Mem.al (Mem.al (hM.out) _ _) _ _) _ _) _ _) _ _) | with_reducible have hM2 := Mem.later hb (Mem.al (Mem.al (Mem.al (Mem.al (Mem.al (Mem.al (hM.out) _ _) _ _) _ _) _ _) _ _) _ _) | with_reducible have hM2 := Mem.later hb (Mem.al (Mem.al (Mem.al (Mem.al (Mem.al (Mem.al (Mem.al (hM.out) _ _) _ _) _ _) _ _) _ _) _ _) _ _) | with_reducible have hM2 := Mem.later hb (Mem.al (Mem.al (Mem.al (Mem.al (Mem.al (Mem.al (Mem.al (Mem.al (hM.out) _ _) _ _) _ _) _ _) _ _) _ _) _ _) _ _)); (try simp only [World.size_alloc, size_drew] at hM2); clear hM; have hM := Lib.hid hM2; clear hF; have hF := hM2; (try simp only [Mem, cellsAt, World.size_alloc, Nat.zero_add, Nat.reduceAdd, and_true] at hF); clear hM2; clear hb) | (go_at_call 12; (with_reducible refine (HSub.out _).mono ?_); rintro e w3 ⟨rfl, hb⟩; have hB : Below w.heap.size w w3 := (by refine bl_then ?_ hb; (repeat (first | exact hB | refine bl_al ?_ _ | refine Below.setCell ?_ (by first | exact hgs | exact Nat.le_succ_of_le hgs | exact hgs2 | exact hgs3) _ | refine Below.drew ?_ | refine bl_drewN ?_ _))); (first | with_reducible have hM2 := Mem.later hb (hM.out) | with_reducible have hM2 := Mem.later hb (Mem.al (hM.out) _ _) | with_reducible have hM2 := Mem.later hb (Mem.al (Mem.al (hM.out) _ _) _ _) | with_reducible have hM2 := Mem.later hb (Mem.al (Mem.al (Mem.al (hM.out) _ _) _ _) _ _) | with_reducible have hM2 := Mem.later hb (Mem.al (Mem.al (Mem.al (Mem.al (hM.out) _ _) _ _) _ _) _ _) | with_reducible have hM2 := Mem.later hb (Mem.drew (hM.out)) | with_reducible have hM2 := Mem.later hb (Mem.drew (Mem.al (hM.out) _ _)) | with_reducible have hM2 := Mem.later hb (Mem.al (Mem.drew (hM.out)) _ _) | with_reducible have hM2 := Mem.later hb (Mem.al (Mem.drew (Mem.al (hM.out) _ _)) _ _) | with_reducible have hM2 := Mem.later hb (Mem.drew (Mem.al (Mem.al (hM.out) _ _) _ _)) | with_reducible have hM2 := Mem.later hb (Mem.al (Mem.al (Mem.drew (hM.out)) _ _) _ _) | with_reducible have hM2 := Mem.later hb (Mem.drew (Mem.drew (hM.out))) | with_reducible have hM2 := Mem.later hb (Mem.drew (Mem.al (Mem.drew (hM.out)) _ _)) | with_reducible have hM2 := Mem.later hb (Mem.drew (Mem.al (Mem.al (Mem.al (hM.out) _ _) _ _) _ _)) | with_reducible have hM2 := Mem.later hb (Mem.al (Mem.al (Mem.drew (Mem.al (hM.out) _ _)) _ _) _ _) | with_reducible have hM2 := Mem.later hb (Mem.drew (Mem.al (Mem.drew (Mem.al (hM.out) _ _)) _ _)) | with_reducible have hM2 := Mem.later hb (Mem.al (Mem.al (Mem.al (Mem.al (Mem.al (hM.out) _ _) _ _) _ _) _ _) _ _) | with_reducible have hM2 := Mem.later hb (Mem.al (Mem.al (Mem.al (Mem.al (Mem.al (Mem.al (hM.out) _ _) _ _) _ _) _ _) _ _) _ _) | with_reducible have hM2 := Mem.later hb (Mem.al (Mem.al (Mem.al (Mem.al (Mem.al (Mem.al (Mem.al (hM.out) _ _) _ _) _ _) _ _) _ _) _ _) _ _) | with_reducible have hM2 := Mem.later hb (Mem.al (Mem.al (Mem.al (Mem.al (Mem.al (Mem.al (Mem.al (Mem.al (hM.out) _ _) _ _) _ _) _ _) _ _) _ _) _ _) _ _)); (try simp only [World.size_alloc, size_drew] at hM2); clear hM; have hM := Lib.hid hM2; clear hF; have hF := hM2; (try simp only [Mem, cellsAt, World.size_alloc, Nat.zero_add, Nat.reduceAdd, and_true] at hF); clear hM2; clear hb; have hcq := cellsAt_get hM.out.2.2.1.2.2 (il_get (qF (A / B) (k + 1)) 256 k hk256')))
        have h1 := Mem.set4 t0 t1 t2 t3 D.out hM.out.2
        have h2 := Mem.setN (k := k) (v := .int .i64 1) (b := gq) DQ.out (Mem.swap h1)
        rw [il_set] at h2
        obtain ⟨hd1, hd2⟩ := HR.out.2.2.2.2.2.2.1 hTB
        rw [qF_one _ _ hd1] at h2
        refine ⟨⟨k, t0, t1, t2, t3, by omega, rfl, HR.out.2.2.1, by rw [hd2]; exact HR.out.2.2.2.2.1 hTB, bl_al ((bl_set4 t0 t1 t2 t3 hgs hB).setCell hgsq _) _, Mem.skip (Mem.swap h2) _⟩, by simp [intOf]⟩
      · have hzT : N4 z s1 s2 s3 = T := by simpa using hzn
        have hc0 : c < 0 := by rw [← hc, hzT]; unfold cmpN; rw [if_pos (by omega)]; omega
        clear hs hz ht hzn htn c1 c2 hbb hc hr hrn hB' hzT
        go_wp2_with (first | (go_at_call 17; (with_reducible refine (HCmp.out _).mono ?_); rintro e w2 ⟨rfl, hb⟩; have hB : Below w.heap.size w w2 := (by refine bl_then ?_ hb; (repeat (first | exact hB | refine bl_al ?_ _ | refine Below.setCell ?_ (by first | exact hgs | exact Nat.le_succ_of_le hgs | exact hgs2 | exact hgs3) _ | refine Below.drew ?_ | refine bl_drewN ?_ _))); (first | with_reducible have hM2 := Mem.later hb (hM.out) | with_reducible have hM2 := Mem.later hb (Mem.al (hM.out) _ _) | with_reducible have hM2 := Mem.later hb (Mem.al (Mem.al (hM.out) _ _) _ _) | with_reducible have hM2 := Mem.later hb (Mem.al (Mem.al (Mem.al (hM.out) _ _) _ _) _ _) | with_reducible have hM2 := Mem.later hb (Mem.al (Mem.al (Mem.al (Mem.al (hM.out) _ _) _ _) _ _) _ _) | with_reducible have hM2 := Mem.later hb (Mem.drew (hM.out)) | with_reducible have hM2 := Mem.later hb (Mem.drew (Mem.al (hM.out) _ _)) | with_reducible have hM2 := Mem.later hb (Mem.al (Mem.drew (hM.out)) _ _) | with_reducible have hM2 := Mem.later hb (Mem.al (Mem.drew (Mem.al (hM.out) _ _)) _ _) | with_reducible have hM2 := Mem.later hb (Mem.drew (Mem.al (Mem.al (hM.out) _ _) _ _)) | with_reducible have hM2 := Mem.later hb (Mem.al (Mem.al (Mem.drew (hM.out)) _ _) _ _) | with_reducible have hM2 := Mem.later hb (Mem.drew (Mem.drew (hM.out))) | with_reducible have hM2 := Mem.later hb (Mem.drew (Mem.al (Mem.drew (hM.out)) _ _)) | with_reducible have hM2 := Mem.later hb (Mem.drew (Mem.al (Mem.al (Mem.al (hM.out) _ _) _ _) _ _)) | with_reducible have hM2 := Mem.later hb (Mem.al (Mem.al (Mem.drew (Mem.al (hM.out) _ _)) _ _) _ _) | with_reducible have hM2 := Mem.later hb (Mem.drew (Mem.al (Mem.drew (Mem.al (hM.out) _ _)) _ _)) | with_reducible have hM2 := Mem.later hb (Mem.al (Mem.al (Mem.al (Mem.al (Mem.al (hM.out) _ _) _ _) _ _) _ _) _ _) | with_reducible have hM2 := Mem.later hb (Mem.al (Mem.al (Mem.al (Mem.al (Mem.al (Mem.al (hM.out) _ _) _ _) _ _) _ _) _ _) _ _) | with_reducible have hM2 := Mem.later hb (Mem.al (Mem.al (Mem.al (Mem.al (Mem.al (Mem.al (Mem.al (hM.out) _ _) _ _) _ _) _ _) _ _) _ _) _ _) | with_reducible have hM2 := Mem.later hb (Mem.al (Mem.al (Mem.al (Mem.al (Mem.al (Mem.al (Mem.al (Mem.al (hM.out) _ _) _ _) _ _) _ _) _ _) _ _) _ _) _ _)); (try simp only [World.size_alloc, size_drew] at hM2); clear hM; have hM := Lib.hid hM2; clear hF; have hF := hM2; (try simp only [Mem, cellsAt, World.size_alloc, Nat.zero_add, Nat.reduceAdd, and_true] at hF); clear hM2; clear hb))
        obtain ⟨hd1, hd2⟩ := HR.out.2.2.2.2.2.1 hTB
        refine ⟨⟨k, z, s1, s2, s3, by omega, rfl, HR.out.2.1, by rw [hd2]; simpa using HR.out.2.2.2.1, hB, ?_⟩, by simp [intOf]⟩
        rw [← qF_zero _ _ hd1]
        exact hM.out.2
end Go.Proofs.Ytlfabchlblgmbaa

/- florinref01: Div, whole. (hM) -/
namespace Go.Proofs.Ytlfabchlblgmbaa
open Go.RowKit

set_option maxRecDepth 100000 in
set_option maxHeartbeats 1000000 in
theorem divD_zero (a0 a1 a2 a3 : Int) (w : World) :
    Calls Try.prog 25 #[U4 a0 a1 a2 a3, U4 0 0 0 0] w fun e w' => e = .returned (.tuple #[U4 0 0 0 0, U4 0 0 0 0, .bool false]) ∧ Below w.heap.size w w' := by
  have hE := fun w => eq_nD b4_zero b4_zero w
  rw [decide_eq_true rfl] at hE
  go_enter Try.func25, Try.ntmps25
  go_wp2
  exact bodyPost_ret (v := .tuple #[U4 0 0 0 0, U4 0 0 0 0, .bool false]) (by simp [results, Try.results25, go_sem]) rfl ⟨rfl, by (repeat (first | exact Below.refl _ _ | refine Below.drew ?_ | refine bl_drewN ?_ _ | (refine Below.alloc ?_ (by first | exact Nat.le_refl _ | (simp; done) | (simp; omega)) _)))⟩
theorem divD_is {a0 a1 a2 a3 b0 b1 b2 b3 q0 q1 q2 q3 r0 r1 r2 r3 : Int} (ha : B4 a0 a1 a2 a3) (hb : B4 b0 b1 b2 b3) (hq : B4 q0 q1 q2 q3) (hr : B4 r0 r1 r2 r3) (ok : Bool)
    (h : (ok = true ∧ N4 b0 b1 b2 b3 ≠ 0 ∧ N4 q0 q1 q2 q3 = N4 a0 a1 a2 a3 / N4 b0 b1 b2 b3 ∧ N4 r0 r1 r2 r3 = N4 a0 a1 a2 a3 % N4 b0 b1 b2 b3) ∨ (ok = false ∧ N4 b0 b1 b2 b3 = 0 ∧ N4 q0 q1 q2 q3 = 0 ∧ N4 r0 r1 r2 r3 = 0)) (w : World) :
    Calls Try.prog 25 #[U4 a0 a1 a2 a3, U4 b0 b1 b2 b3] w fun e w' => e = .returned (.tuple #[U4 q0 q1 q2 q3, U4 r0 r1 r2 r3, .bool ok]) ∧ Below w.heap.size w w' := by
  rcases h with ⟨rfl, h0, h1, h2⟩ | ⟨rfl, h0, h1, h2⟩
  · exact divD_pos ha hb hq hr h0 h1 h2 w
  · obtain ⟨rfl, rfl, rfl, rfl⟩ := b4_zero.inj hb (n4_zero.trans h0.symm)
    obtain ⟨rfl, rfl, rfl, rfl⟩ := b4_zero.inj hq (n4_zero.trans h1.symm)
    obtain ⟨rfl, rfl, rfl, rfl⟩ := b4_zero.inj hr (n4_zero.trans h2.symm)
    exact divD_zero a0 a1 a2 a3 w
end Go.Proofs.Ytlfabchlblgmbaa
