/- florinref01: number. (hM) -/
import Derived.Test.YtlfabchlblgmbaaDg1
import Derived.Test.YtlfabchlblgmbaaBy2
namespace Go.Proofs.Ytlfabchlblgmbaa
set_option linter.unusedVariables false
set_option linter.unusedSimpArgs false
open Go.RowKit

/-- the lowest j digits, told -/
def sumD (f : Nat → Int) : Nat → Int
  | 0 => 0
  | j + 1 => sumD f j + f j * 2 ^ j
theorem sumD_b (f : Nat → Int) (hf : ∀ i, 0 ≤ f i ∧ f i < 2) : ∀ j, 0 ≤ sumD f j ∧ sumD f j < 2 ^ j
  | 0 => by simp [sumD]
  | j + 1 => by
    have h := sumD_b f hf j
    have hb := hf j
    have hp : (0 : Int) < 2 ^ j := two_pow_pos j
    have h1 : 0 ≤ f j * 2 ^ j := Int.mul_nonneg hb.1 (Int.le_of_lt hp)
    have h2 : f j * 2 ^ j ≤ 1 * 2 ^ j := Int.mul_le_mul_of_nonneg_right (by omega) (Int.le_of_lt hp)
    unfold sumD
    rw [Int.pow_succ]
    omega
theorem sumD_congr {f g : Nat → Int} : ∀ n, (∀ j, j < n → f j = g j) → sumD f n = sumD g n
  | 0, _ => rfl
  | n + 1, h => by
    show sumD f n + f n * 2 ^ n = sumD g n + g n * 2 ^ n
    rw [sumD_congr n fun j hj => h j (by omega), h n (by omega)]
/-- a number's digits told are the number -/
theorem sum_dig (N : Int) (hN : 0 ≤ N) : ∀ j, sumD (digN N) j = N % 2 ^ j
  | 0 => by simp [sumD, Int.emod_one]
  | j + 1 => by
    have ih := sum_dig N hN j
    have hp : (0 : Int) < 2 ^ j := two_pow_pos j
    show sumD (digN N) j + digN N j * 2 ^ j = N % 2 ^ (j + 1)
    rw [ih]
    unfold digN
    rw [Int.pow_succ]
    obtain ⟨P, hP⟩ : ∃ P : Int, 2 ^ j = P := ⟨_, rfl⟩
    rw [hP] at hp ⊢
    obtain ⟨A, rfl⟩ := Int.eq_ofNat_of_zero_le hN
    obtain ⟨B, rfl⟩ := Int.eq_ofNat_of_zero_le (Int.le_of_lt hp)
    have e1 : A % (B * 2) = A % B + A / B % 2 * B := by rw [Nat.mod_mul, Nat.mul_comm B]
    have e2 := congrArg (fun n : Nat => (n : Int)) e1
    simp only [Int.natCast_add, Int.natCast_mul, Int.natCast_emod, Int.natCast_ediv] at e2
    exact e2.symm
/-- digits told and split again are the digits -/
theorem dig_sum (f : Nat → Int) (hf : ∀ i, 0 ≤ f i ∧ f i < 2) : ∀ n i, i < n → digN (sumD f n) i = f i
  | 0, i, h => by omega
  | n + 1, i, h => by
    have hb := sumD_b f hf n
    have hfn := hf n
    show (sumD f n + f n * 2 ^ n) / 2 ^ i % 2 = f i
    rcases Nat.lt_or_ge i n with hi | hi
    · have ih := dig_sum f hf n i hi
      unfold digN at ih
      obtain ⟨k, hk⟩ : ∃ k, n = i + 1 + k := ⟨n - i - 1, by omega⟩
      have e : f n * 2 ^ n = 2 ^ i * (2 * (2 ^ k * f n)) := by
        rw [hk, Int.pow_add, Int.pow_succ]
        ac_rfl
      rw [e, Int.add_mul_ediv_left _ _ (Int.ne_of_gt (two_pow_pos i))]
      omega
    · have : i = n := by omega
      subst this
      rw [Int.add_mul_ediv_right _ _ (Int.ne_of_gt (two_pow_pos i)), Int.ediv_eq_zero_of_lt hb.1 hb.2]
      omega
/-- one digit more -/
theorem bit_step (c : Nat → Int) (hc : bF c) (j : Nat) (hj : j < 256) (hn : nF c < 2 ^ j) (y : Int) (hy : 0 ≤ y ∧ y < 2) :
    ∃ z, bits .or .u64 (c (j / 64)) (IntKind.u64.wrap (y * 2 ^ (j % 64))) = z ∧ (0 ≤ z ∧ z < WI) ∧ nF (setF c (j / 64) z) = nF c + y * 2 ^ j := by
  obtain ⟨rest, hrest, he⟩ := limb_split hc.b4 (j / 64) (by omega)
  rw [limb_nF c _ (by omega)] at he
  have hnn := hc.b4.nn
  obtain ⟨q, hq⟩ : ∃ q, j / 64 = q := ⟨_, rfl⟩
  obtain ⟨r, hr⟩ : ∃ r, j % 64 = r := ⟨_, rfl⟩
  rw [hq] at he ⊢
  rw [hr]
  have e1 : (2 : Int) ^ j = 2 ^ (64 * q) * 2 ^ r := by
    rw [← Int.pow_add]
    congr 1
    omega
  have hp := two_pow_pos r
  have hlt : c q < 2 ^ r := by
    have h1 : N4 (c 0) (c 1) (c 2) (c 3) / 2 ^ (64 * q) < 2 ^ r := by
      rw [Int.ediv_lt_iff_lt_mul (two_pow_pos _), Int.mul_comm, ← e1]
      exact hn
    have h2 : 0 ≤ WI * rest := Int.mul_nonneg (by decide) hrest
    omega
  have hle : 2 ^ r * 2 ≤ WI := by
    rw [WI_eq, show (18446744073709551616 : Int) = 2 ^ 64 by decide, ← Int.pow_succ]
    exact pow2_le (by omega)
  have hyp : 0 ≤ 2 ^ r * y ∧ 2 ^ r * y + 2 ^ r ≤ WI := by
    have h1 := Int.mul_nonneg (Int.le_of_lt hp) hy.1
    have h2 := Int.mul_le_mul_of_nonneg_left (show y + 1 ≤ 2 by omega) (Int.le_of_lt hp)
    rw [Int.mul_add, Int.mul_one] at h2
    omega
  have hw : IntKind.u64.wrap (y * 2 ^ r) = 2 ^ r * y := by
    rw [IntKind.wrap_u64, Int.mul_comm]
    refine Int.emod_eq_of_lt hyp.1 ?_
    have := hyp.2
    unfold WI at this
    omega
  have hor := or_add y r (c q) ⟨(hc q).1, hlt⟩ ⟨hyp.1, by omega⟩ (by omega)
  refine ⟨2 ^ r * y + c q, ?_, ⟨by have := (hc q).1; omega, by omega⟩, ?_⟩
  · rw [hw, or_swap _ _ (hc q) ⟨hyp.1, by omega⟩]
    exact hor
  · rw [e1, show y * (2 ^ (64 * q) * 2 ^ r) = 2 ^ (64 * q) * (2 ^ r * y) by ac_rfl]
    generalize 2 ^ r * y = P
    have : q = 0 ∨ q = 1 ∨ q = 2 ∨ q = 3 := by omega
    rcases this with rfl | rfl | rfl | rfl
    · simp [nF, setF]
      rw [Int.add_comm P, n4_dig0]
    · simp only [nF, setF]
      rw [show (2 : Int) ^ (64 * 1) = WI by decide]
      simp
      rw [Int.add_comm P, n4_dig1]
    · simp only [nF, setF]
      rw [show (2 : Int) ^ (64 * 2) = WI * WI by decide]
      simp
      rw [Int.add_comm P, n4_dig2]
    · simp only [nF, setF]
      rw [show (2 : Int) ^ (64 * 3) = WI * WI * WI by decide]
      simp
      rw [Int.add_comm P, n4_dig3]

def NumRel (w : World) (f : Nat → Int) (i : Value) (wr : World) : Prop :=
  ∃ (j : Nat) (c : Nat → Int), j ≤ 256 ∧ i = .int .i64 j ∧ bF c ∧ nF c = sumD f j ∧ Below w.heap.size w wr ∧ Mem wr [(w.heap.size + 1 + 1, l4 c), (w.heap.size + 1, [.int .u64 0, .int .u64 0, .int .u64 0, .int .u64 0]), (w.heap.size, il f 256)]

set_option maxRecDepth 100000 in
set_option maxHeartbeats 2000000 in
theorem numD_any (f : Nat → Int) (hf : ∀ i, 0 ≤ f i ∧ f i < 2) {s0 s1 s2 s3 : Int} (hs : B4 s0 s1 s2 s3) (hsn : N4 s0 s1 s2 s3 = sumD f 256) (w : World) :
    Calls Try.prog 46 #[arrD f] w fun e w' => e = .returned (U4 s0 s1 s2 s3) ∧ Below w.heap.size w w' := by
  have HFf := Lib.hid hf
  have HS := Lib.hid (show B4 s0 s1 s2 s3 ∧ N4 s0 s1 s2 s3 = sumD f 256 from ⟨hs, hsn⟩)
  clear hf hs hsn
  have hZD := zeroD
  go_enter Try.func46, Try.ntmps46
  go_wp2
  go_loopw [4] (fun i wr => NumRel w f i wr) (fun i _ => 256 - (intOf i).toNat)
  case atStart =>
    refine ⟨0, fun _ => 0, Nat.zero_le _, rfl, fun k => by show (0 : Int) ≤ 0 ∧ (0 : Int) < WI; decide, n4_zero, by (repeat (first | exact Below.refl _ _ | refine Below.drew ?_ | refine bl_drewN ?_ _ | (refine Below.alloc ?_ (by first | exact Nat.le_refl _ | (simp; done) | (simp; omega)) _))), ?_⟩
    have h := Mem.al (Mem.al (Mem.al (mem_nil w) (il f 256) 77) [.int .u64 0, .int .u64 0, .int .u64 0, .int .u64 0] 24) (l4 fun _ => 0) 24
    simp only [World.size_alloc] at h
    exact h
  case round =>
    obtain ⟨j, c, hj, rfl, hc, hcn, hB, hm⟩ := hrel
    have HM3 := Lib.hid hm
    by_cases hlt : j < 256
    · obtain ⟨y, hy⟩ : ∃ y, f j = y := ⟨_, rfl⟩
      have hyr := HFf.out j
      rw [hy] at hyr
      have hacc := sumD_b f HFf.out j
      obtain ⟨z, hz, hzb, hzn⟩ := bit_step c hc j hlt (by rw [hcn]; exact hacc.2) y hyr
      have HZ : Hid ((0 ≤ z ∧ z < WI) ∧ nF (setF c (j / 64) z) = sumD f (j + 1)) := by
        refine ⟨hzb, ?_⟩
        rw [hzn, hcn]
        show _ = sumD f j + f j * 2 ^ j
        rw [hy]
      have hcq := cellsAt_get hm.1.2.2 (l4_get c (j / 64) (by omega))
      have hfz := hm.1.2.1 (j / 64)
      have hyc : wr.cell? ⟨w.heap.size, j, none⟩ = some (.int .i64 y) := by
        rw [← hy]
        exact cellsAt_get hm.2.2.1.2.2 (il_get f 256 j hlt)
      have HYc := Lib.hid hyc
      have hq : (j : Int) / 64 = ((j / 64 : Nat) : Int) := by omega
      have hr : (j : Int) % 64 = ((j % 64 : Nat) : Int) := by omega
      have htm : (j : Int).tmod 64 = ((j % 64 : Nat) : Int) := by rw [Int.tmod_eq_emod_of_nonneg (by omega)]; omega
      have htd : (j : Int).tdiv 64 = ((j / 64 : Nat) : Int) := by rw [Int.tdiv_eq_ediv_of_nonneg (by omega)]; omega
      have hq4 : j / 64 < 4 := by omega
      have hr4 : j % 64 < 64 := by omega
      have hwy : IntKind.u64.wrap y = y := by rw [IntKind.wrap_u64]; omega
      have hjn : (j : Int) < 256 := by omega
      have HC := Lib.hid hc
      clear hm hc hcn hacc hy hyr hzb hzn hyc
      generalize hqq : j / 64 = q at *
      generalize hrr : j % 64 = r at *
      clear hqq hrr
      have hwq : IntKind.i64.wrap (q : Int) = (q : Int) := wrap_small _ (by omega) (by omega)
      have hwr : IntKind.u64.wrap (r : Int) = (r : Int) := by rw [IntKind.wrap_u64]; omega
      have hwr2 : IntKind.i64.wrap (r : Int) = (r : Int) := wrap_small _ (by omega) (by omega)
      have hq4' : (q : Int) < 4 := by omega
      go_wp2
      refine wp_plan (fun x => x.cell? ⟨w.heap.size, j, none⟩ = some (.int .i64 y)) [5, 16] [0, 1, 2, 3, 4, 6, 7, 8, 9, 10, 11, 12, 13, 5, 14, 15, 16] (by kernel_rfl) (by kernel_rfl) HYc.out (fun hHeld => ?_)
      iterate 13 (refine wpT_take rfl (by rfl) (by rfl) (by intro w' hSw; (try dsimp only [Mem, cellsAt] at hSw); go_simp; (try with_reducible rfl)) (by assumption) ?_; (try simp only [Act.put, List.setIfInBounds_toArray, List.set_cons_zero, List.set_cons_succ]))
      (refine wpT_step rfl (by rfl) (fun K hK => ?_); go_simp)
      (refine hK.out _ _ _ (fun _ h => h) (hHeld) (fun hHeld => ?_); clear hK; clear K; (try simp only [Act.put, List.setIfInBounds_toArray, List.set_cons_zero, List.set_cons_succ]))
      iterate 2 (refine wpT_take rfl (by rfl) (by rfl) (by intro w' hSw; (try dsimp only [Mem, cellsAt] at hSw); go_simp; (try with_reducible rfl)) (by assumption) ?_; (try simp only [Act.put, List.setIfInBounds_toArray, List.set_cons_zero, List.set_cons_succ]))
      (refine wpT_step rfl (by rfl) (fun K hK => ?_); go_simp)
      (refine hK.out _ _ _ (fun _ h => h) ((by show (wr.setCell _ _).cell? _ = _; rw [World.cell?_setCell_far _ _ _ _ (by first | (simp; done) | omega | (dsimp only; omega))]; exact HYc.out)) (fun hHeld => ?_); clear hK; clear K; (try simp only [Act.put, List.setIfInBounds_toArray, List.set_cons_zero, List.set_cons_succ]))
      (refine wpT_nil ?_)
      go_wp2
      have hM2 := Mem.setN (k := q) (v := .int .u64 z) (b := w.heap.size + 1 + 1) (by intro p hp; simp at hp; rcases hp with rfl | rfl <;> (simp; try omega)) HM3.out
      rw [l4_set] at hM2
      refine ⟨⟨j + 1, setF c q z, by omega, by go_num, fun k => ?_, HZ.out.2, hB.drew.setCell (by show w.heap.size ≤ w.heap.size + 1 + 1; omega) _, ?_⟩, by simp [intOf]; omega⟩
      · unfold setF
        split
        · exact HZ.out.1
        · exact HC.out k
      · first
        | exact Mem.drew hM2
        | (rw [hz]; exact Mem.drew hM2)
    · have hjn : j = 256 := by omega
      subst hjn
      obtain ⟨e0, e1, e2, e3⟩ := hc.b4.inj HS.out.1 (hcn.trans HS.out.2.symm)
      have hl : l4 c = [.int .u64 s0, .int .u64 s1, .int .u64 s2, .int .u64 s3] := by
        rw [← e0, ← e1, ← e2, ← e3]
        rfl
      rw [hl] at hm
      have hF := hm
      simp only [Mem, cellsAt, Nat.zero_add, Nat.reduceAdd, and_true] at hF
      clear hm HM3 hl hc hcn e0 e1 e2 e3
      have hgs := Nat.le_refl w.heap.size
      go_wp2
      refine bodyPost_ret (v := U4 s0 s1 s2 s3) (by simp [results, Try.results46, go_sem, hF]) rfl ?_
      exact ⟨rfl, by (repeat (first | exact hB | refine bl_al ?_ _ | refine Below.setCell ?_ (by first | exact hgs | exact Nat.le_succ_of_le hgs | exact hgs2 | exact hgs3) _ | refine Below.drew ?_ | refine bl_drewN ?_ _))⟩
end Go.Proofs.Ytlfabchlblgmbaa
