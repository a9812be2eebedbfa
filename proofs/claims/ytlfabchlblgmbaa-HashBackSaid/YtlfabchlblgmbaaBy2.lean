/- Package u256: FromBytes. (hM) -/
import Derived.Test.YtlfabchlblgmbaaBy1
namespace Go.Proofs.Ytlfabchlblgmbaa
set_option linter.unusedVariables false
set_option linter.unusedSimpArgs false
open Go.RowKit

/-- the lowest j bytes of n, told -/
def accV (f : Nat → Int) (n : Nat) : Nat → Int
  | 0 => 0
  | j + 1 => accV f n j + f (n - 1 - j) * 256 ^ j
theorem accV_b (f : Nat → Int) (n : Nat) (hf : ∀ i, 0 ≤ f i ∧ f i < 256) : ∀ j, 0 ≤ accV f n j ∧ accV f n j < 256 ^ j
  | 0 => by simp [accV]
  | j + 1 => by
    have h := accV_b f n hf j
    have hb := hf (n - 1 - j)
    have hp : (0 : Int) < 256 ^ j := Int.pow_pos (by decide)
    have h1 : 0 ≤ f (n - 1 - j) * 256 ^ j := Int.mul_nonneg hb.1 (Int.le_of_lt hp)
    have h2 : f (n - 1 - j) * 256 ^ j ≤ 255 * 256 ^ j := Int.mul_le_mul_of_nonneg_right (by omega) (Int.le_of_lt hp)
    unfold accV
    rw [Int.pow_succ]
    omega
/-- four parts as cells -/
def l4 (c : Nat → Int) : List Value := (List.range 4).map fun k => .int .u64 (c k)
theorem l4_get (c : Nat → Int) (i : Nat) (h : i < 4) : (l4 c)[i]? = some (.int .u64 (c i)) := by simp [l4, h]
theorem l4_set (c : Nat → Int) (q : Nat) (v : Int) : (l4 c).set q (.int .u64 v) = l4 (setF c q v) := by
  apply List.ext_getElem
  · simp [l4]
  · intro i h1 h2
    by_cases hq : i = q
    · subst hq; simp [l4, setF]
    · have : ¬ q = i := fun h => hq h.symm
      simp [l4, setF, List.getElem_set, this, hq]
def nF (c : Nat → Int) : Int := N4 (c 0) (c 1) (c 2) (c 3)
def bF (c : Nat → Int) : Prop := ∀ k, 0 ≤ c k ∧ c k < WI
theorem bF.b4 {c : Nat → Int} (h : bF c) : B4 (c 0) (c 1) (c 2) (c 3) := ⟨h 0, h 1, h 2, h 3⟩
theorem limb_nF (c : Nat → Int) (q : Nat) (hq : q < 4) : limbN (c 0) (c 1) (c 2) (c 3) q = c q := by
  have : q = 0 ∨ q = 1 ∨ q = 2 ∨ q = 3 := by omega
  rcases this with rfl | rfl | rfl | rfl <;> rfl
/-- one byte more -/
theorem byte_step (c : Nat → Int) (hc : bF c) (j : Nat) (hj : j < 32) (hn : nF c < 256 ^ j) (y : Int) (hy : 0 ≤ y ∧ y < 256) :
    ∃ z, bits .or .u64 (c (j / 8)) (IntKind.u64.wrap (y * 2 ^ (j % 8 * 8))) = z ∧ (0 ≤ z ∧ z < WI) ∧ nF (setF c (j / 8) z) = nF c + y * 256 ^ j := by
  obtain ⟨rest, hrest, he⟩ := limb_split hc.b4 (j / 8) (by omega)
  rw [limb_nF c _ (by omega)] at he
  have hnn := hc.b4.nn
  obtain ⟨q, hq⟩ : ∃ q, j / 8 = q := ⟨_, rfl⟩
  obtain ⟨r, hr⟩ : ∃ r, j % 8 = r := ⟨_, rfl⟩
  rw [hq] at he ⊢
  rw [hr]
  have e1 : (256 : Int) ^ j = 2 ^ (64 * q) * 2 ^ (r * 8) := by
    rw [show (256 : Int) = 2 ^ 8 by decide, ← Int.pow_mul, ← Int.pow_add]
    congr 1
    omega
  have hp := two_pow_pos (r * 8)
  have hlt : c q < 2 ^ (r * 8) := by
    have h1 : N4 (c 0) (c 1) (c 2) (c 3) / 2 ^ (64 * q) < 2 ^ (r * 8) := by
      rw [Int.ediv_lt_iff_lt_mul (two_pow_pos _), Int.mul_comm, ← e1]
      exact hn
    have h2 : 0 ≤ WI * rest := Int.mul_nonneg (by decide) hrest
    omega
  have hle : 2 ^ (r * 8) * 256 ≤ WI := by
    rw [WI_eq, show (18446744073709551616 : Int) = 2 ^ 64 by decide, show (256 : Int) = 2 ^ 8 by decide, ← Int.pow_add]
    exact pow2_le (by omega)
  have hyp : 0 ≤ 2 ^ (r * 8) * y ∧ 2 ^ (r * 8) * y + 2 ^ (r * 8) ≤ WI := by
    have h1 := Int.mul_nonneg (Int.le_of_lt hp) hy.1
    have h2 := Int.mul_le_mul_of_nonneg_left (show y + 1 ≤ 256 by omega) (Int.le_of_lt hp)
    rw [Int.mul_add, Int.mul_one] at h2
    omega
  have hw : IntKind.u64.wrap (y * 2 ^ (r * 8)) = 2 ^ (r * 8) * y := by
    rw [IntKind.wrap_u64, Int.mul_comm]
    refine Int.emod_eq_of_lt hyp.1 ?_
    have := hyp.2
    unfold WI at this
    omega
  have hor := or_add y (r * 8) (c q) ⟨(hc q).1, hlt⟩ ⟨hyp.1, by omega⟩ (by omega)
  refine ⟨2 ^ (r * 8) * y + c q, ?_, ⟨by have := (hc q).1; omega, by omega⟩, ?_⟩
  · rw [hw, or_swap _ _ (hc q) ⟨hyp.1, by omega⟩]
    exact hor
  · rw [e1, show y * (2 ^ (64 * q) * 2 ^ (r * 8)) = 2 ^ (64 * q) * (2 ^ (r * 8) * y) by ac_rfl]
    generalize 2 ^ (r * 8) * y = P
    have : q = 0 ∨ q = 1 ∨ q = 2 ∨ q = 3 := by omega
    rcases this with rfl | rfl | rfl | rfl
    · simp [nF, setF]
      rw [Int.add_comm P, n4_dig0]
    · simp only [nF, setF]
      rw [show (2 : Int) ^ (64 * 1) = WI by decide]
      simp
      rw [Int.add_comm P, n4_dig1]
    · simp only [nF, setF]
      rw [show (2 : Int) ^ (64 * 2) = WI * WI by decide]
      simp
      rw [Int.add_comm P, n4_dig2]
    · simp only [nF, setF]
      rw [show (2 : Int) ^ (64 * 3) = WI * WI * WI by decide]
      simp
      rw [Int.add_comm P, n4_dig3]

def FromRel (w : World) (f : Nat → Int) (n : Nat) (i : Value) (wr : World) : Prop :=
  ∃ (j : Nat) (c : Nat → Int), j ≤ n ∧ i = .int .i64 j ∧ bF c ∧ nF c = accV f n j ∧ Below w.heap.size w wr ∧ Mem wr [(w.heap.size + 1, l4 c), (w.heap.size, [.int .u64 0, .int .u64 0, .int .u64 0, .int .u64 0])]

set_option maxRecDepth 100000 in
set_option maxHeartbeats 2000000 in
theorem from_any (ao : Option Addr) (n cap : Nat) (f : Nat → Int) (w : World) (hr : Row w ao n cap 1 (b8l f n)) (hf : ∀ i, 0 ≤ f i ∧ f i < 256) (hn : n ≤ 32) {s0 s1 s2 s3 : Int} (hs : B4 s0 s1 s2 s3) (hsn : N4 s0 s1 s2 s3 = accV f n n) :
    Calls Try.prog 30 #[.slice ao n cap] w fun e w' => e = .returned (.tuple #[U4 s0 s1 s2 s3, .int .i64 0]) ∧ Below w.heap.size w w' := by
  have HR := Lib.hid hr
  have HFf := Lib.hid hf
  have HS := Lib.hid (show B4 s0 s1 s2 s3 ∧ N4 s0 s1 s2 s3 = accV f n n from ⟨hs, hsn⟩)
  clear hr hf hs hsn
  go_enter Try.func30, Try.ntmps30
  go_wp2
  go_loopw [12] (fun i wr => FromRel w f n i wr) (fun i _ => n - (intOf i).toNat)
  case atStart =>
    refine ⟨0, fun _ => 0, Nat.zero_le _, rfl, fun k => by show (0 : Int) ≤ 0 ∧ (0 : Int) < WI; decide, n4_zero, by (repeat (first | exact Below.refl _ _ | refine Below.drew ?_ | refine bl_drewN ?_ _ | (refine Below.alloc ?_ (by first | exact Nat.le_refl _ | (simp; done) | (simp; omega)) _))), ?_⟩
    have h := Mem.al (Mem.al (mem_nil w) [.int .u64 0, .int .u64 0, .int .u64 0, .int .u64 0] 26) (l4 fun _ => 0) 26
    simp only [World.size_alloc] at h
    exact h
  case round =>
    obtain ⟨j, c, hj, rfl, hc, hcn, hB, hm⟩ := hrel
    have HM3 := Lib.hid hm
    by_cases hlt : j < n
    · obtain ⟨b, off, rfl⟩ : ∃ b off, ao = some ⟨b, off, none⟩ := row_addr HR.out (by intro e; have := HR.out.len; rw [e] at this; simp at this; omega)
      have hblt := HR.out.lt _ rfl (by intro e; have := HR.out.len; rw [e] at this; simp at this; omega)
      dsimp only at hblt
      obtain ⟨t, ht⟩ : ∃ t, n - 1 - j = t := ⟨_, rfl⟩
      have htn : t < n := by omega
      obtain ⟨y, hy⟩ : ∃ y, f t = y := ⟨_, rfl⟩
      have hyr := HFf.out t
      rw [hy] at hyr
      have hacc := accV_b f n HFf.out j
      obtain ⟨z, hz, hzb, hzn⟩ := byte_step c hc j (by omega) (by rw [hcn]; exact hacc.2) y hyr
      have HRow : Hid (∀ x, Below w.heap.size w x → x.cell? ⟨b, off + t, none⟩ = some (.int .u8 y)) := fun x h => by
        rw [← hy]
        exact ((HR.out.later h).cells _ rfl t _ (b8l_get f n t htn)).2
      have HZ : Hid ((0 ≤ z ∧ z < WI) ∧ nF (setF c (j / 8) z) = accV f n (j + 1)) := by
        refine ⟨hzb, ?_⟩
        rw [hzn, hcn]
        show _ = accV f n j + f (n - 1 - j) * 256 ^ j
        rw [ht, hy]
      have hcq := cellsAt_get hm.1.2.2 (l4_get c (j / 8) (by omega))
      have hfz := hm.1.2.1 (j / 8)
      have hq : (j : Int) / 8 = ((j / 8 : Nat) : Int) := by omega
      have hr : (j : Int) % 8 = ((j % 8 : Nat) : Int) := by omega
      have htm : (j : Int).tmod 8 = ((j % 8 : Nat) : Int) := by rw [Int.tmod_eq_emod_of_nonneg (by omega)]; omega
      have htd : (j : Int).tdiv 8 = ((j / 8 : Nat) : Int) := by rw [Int.tdiv_eq_ediv_of_nonneg (by omega)]; omega
      have hq4 : j / 8 < 4 := by omega
      have hr4 : j % 8 < 8 := by omega
      have hwy : IntKind.u64.wrap y = y := by rw [IntKind.wrap_u64]; omega
      have htj : (n : Int) - 1 - (j : Int) = (t : Int) := by omega
      have hwn : IntKind.i64.wrap ((n : Int) - 1) = (n : Int) - 1 := by rw [IntKind.wrap_i64]; omega
      have hwt : IntKind.i64.wrap (t : Int) = (t : Int) := wrap_small _ (by omega) (by omega)
      have htn' : (t : Int) < (n : Int) := by omega
      have hjn : (j : Int) < (n : Int) := by omega
      have HC := Lib.hid hc
      have hbw : b < w.heap.size := hblt
      clear hm hc hcn hacc hy hyr hzb hzn ht
      generalize hqq : j / 8 = q at *
      generalize hrr : j % 8 = r at *
      clear hqq hrr
      have hwq : IntKind.i64.wrap (q : Int) = (q : Int) := wrap_small _ (by omega) (by omega)
      have hwr : IntKind.i64.wrap (r : Int) = (r : Int) := wrap_small _ (by omega) (by omega)
      have hq4' : (q : Int) < 4 := by omega
      have hwr8 : IntKind.i64.wrap ((r : Int) * 8) = ((r * 8 : Nat) : Int) := by rw [IntKind.wrap_i64]; omega
      go_wp2
      refine wp_plan (fun x => x.cell? ⟨b, off + t, none⟩ = some (.int .u8 y)) [3, 19] [0, 1, 2, 4, 5, 6, 7, 8, 9, 10, 11, 12, 13, 14, 15, 16, 3, 17, 18, 19] (by kernel_rfl) (by kernel_rfl) (HRow.out _ hB.drew) (fun hHeld => ?_)
      iterate 16 (refine wpT_take rfl (by rfl) (by rfl) (by intro w' hSw; (try dsimp only [Mem, cellsAt] at hSw); go_simp; (try with_reducible rfl)) (by assumption) ?_; (try simp only [Act.put, List.setIfInBounds_toArray, List.set_cons_zero, List.set_cons_succ]))
      (refine wpT_step rfl (by rfl) (fun K hK => ?_); go_simp)
      (refine hK.out _ _ _ (fun _ h => h) (hHeld) (fun hHeld => ?_); clear hK; clear K; (try simp only [Act.put, List.setIfInBounds_toArray, List.set_cons_zero, List.set_cons_succ]))
      iterate 2 (refine wpT_take rfl (by rfl) (by rfl) (by intro w' hSw; (try dsimp only [Mem, cellsAt] at hSw); go_simp; (try with_reducible rfl)) (by assumption) ?_; (try simp only [Act.put, List.setIfInBounds_toArray, List.set_cons_zero, List.set_cons_succ]))
      (refine wpT_step rfl (by rfl) (fun K hK => ?_); go_simp)
      (refine hK.out _ _ _ (fun _ h => h) (HRow.out _ (hB.drew.setCell (by show w.heap.size ≤ w.heap.size + 1; omega) _)) (fun hHeld => ?_); clear hK; clear K; (try simp only [Act.put, List.setIfInBounds_toArray, List.set_cons_zero, List.set_cons_succ]))
      (refine wpT_nil ?_)
      go_wp2
      have hM2 := Mem.setN (k := q) (v := .int .u64 z) (b := w.heap.size + 1) (by intro p hp; simp at hp; subst hp; simp) HM3.out
      rw [l4_set] at hM2
      refine ⟨⟨j + 1, setF c q z, by omega, by go_num, fun k => ?_, HZ.out.2, hB.drew.setCell (by show w.heap.size ≤ w.heap.size + 1; omega) _, ?_⟩, by simp [intOf]; omega⟩
      · unfold setF
        split
        · exact HZ.out.1
        · exact HC.out k
      · rw [hz]
        exact Mem.drew hM2
    · have hjn : j = n := by omega
      subst hjn
      obtain ⟨e0, e1, e2, e3⟩ := hc.b4.inj HS.out.1 (hcn.trans HS.out.2.symm)
      have hl : l4 c = [.int .u64 s0, .int .u64 s1, .int .u64 s2, .int .u64 s3] := by
        rw [← e0, ← e1, ← e2, ← e3]
        rfl
      rw [hl] at hm
      have hF := hm
      simp only [Mem, cellsAt, Nat.zero_add, Nat.reduceAdd, and_true] at hF
      clear hm HM3 hl hc hcn e0 e1 e2 e3
      have hgs := Nat.le_refl w.heap.size
      go_wp2
      refine bodyPost_ret (v := .tuple #[U4 s0 s1 s2 s3, .int .i64 0]) (by simp [results, Try.results30, go_sem, hF]) rfl ?_
      exact ⟨rfl, by (repeat (first | exact hB | refine bl_al ?_ _ | refine Below.setCell ?_ (by first | exact hgs | exact Nat.le_succ_of_le hgs | exact hgs2 | exact hgs3) _ | refine Below.drew ?_ | refine bl_drewN ?_ _))⟩
end Go.Proofs.Ytlfabchlblgmbaa
