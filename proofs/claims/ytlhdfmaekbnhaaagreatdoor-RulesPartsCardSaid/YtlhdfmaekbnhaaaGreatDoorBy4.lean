/- Package u256: Bytes. (hM) Merged: By1, By2, By3, By4. -/
import Derived.Test.YtlhdfmaekbnhaaaGreatDoorMm
/- Package u256: Bytes. (hM) -/
namespace Go.Proofs.YtlhdfmaekbnhaaaGreatDoor
set_option linter.unusedVariables false
set_option linter.unusedSimpArgs false
open Go.RowKit

/-- a number's byte -/
def byteN (N : Int) (i : Nat) : Int := N / 256 ^ i % 256
/-- bytes as cells -/
def b8l (f : Nat → Int) (n : Nat) : List Value := (List.range n).map fun i => .int .u8 (f i)
theorem b8l_len (f : Nat → Int) (n : Nat) : (b8l f n).length = n := by simp [b8l]
theorem b8l_get (f : Nat → Int) (n i : Nat) (h : i < n) : (b8l f n)[i]? = some (.int .u8 (f i)) := by simp [b8l, h]
theorem b8l_one (f : Nat → Int) (n : Nat) : ∀ u ∈ b8l f n, u.oneCell' = true := by
  intro u hu
  simp only [b8l, List.mem_map] at hu
  obtain ⟨x, _, rfl⟩ := hu
  rfl
theorem b8l_congr {f g : Nat → Int} {n : Nat} (h : ∀ i, i < n → f i = g i) : b8l f n = b8l g n := by
  unfold b8l
  refine List.map_congr_left fun i hi => ?_
  rw [h i (List.mem_range.1 hi)]
theorem b8l_set (f : Nat → Int) (n j : Nat) (v : Int) : (b8l f n).set j (.int .u8 v) = b8l (setF f j v) n := bcells_set f n j v
/-- 32 bytes as a value -/
abbrev arr32 (f : Nat → Int) : Value := .agg (b8l f 32).toArray
theorem byte_of {a0 a1 a2 a3 : Int} (ha : B4 a0 a1 a2 a3) (j : Nat) (hj : j < 32) : IntKind.u8.wrap (limbN a0 a1 a2 a3 (j / 8) / 2 ^ (j % 8 * 8)) = byteN (N4 a0 a1 a2 a3) j := by
  obtain ⟨rest, hrest, he⟩ := limb_split ha (j / 8) (by omega)
  obtain ⟨q, hq⟩ : ∃ q, j / 8 = q := ⟨_, rfl⟩
  obtain ⟨r, hr⟩ : ∃ r, j % 8 = r := ⟨_, rfl⟩
  have hr8 : r < 8 := by omega
  have hjr : j = 8 * q + r := by omega
  rw [hq, hr]
  rw [hq] at he
  unfold byteN
  have e1 : (256 : Int) ^ j = 2 ^ (64 * q) * 2 ^ (r * 8) := by
    rw [show (256 : Int) = 2 ^ 8 by decide, ← Int.pow_mul, ← Int.pow_add]
    congr 1
    omega
  have hp := two_pow_pos (r * 8)
  rw [e1, ← Int.ediv_ediv_of_nonneg (Int.le_of_lt (two_pow_pos _)), he]
  obtain ⟨m, hm⟩ : ∃ m, 8 = r + 1 + m := ⟨7 - r, by omega⟩
  have e2 : WI * rest = 2 ^ (r * 8) * (256 * (2 ^ (m * 8) * rest)) := by
    rw [WI_eq, show (18446744073709551616 : Int) = 2 ^ (r * 8) * (256 * 2 ^ (m * 8)) by
      rw [show (256 : Int) = 2 ^ 8 by decide, ← Int.pow_add, ← Int.pow_add]
      rw [show r * 8 + (8 + m * 8) = 64 by omega]
      decide]
    simp only [Int.mul_assoc]
  rw [e2, Int.add_mul_ediv_left _ _ (Int.ne_of_gt hp)]
  show (limbN a0 a1 a2 a3 q / 2 ^ (r * 8)) % 256 = _
  omega

theorem bl_setCells {a : World} {b : Nat} (hb : a.heap.size ≤ b) : ∀ (vs : List Value) (o : Nat) (w : World), Below a.heap.size a w → Below a.heap.size a (w.setCells b o vs)
  | [], _, _, h => h
  | v :: r, o, w, h => by
    rw [World.setCells]
    exact bl_setCells hb r (o + 1) _ (h.setCell (p := ⟨b, o, none⟩) hb _)
/-- the relation of Bytes' loop -/
def ByteRel (w : World) (a0 a1 a2 a3 : Int) (i : Value) (wr : World) : Prop :=
  ∃ (j : Nat) (f : Nat → Int), j ≤ 32 ∧ i = .int .i64 j ∧ (∀ k, k < j → f (31 - k) = byteN (N4 a0 a1 a2 a3) k) ∧ Below w.heap.size w wr ∧
    Mem wr [(w.heap.size + 1 + 1, b8l f 32), (w.heap.size + 1, b8l (fun _ => 0) 32), (w.heap.size, [.int .u64 a0, .int .u64 a1, .int .u64 a2, .int .u64 a3])]

end Go.Proofs.YtlhdfmaekbnhaaaGreatDoor

/- Package u256: FromBytes. (hM) -/
namespace Go.Proofs.YtlhdfmaekbnhaaaGreatDoor
set_option linter.unusedVariables false
set_option linter.unusedSimpArgs false
open Go.RowKit

/-- the lowest j bytes of n, told -/
def accV (f : Nat → Int) (n : Nat) : Nat → Int
  | 0 => 0
  | j + 1 => accV f n j + f (n - 1 - j) * 256 ^ j
theorem accV_b (f : Nat → Int) (n : Nat) (hf : ∀ i, 0 ≤ f i ∧ f i < 256) : ∀ j, 0 ≤ accV f n j ∧ accV f n j < 256 ^ j
  | 0 => by simp [accV]
  | j + 1 => by
    have h := accV_b f n hf j
    have hb := hf (n - 1 - j)
    have hp : (0 : Int) < 256 ^ j := Int.pow_pos (by decide)
    have h1 : 0 ≤ f (n - 1 - j) * 256 ^ j := Int.mul_nonneg hb.1 (Int.le_of_lt hp)
    have h2 : f (n - 1 - j) * 256 ^ j ≤ 255 * 256 ^ j := Int.mul_le_mul_of_nonneg_right (by omega) (Int.le_of_lt hp)
    unfold accV
    rw [Int.pow_succ]
    omega
/-- four parts as cells -/
def l4 (c : Nat → Int) : List Value := (List.range 4).map fun k => .int .u64 (c k)
theorem l4_get (c : Nat → Int) (i : Nat) (h : i < 4) : (l4 c)[i]? = some (.int .u64 (c i)) := by simp [l4, h]
theorem l4_set (c : Nat → Int) (q : Nat) (v : Int) : (l4 c).set q (.int .u64 v) = l4 (setF c q v) := by
  apply List.ext_getElem
  · simp [l4]
  · intro i h1 h2
    by_cases hq : i = q
    · subst hq; simp [l4, setF]
    · have : ¬ q = i := fun h => hq h.symm
      simp [l4, setF, List.getElem_set, this, hq]
def nF (c : Nat → Int) : Int := N4 (c 0) (c 1) (c 2) (c 3)
def bF (c : Nat → Int) : Prop := ∀ k, 0 ≤ c k ∧ c k < WI
theorem bF.b4 {c : Nat → Int} (h : bF c) : B4 (c 0) (c 1) (c 2) (c 3) := ⟨h 0, h 1, h 2, h 3⟩
theorem limb_nF (c : Nat → Int) (q : Nat) (hq : q < 4) : limbN (c 0) (c 1) (c 2) (c 3) q = c q := by
  have : q = 0 ∨ q = 1 ∨ q = 2 ∨ q = 3 := by omega
  rcases this with rfl | rfl | rfl | rfl <;> rfl
/-- one byte more -/
theorem byte_step (c : Nat → Int) (hc : bF c) (j : Nat) (hj : j < 32) (hn : nF c < 256 ^ j) (y : Int) (hy : 0 ≤ y ∧ y < 256) :
    ∃ z, bits .or .u64 (c (j / 8)) (IntKind.u64.wrap (y * 2 ^ (j % 8 * 8))) = z ∧ (0 ≤ z ∧ z < WI) ∧ nF (setF c (j / 8) z) = nF c + y * 256 ^ j := by
  obtain ⟨rest, hrest, he⟩ := limb_split hc.b4 (j / 8) (by omega)
  rw [limb_nF c _ (by omega)] at he
  have hnn := hc.b4.nn
  obtain ⟨q, hq⟩ : ∃ q, j / 8 = q := ⟨_, rfl⟩
  obtain ⟨r, hr⟩ : ∃ r, j % 8 = r := ⟨_, rfl⟩
  rw [hq] at he ⊢
  rw [hr]
  have e1 : (256 : Int) ^ j = 2 ^ (64 * q) * 2 ^ (r * 8) := by
    rw [show (256 : Int) = 2 ^ 8 by decide, ← Int.pow_mul, ← Int.pow_add]
    congr 1
    omega
  have hp := two_pow_pos (r * 8)
  have hlt : c q < 2 ^ (r * 8) := by
    have h1 : N4 (c 0) (c 1) (c 2) (c 3) / 2 ^ (64 * q) < 2 ^ (r * 8) := by
      rw [Int.ediv_lt_iff_lt_mul (two_pow_pos _), Int.mul_comm, ← e1]
      exact hn
    have h2 : 0 ≤ WI * rest := Int.mul_nonneg (by decide) hrest
    omega
  have hle : 2 ^ (r * 8) * 256 ≤ WI := by
    rw [WI_eq, show (18446744073709551616 : Int) = 2 ^ 64 by decide, show (256 : Int) = 2 ^ 8 by decide, ← Int.pow_add]
    exact pow2_le (by omega)
  have hyp : 0 ≤ 2 ^ (r * 8) * y ∧ 2 ^ (r * 8) * y + 2 ^ (r * 8) ≤ WI := by
    have h1 := Int.mul_nonneg (Int.le_of_lt hp) hy.1
    have h2 := Int.mul_le_mul_of_nonneg_left (show y + 1 ≤ 256 by omega) (Int.le_of_lt hp)
    rw [Int.mul_add, Int.mul_one] at h2
    omega
  have hw : IntKind.u64.wrap (y * 2 ^ (r * 8)) = 2 ^ (r * 8) * y := by
    rw [IntKind.wrap_u64, Int.mul_comm]
    refine Int.emod_eq_of_lt hyp.1 ?_
    have := hyp.2
    unfold WI at this
    omega
  have hor := or_add y (r * 8) (c q) ⟨(hc q).1, hlt⟩ ⟨hyp.1, by omega⟩ (by omega)
  refine ⟨2 ^ (r * 8) * y + c q, ?_, ⟨by have := (hc q).1; omega, by omega⟩, ?_⟩
  · rw [hw, or_swap _ _ (hc q) ⟨hyp.1, by omega⟩]
    exact hor
  · rw [e1, show y * (2 ^ (64 * q) * 2 ^ (r * 8)) = 2 ^ (64 * q) * (2 ^ (r * 8) * y) by ac_rfl]
    generalize 2 ^ (r * 8) * y = P
    have : q = 0 ∨ q = 1 ∨ q = 2 ∨ q = 3 := by omega
    rcases this with rfl | rfl | rfl | rfl
    · simp [nF, setF]
      rw [Int.add_comm P, n4_dig0]
    · simp only [nF, setF]
      rw [show (2 : Int) ^ (64 * 1) = WI by decide]
      simp
      rw [Int.add_comm P, n4_dig1]
    · simp only [nF, setF]
      rw [show (2 : Int) ^ (64 * 2) = WI * WI by decide]
      simp
      rw [Int.add_comm P, n4_dig2]
    · simp only [nF, setF]
      rw [show (2 : Int) ^ (64 * 3) = WI * WI * WI by decide]
      simp
      rw [Int.add_comm P, n4_dig3]

def FromRel (w : World) (f : Nat → Int) (n : Nat) (i : Value) (wr : World) : Prop :=
  ∃ (j : Nat) (c : Nat → Int), j ≤ n ∧ i = .int .i64 j ∧ bF c ∧ nF c = accV f n j ∧ Below w.heap.size w wr ∧ Mem wr [(w.heap.size + 1, l4 c), (w.heap.size, [.int .u64 0, .int .u64 0, .int .u64 0, .int .u64 0])]

set_option maxRecDepth 100000 in
set_option maxHeartbeats 2000000 in
theorem from_any (ao : Option Addr) (n cap : Nat) (f : Nat → Int) (w : World) (hr : Row w ao n cap 1 (b8l f n)) (hf : ∀ i, 0 ≤ f i ∧ f i < 256) (hn : n ≤ 32) {s0 s1 s2 s3 : Int} (hs : B4 s0 s1 s2 s3) (hsn : N4 s0 s1 s2 s3 = accV f n n) :
    Calls Tryz.prog 46 #[.slice ao n cap] w fun e w' => e = .returned (.tuple #[U4 s0 s1 s2 s3, .int .i64 0]) ∧ Below w.heap.size w w' := by
  have HR := Lib.hid hr
  have HFf := Lib.hid hf
  have HS := Lib.hid (show B4 s0 s1 s2 s3 ∧ N4 s0 s1 s2 s3 = accV f n n from ⟨hs, hsn⟩)
  clear hr hf hs hsn
  go_enter Tryz.func46, Tryz.ntmps46
  go_wp2
  go_loopw [12] (fun i wr => FromRel w f n i wr) (fun i _ => n - (intOf i).toNat)
  case atStart =>
    refine ⟨0, fun _ => 0, Nat.zero_le _, rfl, fun k => by show (0 : Int) ≤ 0 ∧ (0 : Int) < WI; decide, n4_zero, by (repeat (first | exact Below.refl _ _ | refine Below.drew ?_ | refine bl_drewN ?_ _ | (refine Below.alloc ?_ (by first | exact Nat.le_refl _ | (simp; done) | (simp; omega)) _))), ?_⟩
    have h := Mem.al (Mem.al (mem_nil w) [.int .u64 0, .int .u64 0, .int .u64 0, .int .u64 0] 51) (l4 fun _ => 0) 51
    simp only [World.size_alloc] at h
    exact h
  case round =>
    obtain ⟨j, c, hj, rfl, hc, hcn, hB, hm⟩ := hrel
    have HM3 := Lib.hid hm
    by_cases hlt : j < n
    · obtain ⟨b, off, rfl⟩ : ∃ b off, ao = some ⟨b, off, none⟩ := row_addr HR.out (by intro e; have := HR.out.len; rw [e] at this; simp at this; omega)
      have hblt := HR.out.lt _ rfl (by intro e; have := HR.out.len; rw [e] at this; simp at this; omega)
      dsimp only at hblt
      obtain ⟨t, ht⟩ : ∃ t, n - 1 - j = t := ⟨_, rfl⟩
      have htn : t < n := by omega
      obtain ⟨y, hy⟩ : ∃ y, f t = y := ⟨_, rfl⟩
      have hyr := HFf.out t
      rw [hy] at hyr
      have hacc := accV_b f n HFf.out j
      obtain ⟨z, hz, hzb, hzn⟩ := byte_step c hc j (by omega) (by rw [hcn]; exact hacc.2) y hyr
      have HRow : Hid (∀ x, Below w.heap.size w x → x.cell? ⟨b, off + t, none⟩ = some (.int .u8 y)) := fun x h => by
        rw [← hy]
        exact ((HR.out.later h).cells _ rfl t _ (b8l_get f n t htn)).2
      have HZ : Hid ((0 ≤ z ∧ z < WI) ∧ nF (setF c (j / 8) z) = accV f n (j + 1)) := by
        refine ⟨hzb, ?_⟩
        rw [hzn, hcn]
        show _ = accV f n j + f (n - 1 - j) * 256 ^ j
        rw [ht, hy]
      have hcq := cellsAt_get hm.1.2.2 (l4_get c (j / 8) (by omega))
      have hfz := hm.1.2.1 (j / 8)
      have hq : (j : Int) / 8 = ((j / 8 : Nat) : Int) := by omega
      have hr : (j : Int) % 8 = ((j % 8 : Nat) : Int) := by omega
      have htm : (j : Int).tmod 8 = ((j % 8 : Nat) : Int) := by rw [Int.tmod_eq_emod_of_nonneg (by omega)]; omega
      have htd : (j : Int).tdiv 8 = ((j / 8 : Nat) : Int) := by rw [Int.tdiv_eq_ediv_of_nonneg (by omega)]; omega
      have hq4 : j / 8 < 4 := by omega
      have hr4 : j % 8 < 8 := by omega
      have hwy : IntKind.u64.wrap y = y := by rw [IntKind.wrap_u64]; omega
      have htj : (n : Int) - 1 - (j : Int) = (t : Int) := by omega
      have hwn : IntKind.i64.wrap ((n : Int) - 1) = (n : Int) - 1 := by rw [IntKind.wrap_i64]; omega
      have hwt : IntKind.i64.wrap (t : Int) = (t : Int) := wrap_small _ (by omega) (by omega)
      have htn' : (t : Int) < (n : Int) := by omega
      have hjn : (j : Int) < (n : Int) := by omega
      have HC := Lib.hid hc
      have hbw : b < w.heap.size := hblt
      clear hm hc hcn hacc hy hyr hzb hzn ht
      generalize hqq : j / 8 = q at *
      generalize hrr : j % 8 = r at *
      clear hqq hrr
      have hwq : IntKind.i64.wrap (q : Int) = (q : Int) := wrap_small _ (by omega) (by omega)
      have hwr : IntKind.i64.wrap (r : Int) = (r : Int) := wrap_small _ (by omega) (by omega)
      have hq4' : (q : Int) < 4 := by omega
      have hwr8 : IntKind.i64.wrap ((r : Int) * 8) = ((r * 8 : Nat) : Int) := by rw [IntKind.wrap_i64]; omega
      go_wp2
      refine wp_plan (fun x => x.cell? ⟨b, off + t, none⟩ = some (.int .u8 y)) [3, 19] [0, 1, 2, 4, 5, 6, 7, 8, 9, 10, 11, 12, 13, 14, 15, 16, 3, 17, 18, 19] (by kernel_rfl) (by kernel_rfl) (HRow.out _ hB.drew) (fun hHeld => ?_)
      iterate 16 (refine wpT_take rfl (by rfl) (by rfl) (by intro w' hSw; (try dsimp only [Mem, cellsAt] at hSw); go_simp; (try with_reducible rfl)) (by assumption) ?_; (try simp only [Act.put, List.setIfInBounds_toArray, List.set_cons_zero, List.set_cons_succ]))
      (refine wpT_step rfl (by rfl) (fun K hK => ?_); go_simp)
      (refine hK.out _ _ _ (fun _ h => h) (hHeld) (fun hHeld => ?_); clear hK; clear K; (try simp only [Act.put, List.setIfInBounds_toArray, List.set_cons_zero, List.set_cons_succ]))
      iterate 2 (refine wpT_take rfl (by rfl) (by rfl) (by intro w' hSw; (try dsimp only [Mem, cellsAt] at hSw); go_simp; (try with_reducible rfl)) (by assumption) ?_; (try simp only [Act.put, List.setIfInBounds_toArray, List.set_cons_zero, List.set_cons_succ]))
      (refine wpT_step rfl (by rfl) (fun K hK => ?_); go_simp)
      (refine hK.out _ _ _ (fun _ h => h) (HRow.out _ (hB.drew.setCell (by show w.heap.size ≤ w.heap.size + 1; omega) _)) (fun hHeld => ?_); clear hK; clear K; (try simp only [Act.put, List.setIfInBounds_toArray, List.set_cons_zero, List.set_cons_succ]))
      (refine wpT_nil ?_)
      go_wp2
      have hM2 := Mem.setN (k := q) (v := .int .u64 z) (b := w.heap.size + 1) (by intro p hp; simp at hp; subst hp; simp) HM3.out
      rw [l4_set] at hM2
      refine ⟨⟨j + 1, setF c q z, by omega, by go_num, fun k => ?_, HZ.out.2, hB.drew.setCell (by show w.heap.size ≤ w.heap.size + 1; omega) _, ?_⟩, by simp [intOf]; omega⟩
      · unfold setF
        split
        · exact HZ.out.1
        · exact HC.out k
      · rw [hz]
        exact Mem.drew hM2
    · have hjn : j = n := by omega
      subst hjn
      obtain ⟨e0, e1, e2, e3⟩ := hc.b4.inj HS.out.1 (hcn.trans HS.out.2.symm)
      have hl : l4 c = [.int .u64 s0, .int .u64 s1, .int .u64 s2, .int .u64 s3] := by
        rw [← e0, ← e1, ← e2, ← e3]
        rfl
      rw [hl] at hm
      have hF := hm
      simp only [Mem, cellsAt, Nat.zero_add, Nat.reduceAdd, and_true] at hF
      clear hm HM3 hl hc hcn e0 e1 e2 e3
      have hgs := Nat.le_refl w.heap.size
      go_wp2
      refine bodyPost_ret (v := .tuple #[U4 s0 s1 s2 s3, .int .i64 0]) (by simp [results, Tryz.results46, go_sem, hF]) rfl ?_
      exact ⟨rfl, by (repeat (first | exact hB | refine bl_al ?_ _ | refine Below.setCell ?_ (by first | exact hgs | exact Nat.le_succ_of_le hgs | exact hgs2 | exact hgs3) _ | refine Below.drew ?_ | refine bl_drewN ?_ _))⟩
end Go.Proofs.YtlhdfmaekbnhaaaGreatDoor

/- slices.Reverse of 32 bytes in a box. (hM) -/
namespace Go.Proofs.YtlhdfmaekbnhaaaGreatDoor
set_option linter.unusedVariables false
set_option linter.unusedSimpArgs false
open Go.RowKit

/-- turned as far as i from both ends -/
def revF (f : Nat → Int) (i : Nat) : Nat → Int := fun k => if k < i ∨ 31 - i < k then f (31 - k) else f k
theorem revF_step (f : Nat → Int) (i : Nat) (hi : i < 16) : b8l (setF (setF (revF f i) i (revF f i (31 - i))) (31 - i) (revF f i i)) 32 = b8l (revF f (i + 1)) 32 := by
  refine b8l_congr fun k hk => ?_
  unfold setF revF
  by_cases h1 : k = 31 - i
  · rw [if_pos h1, if_neg (by omega), if_pos (by omega)]
    congr 1
    omega
  · rw [if_neg h1]
    by_cases h2 : k = i
    · rw [if_pos h2, if_neg (by omega), if_pos (by omega)]
      congr 1
      omega
    · rw [if_neg h2]
      by_cases h3 : k < i ∨ 31 - i < k
      · rw [if_pos h3, if_pos (by omega)]
      · rw [if_neg h3, if_neg (by omega)]
theorem revF_end (f : Nat → Int) : b8l (revF f 16) 32 = b8l (fun k => f (31 - k)) 32 := b8l_congr fun k hk => by
  unfold revF
  rw [if_pos (by omega)]

def RevRel (B g : Nat) (f : Nat → Int) (L : List (Nat × List Value)) (w : World) (i j : Value) (wr : World) : Prop :=
  ∃ m : Nat, m ≤ 16 ∧ i = .int .i64 m ∧ j = .int .i64 ((31 : Int) - m) ∧ Mem wr ((g, b8l (revF f m) 32) :: L) ∧ Below B w wr

set_option maxRecDepth 100000 in
set_option maxHeartbeats 2000000 in
theorem rev_any (B g : Nat) (hBg : B ≤ g) (f : Nat → Int) (L : List (Nat × List Value)) (hL : ∀ p ∈ L, p.1 ≠ g) (w : World) (hm : Mem w ((g, b8l f 32) :: L)) :
    Calls Tryz.prog 58 #[.slice (some ⟨g, 0, none⟩) 32 32] w fun e w' => e = .returned (.tuple #[]) ∧ Mem w' ((g, b8l (fun k => f (31 - k)) 32) :: L) ∧ Below B w w' := by
  have HM := Lib.hid hm
  have HL := Lib.hid hL
  have HBg := Lib.hid hBg
  clear hm hL hBg
  go_enter Tryz.func58, Tryz.ntmps58
  go_wp2
  go_loopw [2, 3] (fun i j wr => RevRel B g f L w i j wr) (fun i _ _ => 32 - (intOf i).toNat)
  case atStart =>
    refine ⟨0, by omega, rfl, rfl, ?_, Below.refl _ _⟩
    have : b8l (revF f 0) 32 = b8l f 32 := b8l_congr fun k hk => by unfold revF; rw [if_neg (by omega)]
    rw [this]
    exact HM.out
  case round =>
    obtain ⟨m, hm16, rfl, rfl, hm, hB⟩ := hrel
    by_cases hlt : m < 16
    · obtain ⟨h, hh⟩ : ∃ h, revF f m = h := ⟨_, rfl⟩
      obtain ⟨t, ht⟩ : ∃ t, 31 - m = t := ⟨_, rfl⟩
      have htm : (31 : Int) - (m : Int) = (t : Int) := by omega
      have hmt : (m : Int) < (t : Int) := by omega
      have hne : m ≠ t := by omega
      have hm32 : (m : Int) < 32 := by omega
      have ht32 : (t : Int) < 32 := by omega
      have hw1 : IntKind.i64.wrap ((m : Int) + 1) = (m : Int) + 1 := by rw [IntKind.wrap_i64]; omega
      have hw2 : IntKind.i64.wrap ((t : Int) - 1) = (t : Int) - 1 := by rw [IntKind.wrap_i64]; omega
      rw [hh] at hm
      rw [htm]
      have HT := Lib.hid (show revF f m = h ∧ 31 - m = t from ⟨hh, ht⟩)
      have HMm := Lib.hid hm
      have HB := Lib.hid hB
      clear hh ht hm hB
      go_wp2
      have c1 := cellsAt_get HMm.out.1.2.2 (b8l_get h 32 m (by omega))
      have c2 := cellsAt_get HMm.out.1.2.2 (b8l_get h 32 t (by omega))
      have z1 := HMm.out.1.2.1 m
      have z2 := HMm.out.1.2.1 t
      refine wp_fork (fun _ => True) [7, 11, 13, 15] (nodes [0, 1, 2, 3, 4, 5, 6, 8, 9, 10] (.fork 7 11 (nodes [11, 12, 13, 14, 15] .leaf) (nodes [7, 12, 13, 14, 15] .leaf))) (by kernel_rfl) (by kernel_rfl) trivial (fun hHeld => ?_)
      iterate 10 (refine wpF_take rfl (by rfl) (by rfl) (by intro w' hSw; (try dsimp only [Mem, cellsAt] at hSw); go_simp; (try with_reducible rfl)) (by assumption) ?_; (try simp only [Act.put, List.setIfInBounds_toArray, List.set_cons_zero, List.set_cons_succ]))
      (refine wpF_fork rfl rfl (fun K hK => ?_) (fun K hK => ?_) <;> go_simp)
      all_goals
        (refine hK.out _ _ _ (fun _ h => h) (trivial) (fun hHeld => ?_); clear hK; clear K; (try simp only [Act.put, List.setIfInBounds_toArray, List.set_cons_zero, List.set_cons_succ]))
        (refine wpF_step rfl (by rfl) (fun K hK => ?_); go_simp)
        (refine hK.out _ _ _ (fun _ h => h) (trivial) (fun hHeld => ?_); clear hK; clear K; (try simp only [Act.put, List.setIfInBounds_toArray, List.set_cons_zero, List.set_cons_succ]))
        iterate 1 (refine wpF_take rfl (by rfl) (by rfl) (by intro w' hSw; (try dsimp only [Mem, cellsAt] at hSw); go_simp; (try with_reducible rfl)) (by assumption) ?_; (try simp only [Act.put, List.setIfInBounds_toArray, List.set_cons_zero, List.set_cons_succ]))
        (refine wpF_step rfl (by rfl) (fun K hK => ?_); go_simp)
        (refine hK.out _ _ _ (fun _ h => h) (trivial) (fun hHeld => ?_); clear hK; clear K; (try simp only [Act.put, List.setIfInBounds_toArray, List.set_cons_zero, List.set_cons_succ]))
        iterate 1 (refine wpF_take rfl (by rfl) (by rfl) (by intro w' hSw; (try dsimp only [Mem, cellsAt] at hSw); go_simp; (try with_reducible rfl)) (by assumption) ?_; (try simp only [Act.put, List.setIfInBounds_toArray, List.set_cons_zero, List.set_cons_succ]))
        (refine wpF_step rfl (by rfl) (fun K hK => ?_); go_simp)
        (refine hK.out _ _ _ (fun _ h => h) (trivial) (fun hHeld => ?_); clear hK; clear K; (try simp only [Act.put, List.setIfInBounds_toArray, List.set_cons_zero, List.set_cons_succ]))
        (refine wpF_nil ?_)
        go_wp2
        have h1 := Mem.setN (k := t) (v := .int .u8 (h m)) HL.out (Mem.setN (k := m) (v := .int .u8 (h t)) HL.out HMm.out)
        rw [b8l_set, b8l_set, ← HT.out.1, ← HT.out.2, revF_step f m hlt] at h1
        rw [HT.out.1, HT.out.2] at h1
        refine ⟨⟨m + 1, by omega, by go_num, ?_, Mem.drew h1, ((HB.out.setCell HBg.out _).setCell HBg.out _).drew⟩, by simp [intOf]; omega⟩
        have : (31 : Int) - ((m + 1 : Nat) : Int) = (t : Int) - 1 := by omega
        rw [this]
    · have hme : m = 16 := by omega
      subst hme
      rw [revF_end] at hm
      have h16 : (31 : Int) - ((16 : Nat) : Int) = 15 := by decide
      have h16' : ((16 : Nat) : Int) = 16 := rfl
      rw [h16, h16']
      go_wp2
      exact bodyPost_end (v := .tuple #[]) (by simp [results, Tryz.results58, go_sem]) rfl ⟨rfl, hm, hB⟩
end Go.Proofs.YtlhdfmaekbnhaaaGreatDoor

/- Package hash: turned, Number, FromNumber. (hM) -/
namespace Go.Proofs.YtlhdfmaekbnhaaaGreatDoor
set_option linter.unusedVariables false
set_option linter.unusedSimpArgs false
open Go.RowKit

theorem cellsAt_of {w : World} {b : Nat} : ∀ {vs : List Value} {i : Nat}, (∀ j v, vs[j]? = some v → w.cell? ⟨b, i + j, none⟩ = some v) → cellsAt w b i vs
  | [], _, _ => trivial
  | u :: r, i, h => ⟨h 0 u rfl, cellsAt_of fun j v hv => by
    have := h (j + 1) v (by simpa using hv)
    rwa [show i + (j + 1) = i + 1 + j by omega] at this⟩
/-- a box, made and filled -/
theorem store_box {w : World} {L : List (Nat × List Value)} (hm : Mem w L) (z vs : List Value) (T : TypeId) (hz : z.length = vs.length) : Mem ((w.alloc (.cells z.toArray T)).setCells w.heap.size 0 vs) ((w.heap.size, vs) :: L) := by
  have hth : (w.alloc (.cells z.toArray T)).there w.heap.size 0 vs.length := fun j hj => by
    rw [Nat.zero_add]
    refine ⟨?_, by simp⟩
    rw [World.cell?_alloc_new]
    simp [hz, hj]
  have hb : Below w.heap.size w ((w.alloc (.cells z.toArray T)).setCells w.heap.size 0 vs) := bl_setCells (Nat.le_refl _) vs 0 _ (below_alloc w _)
  have hr := World.rangeAt_setCells_same (w.alloc (.cells z.toArray T)) w.heap.size 0 vs hth
  refine ⟨⟨?_, fun i => by rw [World.frozen?_setCells]; simp, cellsAt_of fun j v h => hr j v h⟩, Mem.later hb hm⟩
  have h1 : (w.alloc (.cells z.toArray T)).heap.size ≤ ((w.alloc (.cells z.toArray T)).setCells w.heap.size 0 vs).heap.size := by
    have := bl_setCells (a := w.alloc (.cells z.toArray T)) (b := w.heap.size) 
    clear this
    have key : ∀ (us : List Value) (o : Nat) (x : World), x.heap.size ≤ (x.setCells w.heap.size o us).heap.size := by
      intro us
      induction us with
      | nil => intro o x; exact Nat.le_refl _
      | cons u r ih =>
        intro o x
        rw [World.setCells]
        exact Nat.le_trans (by simp) (ih (o + 1) _)
    exact key vs 0 _
  rw [World.size_alloc] at h1
  omega
theorem there_of {w : World} {b n : Nat} {vs : List Value} (h : b < w.heap.size ∧ (∀ i, w.frozen? ⟨b, i, none⟩ = false) ∧ cellsAt w b 0 vs) (hl : vs.length = n) : w.there b 0 n := fun j hj => by
  rw [Nat.zero_add]
  refine ⟨?_, h.2.1 j⟩
  rw [cellsAt_get h.2.2 (List.getElem?_eq_getElem (by omega))]
  rfl
theorem row_of {w : World} {b n : Nat} {f : Nat → Int} (h : cellsAt w b 0 (b8l f n)) : Row w (some ⟨b, 0, none⟩) n n 1 (b8l f n) :=
  ⟨by rw [b8l_len, Nat.mul_one], Nat.le_refl _, fun h => (by cases h), fun ad ha i u hu => by
    simp only [Option.some.injEq] at ha
    subst ha
    refine ⟨rfl, ?_⟩
    rw [Nat.zero_add]
    exact cellsAt_get h hu, b8l_one f n⟩

set_option maxRecDepth 100000 in
set_option maxHeartbeats 1000000 in
theorem turned_any (f : Nat → Int) (w : World) :
    Calls Tryz.prog 45 #[arr32 f] w fun e w' => e = .returned (arr32 fun k => f (31 - k)) ∧ Below w.heap.size w w' := by
  obtain ⟨g, hg⟩ : ∃ g : Nat → Int, g = fun k => f (31 - k) := ⟨_, rfl⟩
  rw [← hg]
  have HR := Lib.hid (fun (w : World) (x : World) (hL : ∀ p ∈ [(w.heap.size + 1, b8l (fun _ => 0) 32)], p.1 ≠ w.heap.size) (hm : Mem x [(w.heap.size, b8l f 32), (w.heap.size + 1, b8l (fun _ => 0) 32)]) => hg ▸ rev_any w.heap.size w.heap.size (Nat.le_refl _) f _ hL x hm)
  clear hg
  go_enter Tryz.func45, Tryz.ntmps45
  go_wp2_with (first | (go_at_call 58; refine (HR.out w _ (by intro p hp; simp at hp; subst hp; simp) (by have h := Mem.swap (Mem.al (Mem.al (mem_nil w) (b8l f 32) 27) (b8l (fun _ => 0) 32) 27); simp only [World.size_alloc] at h; exact h)).mono ?_; rintro e w1 ⟨rfl, hm1, hb1⟩; replace hm1 := Lib.hid hm1) | (refine Go.wpList_load_mid rfl 27 (.tmp 1) rfl w.heap.size 0 rfl (b8l g 32) _ (rangeAt_of hm1.out.1.2.2) Tryz.underlying27 rfl (by rw [b8l_len]; kernel_rfl) ?_) | (refine Go.wpList_store_mid rfl 27 (.tmp 2) (.tmp 5) rfl (w.heap.size + 1) 0 (b8l g 32).toArray rfl rfl (by have h := there_of hm1.out.2.1 (b8l_len _ 32); simpa [b8l_len] using h) (by simp only [List.size_toArray, b8l_len]; kernel_rfl) (Go.all_oneCell_toArray (b8l_one g 32)) ?_))
  have hl := Go.run_loadVar_mid (P := Tryz.prog) (w1.setCells (w.heap.size + 1) 0 (b8l g 32)) (w.heap.size + 1) 0 27 (b8l g 32) _ (World.rangeAt_setCells_same w1 (w.heap.size + 1) 0 (b8l g 32) (by rw [b8l_len]; exact there_of hm1.out.2.1 (b8l_len _ 32))) Tryz.underlying27 rfl (by rw [b8l_len]; kernel_rfl)
  refine bodyPost_ret (v := arr32 g) (by simp [results, Tryz.results45, asAddr, hl, arr32, Act.put]) rfl ⟨rfl, bl_setCells (Nat.le_succ _) _ _ _ ?_⟩
  exact (bl_al (bl_al (Below.refl _ _) _) _).trans hb1
end Go.Proofs.YtlhdfmaekbnhaaaGreatDoor
