/- Disk: DiskReads: the walk (made by gen_reads.py). -/
import Derived.Test.YtoihponjnhhgbaaDk15
namespace Go.Proofs.Ytoihponjnhhgbaa
set_option linter.unusedVariables false
set_option linter.unusedSimpArgs false
open Go.RowKit

theorem Row.drewN {w : World} {ao : Option Addr} {n c sz : Nat} {xs : List Value} (h : Row w ao n c sz xs) (q : Nat) : Row (w.drewN q) ao n c sz xs := h.later (bl_drewN (Below.refl _ _) q)
theorem wsm (x : Int) (h1 : -9223372036854775808 ≤ x) (h2 : x ≤ 9223372036854775807) : IntKind.i64.wrap x = x := by rw [IntKind.wrap_i64]; omega
theorem own_idem (base : List Int) (pend : List (Int × List Int)) : ownD (ownD base pend).1 (ownD base pend).2 = ownD base pend := own_of (ownD_sane base pend)
theorem lay_own (base : List Int) (pend : List (Int × List Int)) (at_ : Int) (b : List Int) : layD (ownD base pend).1 (ownD base pend).2 at_ b = layD base pend at_ b := by unfold layD; rw [own_idem]
theorem lay_sane' (base : List Int) (pend : List (Int × List Int)) (at_ : Int) (b : List Int) : saneD (layD base pend at_ b).1.1 (layD base pend at_ b).1.2 = true := by
  rw [← lay_own]; exact lay_sane (ownD_sane base pend) at_ b
theorem read_own (base : List Int) (pend : List (Int × List Int)) (k : Int) : readD (ownD base pend).1 (ownD base pend).2 k = readD base pend k := by unfold readD; rw [own_idem]
theorem secs_succ (at_ : Int) (b : List Int) (n : Nat) : secs at_ b (n + 1) = secs at_ b n ++ [(at_ + (n : Int), (b.drop (32 * n)).take 32)] := by simp [secs, List.range_succ]
theorem rdL_secs (at_ k : Int) (b x : List Int) (n : Nat) : rdL (secs at_ b n) k x = if at_ ≤ k ∧ k - at_ < (n : Int) then (b.drop (32 * (k - at_).toNat)).take 32 else x := by
  induction n with
  | zero => rw [if_neg (by omega)]; rfl
  | succ n ih =>
    rw [secs_succ, rdL, List.foldl_append]
    show (if at_ + (n : Int) = k then (b.drop (32 * n)).take 32 else rdL (secs at_ b n) k x) = _
    by_cases h : at_ + (n : Int) = k
    · rw [if_pos h, if_pos (by omega), show (k - at_).toNat = n by omega]
    · rw [if_neg h, ih]
      by_cases h2 : at_ ≤ k ∧ k - at_ < (n : Int)
      · rw [if_pos h2, if_pos (by omega)]
      · rw [if_neg h2, if_neg (by omega)]
theorem rd_lay (base : List Int) (pend : List (Int × List Int)) (at_ : Int) (b : List Int) (k : Int) :
    readD (layD base pend at_ b).1.1 (layD base pend at_ b).1.2 k = if (layD base pend at_ b).2 = 0 ∧ 0 ≤ at_ ∧ at_ ≤ k ∧ k - at_ < (b.length : Int) / 32 then ((b.drop (32 * (k - at_).toNat)).take 32, 0) else readD base pend k := by
  have hs := lay_sane' base pend at_ b
  unfold layD at *
  split
  · rw [if_neg (by simp)]; exact read_own base pend k
  split
  · rename_i h1 h2
    rw [if_neg (by simp only; omega)]
    exact read_own base pend k
  split
  · rw [if_neg (by simp)]; exact read_own base pend k
  · rename_i h1 h2 h3
    rw [if_neg h1, if_neg h2, if_neg h3] at hs
    simp only at hs ⊢
    simp only [not_or, Int.not_lt] at h3
    unfold readD
    rw [own_of hs]
    simp only
    by_cases hin : 0 ≤ at_ ∧ at_ ≤ k ∧ k - at_ < (b.length : Int) / 32
    · refine Eq.trans ?_ (if_pos ⟨trivial, hin⟩).symm
      refine (if_neg (by omega)).trans ?_
      rw [rdL, List.foldl_append]
      show (rdL (secs at_ b (b.length / 32)) k _, (0 : Int)) = _
      rw [rdL_secs, if_pos (by omega)]
    · refine Eq.trans ?_ (if_neg (fun h => hin h.2)).symm
      split
      · rfl
      · rw [rdL, List.foldl_append]
        show (rdL (secs at_ b (b.length / 32)) k _, (0 : Int)) = _
        rw [rdL_secs, if_neg (by omega)]
        rfl
theorem rd_ok (base : List Int) (pend : List (Int × List Int)) (at_ : Int) (b : List Int) (k : Int) (h : (layD base pend at_ b).2 = 0) (h1 : 0 ≤ at_) (h2 : at_ ≤ k) (h3 : k - at_ < (b.length : Int) / 32) : (readD base pend k).2 = 0 := by
  unfold readD
  rw [if_neg]
  unfold layD at h
  split at h
  · simp at h
  split at h
  · omega
  split at h
  · simp at h
  · omega
theorem rd_at {base4 : List Int} {L4 : List (Int × List Int)} {LB LC : (List Int × List (Int × List Int)) × Int} (heq : (base4, L4) = LC.1) (hc : LC = LB) {k : Int} : readD base4 L4 k = readD LB.1.1 LB.1.2 k := by
  subst hc; rw [← heq]

set_option maxHeartbeats 2000000 in
theorem reads_walk (ao : Option Addr) (n c : Nat) (base : List Int) (po : Option Addr) (m pc : Nat) (R : List Rep) (at_ : Int) (qo : Option Addr) (qn qc : Nat) (data : List Int) (k : Int) (w : World) (h : DP w ao n c base po m pc R) (hq : Row w qo qn qc 1 (b8 data))
    (hat : -9223372036854775808 ≤ at_ ∧ at_ ≤ 9223372036854775807) (hk : -9223372036854775808 ≤ k ∧ k ≤ 9223372036854775807) :
    Calls Try.prog 6 #[.agg #[.slice ao n c, .slice po m pc], .int .i64 at_, .slice qo qn qc, .int .i64 k] w fun e w' => e = .returned (.bool true) ∧ Below w.heap.size w w' := by
  have H := Lib.hid h
  have HQ := Lib.hid hq
  have hFew := Lib.hid (few_any ao n c po m pc)
  have hql := hq.len8
  have hqle := hq.le
  have HQL := Lib.hid hql
  clear h hq
  by_cases hf : ¬ (n ≤ 9600 ∧ m ≤ 300)
  · have hd := Lib.hid (show (decide (n ≤ 9600) && decide (m ≤ 300)) = false by simp; omega)
    clear hql
    go_enter Try.func6, Try.ntmps6
    go_wp2_with (first | (go_at_call 9; refine (awake_any _).mono ?_; rintro e w1 ⟨rfl, hbx⟩; obtain ⟨hx1, hx2, _, _, _⟩ := box2 hbx) | (go_at_call 10; (with_reducible refine (hFew.out _).mono ?_); rintro e w2 ⟨rfl, hb2⟩; rw [hd.out]; replace hbx := bl_then hbx hb2; clear hb2 hx1 hx2; obtain ⟨hx1, hx2, _, _, _⟩ := box2 hbx))
    go_ret
    exact ⟨rfl, bl_then (below_alloc _ _) hbx⟩
  have hd := Lib.hid (show (decide (n ≤ 9600) && decide (m ≤ 300)) = true by simp; omega)
  have hn1 : n ≤ 9600 := by omega
  have hm1 : m ≤ 300 := by omega
  clear hf
  by_cases h200 : (200 : Int) < (qn : Int)
  · clear hql
    go_enter Try.func6, Try.ntmps6
    go_wp2_with (first | (go_at_call 9; refine (awake_any _).mono ?_; rintro e w1 ⟨rfl, hbx⟩; obtain ⟨hx1, hx2, _, _, _⟩ := box2 hbx) | (go_at_call 10; (with_reducible refine (hFew.out _).mono ?_); rintro e w2 ⟨rfl, hb2⟩; rw [hd.out]; replace hbx := bl_then hbx hb2; clear hb2 hx1 hx2; obtain ⟨hx1, hx2, _, _, _⟩ := box2 hbx))
    go_ret
    exact ⟨rfl, bl_then (below_alloc _ _) hbx⟩
  obtain ⟨LB, hLB⟩ : ∃ LB, layD base (R.map Rep.plain) at_ data = LB := ⟨_, rfl⟩
  have HLY := Lib.hid hLB
  have HS1 := Lib.hid (show LB.1.1.length ≤ 131072 ∧ LB.1.2.length ≤ 100000 by rw [← hLB]; have := saneD_parts (lay_sane' base (R.map Rep.plain) at_ data); omega)
  have hrl := rd_lay base (R.map Rep.plain) at_ data k
  rw [hLB] at hrl
  obtain ⟨RA, hRA⟩ : ∃ RA, readD base (R.map Rep.plain) k = RA := ⟨_, rfl⟩
  have HRA := Lib.hid hRA
  rw [hRA, ← hql] at hrl
  have he0 : LB.2 = 0 → (qn : Int) % 32 = 0 ∧ ((qn : Int) / 32 = 0 ∨ 0 ≤ at_) := by
    rw [← hLB]; unfold layD
    intro h
    split at h
    · simp at h
    split at h
    · omega
    split at h
    · simp at h
    · omega
  by_cases hE : LB.2 = 0
  · obtain ⟨LB1, LB2⟩ := LB
    change LB2 = 0 at hE
    subst hE
    obtain ⟨hq32, hq0⟩ := he0 rfl
    by_cases hin : 0 ≤ at_ ∧ at_ ≤ k ∧ k - at_ < (qn : Int) / 32
    · obtain ⟨t, ht⟩ := Int.eq_ofNat_of_zero_le (show 0 ≤ k - at_ by omega)
      have HRB := Lib.hid (show readD LB1.1 LB1.2 k = ((data.drop (32 * t)).take 32, 0) by rw [hrl, if_pos ⟨rfl, hin⟩, ht]; rfl)
      have hk0 := rd_ok base (R.map Rep.plain) at_ data k (by rw [hLB]) hin.1 hin.2.1 (by rw [← hql]; exact hin.2.2)
      rw [hRA] at hk0
      obtain ⟨RA1, RA2⟩ := RA
      change RA2 = 0 at hk0
      subst hk0
      obtain ⟨PC, hPC⟩ : ∃ PC, (data.drop (32 * t)).take 32 = PC := ⟨_, rfl⟩
      rw [hPC] at HRB
      cases qo with
      | none => have := HQ.out.nil rfl; omega
      | some ad =>
      obtain ⟨qb, qf, qs⟩ := ad
      obtain rfl : qs = none := (HQ.out.cells _ rfl 0 (.int .u8 (data.getD 0 0)) (by rw [b8, List.getElem?_map]; simp [List.getD_eq_getElem?_getD, List.getElem?_eq_getElem (show 0 < data.length by omega)])).1
      have HPR := Lib.hid (show Row w (some ⟨qb, qf + t * 32, none⟩) 32 (qc - t * 32) 1 (b8 PC) by
        have := (HQ.out.drop (t * 32) (by omega)).pre 32 (by omega)
        rw [b8_drop, Nat.mul_one, b8_take, Nat.mul_comm t 32, hPC, Nat.mul_comm 32 t] at this
        exact this)
      have ht2 : (t : Int) * 32 + 32 ≤ (qn : Int) := by omega
      have ht3 : (t : Int) * 32 + 32 ≤ (qc : Int) := by omega
      have ht4 : (t : Int) * 32 < (qc : Int) := by omega
      have ht7 : 32 * (t : Int) + 32 ≤ (qc : Int) := by omega
      have ht8 : 32 * (t : Int) < (qc : Int) := by omega
      have ht9 : 0 ≤ (t : Int) := by omega
      have hw1 : IntKind.i64.wrap (t : Int) = (t : Int) := wsm _ (by omega) (by omega)
      have hw2 : IntKind.i64.wrap (32 * (t : Int)) = 32 * (t : Int) := wsm _ (by omega) (by omega)
      have hw3 : IntKind.i64.wrap (32 * (t : Int) + 32) = 32 * (t : Int) + 32 := wsm _ (by omega) (by omega)
      have hw4 : max (32 * (t : Int) + 32) 0 = 32 * (t : Int) + 32 := by omega
      have hw5 : (32 * (t : Int)).toNat = t * 32 := by omega
      have hw6 : (32 * (t : Int) + 32).toNat = t * 32 + 32 := by omega
      have hw7 : t * 32 + 32 - t * 32 = 32 := by omega
      have hw8 : ¬ qc = t * 32 := by omega
      have hw9 : 32 * (t : Int) ≤ 32 * (t : Int) + 32 := by omega
      have hw10 : 0 ≤ 32 * (t : Int) + 32 := by omega
      have hw11 : 0 ≤ 32 * (t : Int) := by omega
      have ht5 : (t : Int) < (qn : Int) / 32 := by omega
      have ht6 : (t : Int) ≤ 10 := by omega
      have ha0 : 0 ≤ at_ := hin.1
      have hak : at_ ≤ k := hin.2.1
      clear hrl hRA hLB hql he0 hin hPC hq0
      go_enter Try.func6, Try.ntmps6
      go_wp2_with (first | (go_at_call 9; refine (awake_any _).mono ?_; rintro e w1 ⟨rfl, hbx⟩; obtain ⟨hx1, hx2, _, _, _⟩ := box2 hbx) | (go_at_call 10; (with_reducible refine (hFew.out _).mono ?_); rintro e w2 ⟨rfl, hb2⟩; rw [hd.out]; replace hbx := bl_then hbx hb2; clear hb2 hx1 hx2; obtain ⟨hx1, hx2, _, _, _⟩ := box2 hbx) | (go_at_call 11; (with_reducible refine (drive_any ao n c base po m pc R _ (H.out.later (bl_then (below_alloc _ _) hbx)) (by omega)).mono ?_); rintro e w3 ⟨po1, pc1, rfl, hdp1, hb3⟩; replace hbx := bl_then hbx hb3; clear hb3 hx1 hx2; obtain ⟨hx1, hx2, _, _, _⟩ := box2 hbx; replace hdp1 := Lib.hid hdp1) | (go_at_call 16; (with_reducible refine (lay_any ao n c base po1 m pc1 R at_ _ qn qc data _ (hdp1.out.later (below_alloc _ _)) (HQ.out.later (bl_then (below_alloc _ _) (bl_then hbx (below_alloc _ _)))) (by omega) (by omega) (by omega) hat).mono ?_); rintro e w4 ⟨ao4, n4, c4, base4, po4, m4, pc4, R4, rfl, hdp4, heq4, hb4⟩; rw [HLY.out]; have hbo := hb4; replace hb4 := bl_then (below_alloc _ _) hb4; replace hbx := bl_then hbx hb4; clear hb4 hx1 hx2; obtain ⟨hx1, hx2, _, _, _⟩ := box2 hbx; obtain ⟨hn4, hm4⟩ := more_small hdp4 heq4 HLY.out HS1.out; obtain ⟨ho1, ho2, _, _, _⟩ := box2 (bl_then hbo (below_alloc w4 (.cells #[.slice ao4 n4 c4, .slice po4 m4 pc4] 30))); replace hdp4 := Lib.hid hdp4; replace heq4 := Lib.hid heq4) | (go_at_call 12; (with_reducible refine (read_any ao n c base po1 m pc1 R k _ (hdp1.out.later (bl_then (below_alloc _ _) (bl_then hbo (below_alloc _ _)))) (by omega) (by omega) hk).mono ?_); rintro e w5 ⟨bo5, n5, c5, rfl, hr5, hb5⟩; rw [HRA.out] at hr5 ⊢; have hbX := hb5; obtain ⟨hX1, hX2, _, _, _⟩ := box2 hbX; replace hr5 := Lib.hid hr5) | (go_at_call 12; (with_reducible refine (read_any ao4 n4 c4 base4 po4 m4 pc4 R4 k _ (hdp4.out.later (bl_then (below_alloc _ _) hbX)) (by omega) (by omega) hk).mono ?_); rintro e w6 ⟨bo6, n6, c6, rfl, hr6, hb6⟩; rw [(rd_at heq4.out HLY.out).trans HRB.out] at hr6 ⊢; have hcv1 := conv_row (hr5.out.later hb6); have hcv2 := conv_row hr6; have hbz := bl_then hbx (bl_then (below_alloc _ _) (bl_then hbX hb6)); have hcv3 := (fun q => conv_row ((HPR.out.later (bl_then (below_alloc _ _) hbz)).drewN q)); have hcv4 := (fun q => conv_row (hr6.drewN q)); replace hr6 := Lib.hid hr6))
      go_quiet (fail)
      go_wp2
      go_ret
      exact ⟨rfl, bl_drewN (bl_then (below_alloc _ _) hbz) _⟩
    · have HRB := Lib.hid (show readD LB1.1 LB1.2 k = RA by rw [hrl, if_neg (by simp only; omega)])
      have hin2 : ¬ (0 ≤ at_ ∧ at_ ≤ k ∧ k - at_ < (qn : Int) / 32) := hin
      clear hrl hRA hLB hql he0 hin hq0
      by_cases ha0 : at_ < 0
      · go_enter Try.func6, Try.ntmps6
        go_wp2_with (first | (go_at_call 9; refine (awake_any _).mono ?_; rintro e w1 ⟨rfl, hbx⟩; obtain ⟨hx1, hx2, _, _, _⟩ := box2 hbx) | (go_at_call 10; (with_reducible refine (hFew.out _).mono ?_); rintro e w2 ⟨rfl, hb2⟩; rw [hd.out]; replace hbx := bl_then hbx hb2; clear hb2 hx1 hx2; obtain ⟨hx1, hx2, _, _, _⟩ := box2 hbx) | (go_at_call 11; (with_reducible refine (drive_any ao n c base po m pc R _ (H.out.later (bl_then (below_alloc _ _) hbx)) (by omega)).mono ?_); rintro e w3 ⟨po1, pc1, rfl, hdp1, hb3⟩; replace hbx := bl_then hbx hb3; clear hb3 hx1 hx2; obtain ⟨hx1, hx2, _, _, _⟩ := box2 hbx; replace hdp1 := Lib.hid hdp1) | (go_at_call 16; (with_reducible refine (lay_any ao n c base po1 m pc1 R at_ _ qn qc data _ (hdp1.out.later (below_alloc _ _)) (HQ.out.later (bl_then (below_alloc _ _) (bl_then hbx (below_alloc _ _)))) (by omega) (by omega) (by omega) hat).mono ?_); rintro e w4 ⟨ao4, n4, c4, base4, po4, m4, pc4, R4, rfl, hdp4, heq4, hb4⟩; rw [HLY.out]; have hbo := hb4; replace hb4 := bl_then (below_alloc _ _) hb4; replace hbx := bl_then hbx hb4; clear hb4 hx1 hx2; obtain ⟨hx1, hx2, _, _, _⟩ := box2 hbx; obtain ⟨hn4, hm4⟩ := more_small hdp4 heq4 HLY.out HS1.out; obtain ⟨ho1, ho2, _, _, _⟩ := box2 (bl_then hbo (below_alloc w4 (.cells #[.slice ao4 n4 c4, .slice po4 m4 pc4] 30))); replace hdp4 := Lib.hid hdp4; replace heq4 := Lib.hid heq4) | (go_at_call 12; (with_reducible refine (read_any ao n c base po1 m pc1 R k _ (hdp1.out.later (bl_then (below_alloc _ _) (bl_then hbo (below_alloc _ _)))) (by omega) (by omega) hk).mono ?_); rintro e w5 ⟨bo5, n5, c5, rfl, hr5, hb5⟩; rw [HRA.out] at hr5 ⊢; have hbX := hb5; obtain ⟨hX1, hX2, _, _, _⟩ := box2 hbX; replace hr5 := Lib.hid hr5) | (go_at_call 12; (with_reducible refine (read_any ao4 n4 c4 base4 po4 m4 pc4 R4 k _ (hdp4.out.later (bl_then (below_alloc _ _) hbX)) (by omega) (by omega) hk).mono ?_); rintro e w6 ⟨bo6, n6, c6, rfl, hr6, hb6⟩; rw [(rd_at heq4.out HLY.out).trans HRB.out] at hr6 ⊢; have hcv1 := conv_row (hr5.out.later hb6); have hcv2 := conv_row hr6; have hbz := bl_then hbx (bl_then (below_alloc _ _) (bl_then hbX hb6)); skip; replace hr6 := Lib.hid hr6))
        go_ret
        exact ⟨rfl, bl_then (below_alloc _ _) hbz⟩
      have ha1 : 0 ≤ at_ := by omega
      by_cases ha2 : k < at_
      · go_enter Try.func6, Try.ntmps6
        go_wp2_with (first | (go_at_call 9; refine (awake_any _).mono ?_; rintro e w1 ⟨rfl, hbx⟩; obtain ⟨hx1, hx2, _, _, _⟩ := box2 hbx) | (go_at_call 10; (with_reducible refine (hFew.out _).mono ?_); rintro e w2 ⟨rfl, hb2⟩; rw [hd.out]; replace hbx := bl_then hbx hb2; clear hb2 hx1 hx2; obtain ⟨hx1, hx2, _, _, _⟩ := box2 hbx) | (go_at_call 11; (with_reducible refine (drive_any ao n c base po m pc R _ (H.out.later (bl_then (below_alloc _ _) hbx)) (by omega)).mono ?_); rintro e w3 ⟨po1, pc1, rfl, hdp1, hb3⟩; replace hbx := bl_then hbx hb3; clear hb3 hx1 hx2; obtain ⟨hx1, hx2, _, _, _⟩ := box2 hbx; replace hdp1 := Lib.hid hdp1) | (go_at_call 16; (with_reducible refine (lay_any ao n c base po1 m pc1 R at_ _ qn qc data _ (hdp1.out.later (below_alloc _ _)) (HQ.out.later (bl_then (below_alloc _ _) (bl_then hbx (below_alloc _ _)))) (by omega) (by omega) (by omega) hat).mono ?_); rintro e w4 ⟨ao4, n4, c4, base4, po4, m4, pc4, R4, rfl, hdp4, heq4, hb4⟩; rw [HLY.out]; have hbo := hb4; replace hb4 := bl_then (below_alloc _ _) hb4; replace hbx := bl_then hbx hb4; clear hb4 hx1 hx2; obtain ⟨hx1, hx2, _, _, _⟩ := box2 hbx; obtain ⟨hn4, hm4⟩ := more_small hdp4 heq4 HLY.out HS1.out; obtain ⟨ho1, ho2, _, _, _⟩ := box2 (bl_then hbo (below_alloc w4 (.cells #[.slice ao4 n4 c4, .slice po4 m4 pc4] 30))); replace hdp4 := Lib.hid hdp4; replace heq4 := Lib.hid heq4) | (go_at_call 12; (with_reducible refine (read_any ao n c base po1 m pc1 R k _ (hdp1.out.later (bl_then (below_alloc _ _) (bl_then hbo (below_alloc _ _)))) (by omega) (by omega) hk).mono ?_); rintro e w5 ⟨bo5, n5, c5, rfl, hr5, hb5⟩; rw [HRA.out] at hr5 ⊢; have hbX := hb5; obtain ⟨hX1, hX2, _, _, _⟩ := box2 hbX; replace hr5 := Lib.hid hr5) | (go_at_call 12; (with_reducible refine (read_any ao4 n4 c4 base4 po4 m4 pc4 R4 k _ (hdp4.out.later (bl_then (below_alloc _ _) hbX)) (by omega) (by omega) hk).mono ?_); rintro e w6 ⟨bo6, n6, c6, rfl, hr6, hb6⟩; rw [(rd_at heq4.out HLY.out).trans HRB.out] at hr6 ⊢; have hcv1 := conv_row (hr5.out.later hb6); have hcv2 := conv_row hr6; have hbz := bl_then hbx (bl_then (below_alloc _ _) (bl_then hbX hb6)); skip; replace hr6 := Lib.hid hr6))
        go_ret
        exact ⟨rfl, bl_then (below_alloc _ _) hbz⟩
      have ha3 : at_ ≤ k := by omega
      have ha4 : (qn : Int) / 32 ≤ k - at_ := by omega
      go_enter Try.func6, Try.ntmps6
      go_wp2_with (first | (go_at_call 9; refine (awake_any _).mono ?_; rintro e w1 ⟨rfl, hbx⟩; obtain ⟨hx1, hx2, _, _, _⟩ := box2 hbx) | (go_at_call 10; (with_reducible refine (hFew.out _).mono ?_); rintro e w2 ⟨rfl, hb2⟩; rw [hd.out]; replace hbx := bl_then hbx hb2; clear hb2 hx1 hx2; obtain ⟨hx1, hx2, _, _, _⟩ := box2 hbx) | (go_at_call 11; (with_reducible refine (drive_any ao n c base po m pc R _ (H.out.later (bl_then (below_alloc _ _) hbx)) (by omega)).mono ?_); rintro e w3 ⟨po1, pc1, rfl, hdp1, hb3⟩; replace hbx := bl_then hbx hb3; clear hb3 hx1 hx2; obtain ⟨hx1, hx2, _, _, _⟩ := box2 hbx; replace hdp1 := Lib.hid hdp1) | (go_at_call 16; (with_reducible refine (lay_any ao n c base po1 m pc1 R at_ _ qn qc data _ (hdp1.out.later (below_alloc _ _)) (HQ.out.later (bl_then (below_alloc _ _) (bl_then hbx (below_alloc _ _)))) (by omega) (by omega) (by omega) hat).mono ?_); rintro e w4 ⟨ao4, n4, c4, base4, po4, m4, pc4, R4, rfl, hdp4, heq4, hb4⟩; rw [HLY.out]; have hbo := hb4; replace hb4 := bl_then (below_alloc _ _) hb4; replace hbx := bl_then hbx hb4; clear hb4 hx1 hx2; obtain ⟨hx1, hx2, _, _, _⟩ := box2 hbx; obtain ⟨hn4, hm4⟩ := more_small hdp4 heq4 HLY.out HS1.out; obtain ⟨ho1, ho2, _, _, _⟩ := box2 (bl_then hbo (below_alloc w4 (.cells #[.slice ao4 n4 c4, .slice po4 m4 pc4] 30))); replace hdp4 := Lib.hid hdp4; replace heq4 := Lib.hid heq4) | (go_at_call 12; (with_reducible refine (read_any ao n c base po1 m pc1 R k _ (hdp1.out.later (bl_then (below_alloc _ _) (bl_then hbo (below_alloc _ _)))) (by omega) (by omega) hk).mono ?_); rintro e w5 ⟨bo5, n5, c5, rfl, hr5, hb5⟩; rw [HRA.out] at hr5 ⊢; have hbX := hb5; obtain ⟨hX1, hX2, _, _, _⟩ := box2 hbX; replace hr5 := Lib.hid hr5) | (go_at_call 12; (with_reducible refine (read_any ao4 n4 c4 base4 po4 m4 pc4 R4 k _ (hdp4.out.later (bl_then (below_alloc _ _) hbX)) (by omega) (by omega) hk).mono ?_); rintro e w6 ⟨bo6, n6, c6, rfl, hr6, hb6⟩; rw [(rd_at heq4.out HLY.out).trans HRB.out] at hr6 ⊢; have hcv1 := conv_row (hr5.out.later hb6); have hcv2 := conv_row hr6; have hbz := bl_then hbx (bl_then (below_alloc _ _) (bl_then hbX hb6)); skip; replace hr6 := Lib.hid hr6))
      go_ret
      exact ⟨rfl, bl_then (below_alloc _ _) hbz⟩
  · have HRB := Lib.hid (show readD LB.1.1 LB.1.2 k = RA by rw [hrl, if_neg (by omega)])
    have hE2 : ¬ LB.2 = (0 : Int) := hE
    clear hrl hRA hLB hql he0
    go_enter Try.func6, Try.ntmps6
    go_wp2_with (first | (go_at_call 9; refine (awake_any _).mono ?_; rintro e w1 ⟨rfl, hbx⟩; obtain ⟨hx1, hx2, _, _, _⟩ := box2 hbx) | (go_at_call 10; (with_reducible refine (hFew.out _).mono ?_); rintro e w2 ⟨rfl, hb2⟩; rw [hd.out]; replace hbx := bl_then hbx hb2; clear hb2 hx1 hx2; obtain ⟨hx1, hx2, _, _, _⟩ := box2 hbx) | (go_at_call 11; (with_reducible refine (drive_any ao n c base po m pc R _ (H.out.later (bl_then (below_alloc _ _) hbx)) (by omega)).mono ?_); rintro e w3 ⟨po1, pc1, rfl, hdp1, hb3⟩; replace hbx := bl_then hbx hb3; clear hb3 hx1 hx2; obtain ⟨hx1, hx2, _, _, _⟩ := box2 hbx; replace hdp1 := Lib.hid hdp1) | (go_at_call 16; (with_reducible refine (lay_any ao n c base po1 m pc1 R at_ _ qn qc data _ (hdp1.out.later (below_alloc _ _)) (HQ.out.later (bl_then (below_alloc _ _) (bl_then hbx (below_alloc _ _)))) (by omega) (by omega) (by omega) hat).mono ?_); rintro e w4 ⟨ao4, n4, c4, base4, po4, m4, pc4, R4, rfl, hdp4, heq4, hb4⟩; rw [HLY.out]; have hbo := hb4; replace hb4 := bl_then (below_alloc _ _) hb4; replace hbx := bl_then hbx hb4; clear hb4 hx1 hx2; obtain ⟨hx1, hx2, _, _, _⟩ := box2 hbx; obtain ⟨hn4, hm4⟩ := more_small hdp4 heq4 HLY.out HS1.out; obtain ⟨ho1, ho2, _, _, _⟩ := box2 (bl_then hbo (below_alloc w4 (.cells #[.slice ao4 n4 c4, .slice po4 m4 pc4] 30))); replace hdp4 := Lib.hid hdp4; replace heq4 := Lib.hid heq4) | (go_at_call 12; (with_reducible refine (read_any ao n c base po1 m pc1 R k _ (hdp1.out.later (bl_then (below_alloc _ _) (bl_then hbo (below_alloc _ _)))) (by omega) (by omega) hk).mono ?_); rintro e w5 ⟨bo5, n5, c5, rfl, hr5, hb5⟩; rw [HRA.out] at hr5 ⊢; have hbX := hb5; obtain ⟨hX1, hX2, _, _, _⟩ := box2 hbX; replace hr5 := Lib.hid hr5) | (go_at_call 12; (with_reducible refine (read_any ao4 n4 c4 base4 po4 m4 pc4 R4 k _ (hdp4.out.later (bl_then (below_alloc _ _) hbX)) (by omega) (by omega) hk).mono ?_); rintro e w6 ⟨bo6, n6, c6, rfl, hr6, hb6⟩; rw [(rd_at heq4.out HLY.out).trans HRB.out] at hr6 ⊢; have hcv1 := conv_row (hr5.out.later hb6); have hcv2 := conv_row hr6; have hbz := bl_then hbx (bl_then (below_alloc _ _) (bl_then hbX hb6)); skip; replace hr6 := Lib.hid hr6))
    go_ret
    exact ⟨rfl, bl_then (below_alloc _ _) hbz⟩
end Go.Proofs.Ytoihponjnhhgbaa
