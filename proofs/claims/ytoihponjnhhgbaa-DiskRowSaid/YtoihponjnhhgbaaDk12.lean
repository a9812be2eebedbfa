/- Disk: plain facts on syncs and crashes; DiskSynced: the walk. -/
import Derived.Test.YtoihponjnhhgbaaDk11
namespace Go.Proofs.Ytoihponjnhhgbaa
set_option linter.unusedVariables false
set_option linter.unusedSimpArgs false
open Go.RowKit

theorem own_of {base : List Int} {pend : List (Int × List Int)} (h : saneD base pend = true) : ownD base pend = (base, pend) := by unfold ownD; rw [if_pos h]
theorem bytes_len {base : List Int} {pend : List (Int × List Int)} (h : saneD base pend = true) : (bytesD base pend).length = base.length := by
  unfold bytesD; rw [own_of h]
  exact ovl_len base pend (saneD_parts h).2.2.2
theorem sane_lone {base B : List Int} {pend : List (Int × List Int)} (h : saneD base pend = true) (hl : B.length = base.length) : saneD B [] = true := by
  obtain ⟨h1, h2, h3, _⟩ := saneD_parts h
  simp only [saneD, hl, Bool.and_eq_true, decide_eq_true_eq, List.all_nil, List.length_nil]
  exact ⟨⟨⟨h1, by omega⟩, by omega⟩, trivial⟩
theorem crash_lone {B : List Int} (h : saneD B [] = true) (plan : List Int) : crashD B [] plan = B := by unfold crashD; rw [own_of h]; rfl
theorem bytes_lone {B : List Int} (h : saneD B [] = true) : bytesD B [] = B := by unfold bytesD; rw [own_of h]; rfl
theorem crs_all (base : List Int) (l : List (Int × List Int)) (h : ∀ p ∈ l, p.2.length = 32) : crs base l (List.replicate l.length 32) = ovl base l := by
  induction l generalizing base with
  | nil => rfl
  | cons p l ih =>
    have hp := h p (by simp)
    rw [List.length_cons, List.replicate_succ]
    show crs (spl base (32 * p.1.toNat) (p.2.take (min ((32 : Int)).toNat 32))) l (List.replicate l.length 32) = ovl (spl base (32 * p.1.toNat) p.2) l
    rw [show p.2.take (min ((32 : Int)).toNat 32) = p.2 by rw [show min ((32 : Int)).toNat 32 = 32 from rfl, List.take_of_length_le (by omega)]]
    exact ih _ (fun q hq => h q (by simp [hq]))
theorem crash_all {base : List Int} {pend : List (Int × List Int)} (h : saneD base pend = true) : crashD base pend (List.replicate pend.length 32) = bytesD base pend := by
  unfold crashD bytesD
  rw [own_of h]
  exact crs_all base pend (fun p hp => ((saneD_parts h).2.2.2 p hp).2.2)
theorem crash_none {base : List Int} {pend : List (Int × List Int)} (h : saneD base pend = true) : crashD base pend [] = base := by
  unfold crashD
  rw [own_of h]
  simp [crs]

def SynRel (w1 : World) (m : Nat) (all i : Value) (wr : World) : Prop :=
  ∃ (j c : Nat) (ao : Option Addr), j ≤ m ∧ i = .int .i64 (j : Int) ∧ all = .slice ao j c ∧ OwnN w1.heap.size 5 1 wr ao j c (b8 (List.replicate j 32)) ∧ Below w1.heap.size w1 wr

theorem field_base (u v : Value) (w : World) : (Instr.field 30 (.agg #[u, v]) 0).run Try.prog w = .ok u w := by
  simp [Instr.field, run_underlying Try.underlying30, part, asAgg, isAgg, run_underlying Try.underlying22, go_sem]

theorem syn_held {w w3 w5 wr x : World} {ao : Option Addr} {n c : Nat} {base : List Int} {u1 v1 u2 v2 v3 : Value} {T1 T2 T3 : TypeId} (hbs : Below (w5.alloc (.cells #[u1, v1] T1)).heap.size (w5.alloc (.cells #[u1, v1] T1)) wr) (hbo : Below (w3.alloc (.cells #[u2, v2] T2)).heap.size (w3.alloc (.cells #[u2, v2] T2)) wr)
    (hbx : Below (w.alloc (.cells #[.slice ao n c, v3] T3)).heap.size (w.alloc (.cells #[.slice ao n c, v3] T3)) wr) (hx : Below wr.heap.size wr x) (hr : Row x ao n c 1 (b8 base)) :
    x.cell? ⟨w5.heap.size, 0, none⟩ = some u1 ∧ x.cell? ⟨w5.heap.size, 1, none⟩ = some v1 ∧ x.cell? ⟨w3.heap.size, 0, none⟩ = some u2 ∧ x.cell? ⟨w3.heap.size, 1, none⟩ = some v2 ∧ x.cell? ⟨w.heap.size, 0, none⟩ = some (.slice ao n c) ∧ (convert 22 9 (.slice ao n c)).run Try.prog x = .ok (.string (strOfNums base)) x := by
  obtain ⟨h1, h2, _⟩ := box2 (bl_then hbs hx)
  obtain ⟨h3, h4, _⟩ := box2 (bl_then hbo hx)
  obtain ⟨h5, _⟩ := box2 (bl_then hbx hx)
  exact ⟨h1, h2, h3, h4, h5, conv_row hr⟩

set_option maxHeartbeats 2000000 in
theorem synced_walk (ao : Option Addr) (n c : Nat) (base : List Int) (po : Option Addr) (m pc : Nat) (R : List Rep) (qo : Option Addr) (qn qc : Nat) (plan : List Int) (w : World) (h : DP w ao n c base po m pc R) (hq : Row w qo qn qc 1 (b8 plan)) (hp : ∀ x ∈ plan, 0 ≤ x ∧ x < 256) :
    Calls Try.prog 4 #[.agg #[.slice ao n c, .slice po m pc], .slice qo qn qc] w fun e w' => e = .returned (.bool true) ∧ Below w.heap.size w w' := by
  have H := Lib.hid h
  have HQ := Lib.hid hq
  have HP := Lib.hid hp
  have hFew := Lib.hid (few_any ao n c po m pc)
  clear h hq hp
  by_cases hf : ¬ (n ≤ 9600 ∧ m ≤ 300)
  · have hd := Lib.hid (show (decide (n ≤ 9600) && decide (m ≤ 300)) = false by simp; omega)
    go_enter Try.func4, Try.ntmps4
    go_wp2_with (first | (go_at_call 9; refine (awake_any _).mono ?_; rintro e w1 ⟨rfl, hbx⟩; obtain ⟨hx1, hx2, _, _, _⟩ := box2 hbx) | (go_at_call 10; (with_reducible refine (hFew.out _).mono ?_); rintro e w2 ⟨rfl, hb2⟩; rw [hd.out]; replace hbx := bl_then hbx hb2; clear hb2 hx1 hx2; obtain ⟨hx1, hx2, _, _, _⟩ := box2 hbx))
    go_ret
    exact ⟨rfl, bl_then (below_alloc _ _) hbx⟩
  have hd := Lib.hid (show (decide (n ≤ 9600) && decide (m ≤ 300)) = true by simp; omega)
  have hn1 : n ≤ 9600 := by omega
  have hm1 : m ≤ 300 := by omega
  clear hf
  by_cases h400 : (400 : Int) < (qn : Int)
  · go_enter Try.func4, Try.ntmps4
    go_wp2_with (first | (go_at_call 9; refine (awake_any _).mono ?_; rintro e w1 ⟨rfl, hbx⟩; obtain ⟨hx1, hx2, _, _, _⟩ := box2 hbx) | (go_at_call 10; (with_reducible refine (hFew.out _).mono ?_); rintro e w2 ⟨rfl, hb2⟩; rw [hd.out]; replace hbx := bl_then hbx hb2; clear hb2 hx1 hx2; obtain ⟨hx1, hx2, _, _, _⟩ := box2 hbx))
    go_ret
    exact ⟨rfl, bl_then (below_alloc _ _) hbx⟩
  by_cases hsane : ¬ saneD base (R.map Rep.plain) = true
  · have hsn := Lib.hid (show saneD base (R.map Rep.plain) = false by simpa using hsane)
    clear hsane
    go_enter Try.func4, Try.ntmps4
    go_wp2_with (first | (go_at_call 9; refine (awake_any _).mono ?_; rintro e w1 ⟨rfl, hbx⟩; obtain ⟨hx1, hx2, _, _, _⟩ := box2 hbx) | (go_at_call 10; (with_reducible refine (hFew.out _).mono ?_); rintro e w2 ⟨rfl, hb2⟩; rw [hd.out]; replace hbx := bl_then hbx hb2; clear hb2 hx1 hx2; obtain ⟨hx1, hx2, _, _, _⟩ := box2 hbx) | (go_at_call 11; (with_reducible refine (drive_any ao n c base po m pc R _ (H.out.later (bl_then (below_alloc _ _) hbx)) (by omega)).mono ?_); rintro e w3 ⟨po1, pc1, rfl, hdp1, hb3⟩; replace hbx := bl_then hbx hb3; clear hb3 hx1 hx2; obtain ⟨hx1, hx2, _, _, _⟩ := box2 hbx; replace hdp1 := Lib.hid hdp1) | (go_at_call 20; (with_reducible refine (sane_any ao n c base po1 m pc1 R _ hdp1.out (by omega) (by omega)).mono ?_); rintro e w4 ⟨rfl, hb4⟩; rw [hsn.out]; replace hbx := bl_then hbx hb4; clear hb4 hx1 hx2; obtain ⟨hx1, hx2, _, _, _⟩ := box2 hbx))
    go_ret
    exact ⟨rfl, bl_then (below_alloc _ _) hbx⟩
  have hsn := Lib.hid (show saneD base (R.map Rep.plain) = true by simpa using hsane)
  clear hsane
  obtain ⟨BB, hBB⟩ : ∃ BB, bytesD base (R.map Rep.plain) = BB := ⟨_, rfl⟩
  have HBB := Lib.hid hBB
  have HBl := Lib.hid (show BB.length = n by rw [← hBB, bytes_len hsn.out]; exact H.out.row.len8.symm)
  have HLn := Lib.hid (sane_lone hsn.out (by rw [← hBB]; exact bytes_len hsn.out) : saneD BB [] = true)
  clear hBB
  go_enter Try.func4, Try.ntmps4
  go_wp2_with (first | (go_at_call 9; refine (awake_any _).mono ?_; rintro e w1 ⟨rfl, hbx⟩; obtain ⟨hx1, hx2, _, _, _⟩ := box2 hbx) | (go_at_call 10; (with_reducible refine (hFew.out _).mono ?_); rintro e w2 ⟨rfl, hb2⟩; rw [hd.out]; replace hbx := bl_then hbx hb2; clear hb2 hx1 hx2; obtain ⟨hx1, hx2, _, _, _⟩ := box2 hbx) | (go_at_call 11; (with_reducible refine (drive_any ao n c base po m pc R _ (H.out.later (bl_then (below_alloc _ _) hbx)) (by omega)).mono ?_); rintro e w3 ⟨po1, pc1, rfl, hdp1, hb3⟩; replace hbx := bl_then hbx hb3; clear hb3 hx1 hx2; obtain ⟨hx1, hx2, _, _, _⟩ := box2 hbx; replace hdp1 := Lib.hid hdp1) | (go_at_call 20; (with_reducible refine (sane_any ao n c base po1 m pc1 R _ hdp1.out (by omega) (by omega)).mono ?_); rintro e w4 ⟨rfl, hb4⟩; rw [hsn.out]; replace hbx := bl_then hbx hb4; clear hb4 hx1 hx2; obtain ⟨hx1, hx2, _, _, _⟩ := box2 hbx) | (go_at_call 24; (with_reducible refine (sync_any ao n c base po1 m pc1 R w3 _ hdp1.out (below_alloc _ _) (by omega) (by omega)).mono ?_); rintro e w5 ⟨bs, ns, cs, rfl, hdps, hb5⟩; rw [HBB.out] at hdps; obtain rfl : ns = n := hdps.row.len8.trans HBl.out; have hbo := hb5; replace hb5 := bl_then (below_alloc _ _) hb5; replace hbx := bl_then hbx hb5; clear hb5 hx1 hx2; obtain ⟨hx1, hx2, _, _, _⟩ := box2 hbx; obtain ⟨ho1, ho2, _, _, _⟩ := box2 hbo; replace hdps := Lib.hid hdps))
  have hbq := hbx
  go_loopw [8, 9] (fun al i wr => SynRel (w5.alloc (.cells #[.slice bs ns cs, .slice none 0 0] 30)) m al i wr) (fun _ i _ => m - (intOf i).toNat)
  case atStart => exact ⟨0, 0, none, by omega, rfl, rfl, by simpa [b8] using ownN_nil _ 5 1 _, Below.refl _ _⟩
  case round =>
    clear ho1 ho2 hx1 hx2
    obtain ⟨j, ca, aa, hj, rfl, rfl, hown, hbs⟩ := hrel
    have hb5 := bl_then (below_alloc w5 (.cells #[.slice bs ns cs, .slice none 0 0] 30)) hbs
    have HO := Lib.hid hown
    clear hown
    replace hbx := bl_then hbx hb5
    replace hbo := bl_then hbo hb5
    obtain ⟨hx1, hx2, _, _, _⟩ := box2 hbx
    obtain ⟨ho1, ho2, _, _, _⟩ := box2 hbo
    obtain ⟨hs1, hs2, _, _, _⟩ := box2 hbs
    by_cases hlt : j < m
    · have hjm : (j : Int) < (m : Int) := by omega
      have HN := Lib.hid (HO.out.alloc (.cells #[.int .u8 32] 5))
      have HX := Lib.hid (row_new wr #[.int .u8 32] 5 1 1 1 rfl (by omega) (by simp [Value.oneCell']))
      go_wp2_with (at_builtin; refine wpList_appN eltU8 (w5.alloc (.cells #[.slice bs ns cs, .slice none 0 0] 30)) _ (hbs.alloc hbs.size _) rfl _ _ rfl _ j ca _ rfl HN.out _ 1 1 _ rfl HX.out (fun _ => by decide) (by omega) ?_; intro g3 cap3 w6 hown6 hb6; replace hown6 := Lib.hid hown6)
      go_roundw
      case rel => exact ⟨j + 1, cap3, some ⟨g3, 0, none⟩, by omega, by go_num, rfl, .inr ⟨g3, rfl, by rw [List.replicate_succ', b8_app]; exact hown6.out⟩, hb6⟩
      case measure => simp [intOf]; omega
    · have hjm : j = m := by omega
      subst hjm
      have HLj := Lib.hid (show (R.map Rep.plain).length = j by rw [List.length_map]; exact H.out.pend.lenw.symm)
      have hS := fun x (hx : Below wr.heap.size wr x) => syn_held hbs hbo hbx hx (H.out.later (bl_then (below_alloc _ _) (bl_then hbx hx))).row
      have HS := Lib.hid hS
      have HAL := Lib.hid (HO.out.row (b8_one _))
      have hcur := (Below.refl wr.heap.size wr).drew
      clear hS
      go_wp2_with fail
      clear hx1 hx2 ho1 ho2 hs1 hs2
      refine wp_plan (fun x => x.cell? ⟨w5.heap.size, 0, none⟩ = some (.slice bs ns cs) ∧ x.cell? ⟨w5.heap.size, 1, none⟩ = some (.slice none 0 0) ∧ x.cell? ⟨w3.heap.size, 0, none⟩ = some (.slice ao ns c) ∧ x.cell? ⟨w3.heap.size, 1, none⟩ = some (.slice po1 j pc1) ∧ x.cell? ⟨w.heap.size, 0, none⟩ = some (.slice ao ns c) ∧ (convert 22 9 (.slice ao ns c)).run Try.prog x = .ok (.string (strOfNums base)) x) [4, 5, 7, 8, 12, 15, 22, 23, 25, 26, 30] [0, 1, 2, 3, 6, 4, 5, 7, 8, 9, 10, 11, 14, 12, 13, 15, 16, 17, 18, 19, 20, 21, 24, 22, 23, 25, 26, 27, 28, 29, 33, 34, 35, 30, 31, 32, 36, 37, 38, 39, 40, 41, 42, 43, 44] (by kernel_rfl) (by kernel_rfl) (HS.out _ hcur) (fun hHeld => ?_)
      iterate 5 (refine wpT_take rfl (by rfl) (by rfl) (by intro w' hSw; (try dsimp only at hSw); go_simp; (try with_reducible rfl)) (by assumption) ?_; (try simp only [Act.put, List.setIfInBounds_toArray, List.set_cons_zero, List.set_cons_succ]))
      (refine wpT_step rfl (by rfl) (fun K hK => ?_); go_simp)
      refine (crash_any bs ns cs BB none 0 0 [] qo qn qc plan _ _ (hdps.out.later (bl_then hb5 hcur)) (HQ.out.later (bl_then (below_alloc _ _) (bl_then hbx hcur))) (Below.refl _ _) (by omega) (by omega) (by omega) HP.out).mono ?_
      rintro e w6 ⟨b6, n6, c6, rfl, hdp6, hb6⟩
      rw [List.map_nil, crash_lone HLn.out] at hdp6
      replace hcur := bl_then hcur hb6
      (refine hK.out _ _ _ (fun _ h => h) (HS.out _ hcur) (fun hHeld => ?_); clear hK; clear K; (try simp only [Act.put, List.setIfInBounds_toArray, List.set_cons_zero, List.set_cons_succ]))
      (refine wpT_step rfl (by rfl) (fun K hK => ?_); go_simp)
      refine (flat_any b6 n6 c6 BB none 0 0 [] _ hdp6 (by omega)).mono ?_
      rintro e w7 ⟨po7, pc7, rfl, hdp7, hb7⟩
      replace hcur := bl_then hcur hb7
      (refine hK.out _ _ _ (fun _ h => h) (HS.out _ hcur) (fun hHeld => ?_); clear hK; clear K; (try simp only [Act.put, List.setIfInBounds_toArray, List.set_cons_zero, List.set_cons_succ]))
      (refine wpT_step rfl (by rfl) (fun K hK => ?_); go_simp)
      refine (flat_any bs ns cs BB none 0 0 [] _ (hdps.out.later (bl_then hb5 hcur)) (by omega)).mono ?_
      rintro e w8 ⟨po8, pc8, rfl, hdp8, hb8⟩
      replace hcur := bl_then hcur hb8
      (refine hK.out _ _ _ (fun _ h => h) (HS.out _ hcur) (fun hHeld => ?_); clear hK; clear K; (try simp only [Act.put, List.setIfInBounds_toArray, List.set_cons_zero, List.set_cons_succ]))
      (refine wpT_step rfl (by rfl) (fun K hK => ?_); go_simp)
      refine (same_any b6 n6 c6 BB po7 0 pc7 [] bs ns cs BB po8 0 pc8 [] _ (hdp7.later hb8) hdp8 rfl rfl (by omega)).mono ?_
      rintro e w9 ⟨rfl, hb9⟩
      replace hcur := bl_then hcur hb9
      (refine hK.out _ _ _ (fun _ h => h) (HS.out _ hcur) (fun hHeld => ?_); clear hK; clear K; (try simp only [Act.put, List.setIfInBounds_toArray, List.set_cons_zero, List.set_cons_succ]))
      iterate 4 (refine wpT_take rfl (by rfl) (by rfl) (by intro w' hSw; (try dsimp only at hSw); go_simp; (try with_reducible rfl)) (by assumption) ?_; (try simp only [Act.put, List.setIfInBounds_toArray, List.set_cons_zero, List.set_cons_succ]))
      (refine wpT_step rfl (by rfl) (fun K hK => ?_); go_simp)
      refine (bytes_any bs ns cs BB none 0 0 [] _ (hdps.out.later (bl_then hb5 hcur)) (by omega) (by omega)).mono ?_
      rintro e w10 ⟨b10, n10, c10, rfl, hr10, _, hb10⟩
      rw [List.map_nil, bytes_lone HLn.out] at hr10
      replace hr10 := Lib.hid hr10
      replace hcur := bl_then hcur hb10
      (refine hK.out _ _ (fun w' => _ ∧ (fun x => (convert 22 9 (.slice b10 n10 c10)).run Try.prog x = .ok (.string (strOfNums BB)) x) w') (fun _ h => h.1) ⟨HS.out _ hcur, conv_row hr10.out⟩ (fun hHeld => ?_); clear hK; clear K; (try simp only [Act.put, List.setIfInBounds_toArray, List.set_cons_zero, List.set_cons_succ]))
      iterate 1 (refine wpT_take rfl (by rfl) (by rfl) (by intro w' hSw; (try dsimp only at hSw); go_simp; (try with_reducible rfl)) (by assumption) ?_; (try simp only [Act.put, List.setIfInBounds_toArray, List.set_cons_zero, List.set_cons_succ]))
      (refine wpT_step rfl (by rfl) (fun K hK => ?_); go_simp)
      refine (bytes_any ao ns c base po1 j pc1 R _ (hdp1.out.later (bl_then (below_alloc _ _) (bl_then hbo hcur))) (by omega) (by omega)).mono ?_
      rintro e w11 ⟨b11, n11, c11, rfl, hr11, _, hb11⟩
      rw [HBB.out] at hr11
      replace hr11 := Lib.hid hr11
      replace hcur := bl_then hcur hb11
      replace hr10 := Lib.hid (hr10.out.later hb11)
      (refine hK.out _ _ (fun w' => _ ∧ (fun x => (convert 22 9 (.slice b11 n11 c11)).run Try.prog x = .ok (.string (strOfNums BB)) x) w') (fun _ h => h.1) ⟨⟨HS.out _ hcur, conv_row hr10.out⟩, conv_row hr11.out⟩ (fun hHeld => ?_); clear hK; clear K; (try simp only [Act.put, List.setIfInBounds_toArray, List.set_cons_zero, List.set_cons_succ]))
      iterate 7 (refine wpT_take rfl (by rfl) (by rfl) (by intro w' hSw; (try dsimp only at hSw); go_simp; (try with_reducible rfl)) (by assumption) ?_; (try simp only [Act.put, List.setIfInBounds_toArray, List.set_cons_zero, List.set_cons_succ]))
      (refine wpT_step rfl (by rfl) (fun K hK => ?_); go_simp)
      refine (crash_any ao ns c base po1 j pc1 R aa j ca (List.replicate j 32) _ _ (hdp1.out.later (bl_then (below_alloc _ _) (bl_then hbo hcur))) (HAL.out.later hcur) (Below.refl _ _) (by omega) (by omega) (by omega) (fun x hx => by have := List.eq_of_mem_replicate hx; omega)).mono ?_
      rintro e w12 ⟨b12, n12, c12, rfl, hdp12, hb12⟩
      have hca : crashD base (R.map Rep.plain) (List.replicate j 32) = BB := by rw [← HLj.out, crash_all hsn.out, HBB.out]
      rw [hca] at hdp12
      clear hca
      replace hcur := bl_then hcur hb12
      replace hr10 := Lib.hid (hr10.out.later hb12)
      replace hr11 := Lib.hid (hr11.out.later hb12)
      (refine hK.out _ _ _ (fun _ h => h) (⟨⟨HS.out _ hcur, conv_row hr10.out⟩, conv_row hr11.out⟩) (fun hHeld => ?_); clear hK; clear K; (try simp only [Act.put, List.setIfInBounds_toArray, List.set_cons_zero, List.set_cons_succ]))
      (refine wpT_step rfl (by rfl) (fun K hK => ?_); go_simp)
      refine (flat_any b12 n12 c12 BB none 0 0 [] _ hdp12 (by omega)).mono ?_
      rintro e w13 ⟨po13, pc13, rfl, hdp13, hb13⟩
      replace hcur := bl_then hcur hb13
      replace hr10 := Lib.hid (hr10.out.later hb13)
      replace hr11 := Lib.hid (hr11.out.later hb13)
      (refine hK.out _ _ _ (fun _ h => h) (⟨⟨HS.out _ hcur, conv_row hr10.out⟩, conv_row hr11.out⟩) (fun hHeld => ?_); clear hK; clear K; (try simp only [Act.put, List.setIfInBounds_toArray, List.set_cons_zero, List.set_cons_succ]))
      (refine wpT_step rfl (by rfl) (fun K hK => ?_); go_simp)
      refine (flat_any bs ns cs BB none 0 0 [] _ (hdps.out.later (bl_then hb5 hcur)) (by omega)).mono ?_
      rintro e w14 ⟨po14, pc14, rfl, hdp14, hb14⟩
      replace hcur := bl_then hcur hb14
      replace hr10 := Lib.hid (hr10.out.later hb14)
      replace hr11 := Lib.hid (hr11.out.later hb14)
      (refine hK.out _ _ _ (fun _ h => h) (⟨⟨HS.out _ hcur, conv_row hr10.out⟩, conv_row hr11.out⟩) (fun hHeld => ?_); clear hK; clear K; (try simp only [Act.put, List.setIfInBounds_toArray, List.set_cons_zero, List.set_cons_succ]))
      (refine wpT_step rfl (by rfl) (fun K hK => ?_); go_simp)
      refine (same_any b12 n12 c12 BB po13 0 pc13 [] bs ns cs BB po14 0 pc14 [] _ (hdp13.later hb14) hdp14 rfl rfl (by omega)).mono ?_
      rintro e w15 ⟨rfl, hb15⟩
      replace hcur := bl_then hcur hb15
      replace hr10 := Lib.hid (hr10.out.later hb15)
      replace hr11 := Lib.hid (hr11.out.later hb15)
      (refine hK.out _ _ _ (fun _ h => h) (⟨⟨HS.out _ hcur, conv_row hr10.out⟩, conv_row hr11.out⟩) (fun hHeld => ?_); clear hK; clear K; (try simp only [Act.put, List.setIfInBounds_toArray, List.set_cons_zero, List.set_cons_succ]))
      iterate 6 (refine wpT_take rfl (by rfl) (by rfl) (by intro w' hSw; (try dsimp only at hSw); go_simp; (try with_reducible rfl)) (by assumption) ?_; (try simp only [Act.put, List.setIfInBounds_toArray, List.set_cons_zero, List.set_cons_succ]))
      (refine wpT_step rfl (by rfl) (fun K hK => ?_); go_simp)
      refine (crash_any ao ns c base po1 j pc1 R none 0 0 [] _ _ (hdp1.out.later (bl_then (below_alloc _ _) (bl_then hbo hcur))) (row_mt _ _ _ _ (fun _ => rfl)) (Below.refl _ _) (by omega) (by omega) (by omega) (fun x hx => by cases hx)).mono ?_
      rintro e w16 ⟨b16, n16, c16, rfl, hdp16, hb16⟩
      rw [crash_none hsn.out] at hdp16
      have hr16 := Lib.hid hdp16.row
      replace hcur := bl_then hcur hb16
      replace hr10 := Lib.hid (hr10.out.later hb16)
      replace hr11 := Lib.hid (hr11.out.later hb16)
      (refine hK.out _ _ (fun w' => _ ∧ (fun x => (convert 22 9 (.slice b16 n16 c16)).run Try.prog x = .ok (.string (strOfNums base)) x) w') (fun _ h => h.1) ⟨⟨⟨HS.out _ hcur, conv_row hr10.out⟩, conv_row hr11.out⟩, conv_row hr16.out⟩ (fun hHeld => ?_); clear hK; clear K; (try simp only [Act.put, List.setIfInBounds_toArray, List.set_cons_zero, List.set_cons_succ]))
      have hfb := field_base (.slice b16 n16 c16) (.slice none 0 0)
      iterate 11 (refine wpT_take rfl (by rfl) (by rfl) (by intro w' hSw; (try dsimp only at hSw); go_simp; (try with_reducible rfl)) (by assumption) ?_; (try simp only [Act.put, List.setIfInBounds_toArray, List.set_cons_zero, List.set_cons_succ]))
      (refine wpT_nil ?_)
      go_wp2
      go_ret
      exact ⟨rfl, bl_then (below_alloc _ _) (bl_then hbx hcur)⟩
end Go.Proofs.Ytoihponjnhhgbaa
