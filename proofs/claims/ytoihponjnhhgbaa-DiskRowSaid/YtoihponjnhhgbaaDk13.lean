/- Disk: DiskMore: the walk (made by gen_more.py). -/
import Derived.Test.YtoihponjnhhgbaaDk12
namespace Go.Proofs.Ytoihponjnhhgbaa
set_option linter.unusedVariables false
set_option linter.unusedSimpArgs false
open Go.RowKit

theorem lay_sane {base : List Int} {pend : List (Int × List Int)} (h : saneD base pend = true) (at_ : Int) (b : List Int) : saneD (layD base pend at_ b).1.1 (layD base pend at_ b).1.2 = true := by
  unfold layD
  rw [own_of h]
  split
  · exact h
  split
  · exact h
  split
  · exact h
  · rename_i h1 h2 h3
    obtain ⟨k1, k2, k3, k4⟩ := saneD_parts h
    simp only [not_or, Int.not_lt] at h3
    obtain ⟨a1, a2, a3⟩ := h3
    simp only [saneD, Bool.and_eq_true, decide_eq_true_eq, List.all_append, List.length_append, List.all_eq_true, secs, List.length_map, List.length_range]
    refine ⟨⟨⟨k1, by omega⟩, by omega⟩, fun p hp => ?_, fun p hp => ?_⟩
    · obtain ⟨q1, q2, q3⟩ := k4 p hp
      simp only [okW, q3, decide_true, Bool.and_true, Bool.and_eq_true, decide_eq_true_eq]
      exact ⟨q1, q2⟩
    · obtain ⟨i, hi, rfl⟩ := List.mem_map.1 hp
      have hi' := List.mem_range.1 hi
      have hl : ((b.drop (32 * i)).take 32).length = 32 := by rw [List.length_take, List.length_drop]; omega
      simp only [okW, hl, decide_true, Bool.and_true, Bool.and_eq_true, decide_eq_true_eq]
      exact ⟨by omega, by omega⟩
theorem zip_take_app {α β : Type} (l ex : List α) (r : List β) : (l ++ ex).zip (r.take (min r.length l.length)) = l.zip r := by
  induction l generalizing r with
  | nil => simp
  | cons a l ih =>
    cases r with
    | nil => simp
    | cons b r =>
      have := ih r
      simp only [List.length_cons, Nat.succ_min_succ, List.take_succ_cons, List.cons_append, List.zip_cons_cons] at *
      rw [this]
theorem more_eq {base : List Int} {pend : List (Int × List Int)} (h : saneD base pend = true) (at_ : Int) (b plan : List Int) (t : Nat) (ht : t = min plan.length pend.length) : crashD (layD base pend at_ b).1.1 (layD base pend at_ b).1.2 (plan.take t) = crashD base pend plan := by
  subst ht
  unfold crashD
  rw [own_of (lay_sane h at_ b), own_of h]
  have key : ∀ ex, crs base (pend ++ ex) (plan.take (min plan.length pend.length)) = crs base pend plan := fun ex => by unfold crs; rw [zip_take_app]
  have key0 := key []
  rw [List.append_nil] at key0
  unfold layD
  rw [own_of h]
  split
  · exact key0
  split
  · exact key0
  split
  · exact key0
  · exact key _
theorem more_at {base4 : List Int} {L4 : List (Int × List Int)} {LB LC : (List Int × List (Int × List Int)) × Int} (heq : (base4, L4) = LC.1) (hc : LC = LB) {plan : List Int} : crashD base4 L4 plan = crashD LB.1.1 LB.1.2 plan := by
  subst hc; rw [← heq]
theorem crs_len (base : List Int) (l : List (Int × List Int)) (plan : List Int) (h : ∀ p ∈ l, 0 ≤ p.1 ∧ p.1 < (base.length : Int) / 32 ∧ p.2.length = 32) : (crs base l plan).length = base.length := by
  induction l generalizing base plan with
  | nil => rfl
  | cons p l ih =>
    cases plan with
    | nil => rfl
    | cons x plan =>
      have hp := h p (by simp)
      have hs : (spl base (32 * p.1.toNat) (p.2.take (min x.toNat 32))).length = base.length := spl_len _ _ _ (by rw [List.length_take]; omega)
      have := ih (spl base (32 * p.1.toNat) (p.2.take (min x.toNat 32))) plan (fun q hq => by rw [hs]; exact h q (by simp [hq]))
      rw [hs] at this
      exact this
theorem crash_len {base : List Int} {pend : List (Int × List Int)} (h : saneD base pend = true) (plan : List Int) : (crashD base pend plan).length = base.length := by
  unfold crashD; rw [own_of h]
  exact crs_len base pend plan (saneD_parts h).2.2.2
theorem more_held {w w6 w7 x : World} {u1 v1 u2 v2 u3 v3 : Value} {T1 T2 T3 : TypeId} (hba : Below (w6.alloc (.cells #[u1, v1] T1)).heap.size (w6.alloc (.cells #[u1, v1] T1)) w7)
    (hbx : Below (w.alloc (.cells #[u3, v3] T3)).heap.size (w.alloc (.cells #[u3, v3] T3)) w7) (hx : Below (w7.alloc (.cells #[u2, v2] T2)).heap.size (w7.alloc (.cells #[u2, v2] T2)) x) :
    x.cell? ⟨w6.heap.size, 0, none⟩ = some u1 ∧ x.cell? ⟨w6.heap.size, 1, none⟩ = some v1 ∧ x.cell? ⟨w7.heap.size, 0, none⟩ = some u2 ∧ x.cell? ⟨w7.heap.size, 1, none⟩ = some v2 ∧ x.cell? ⟨w.heap.size, 0, none⟩ = some u3 := by
  obtain ⟨h1, h2, _⟩ := box2 (bl_then hba (bl_then (below_alloc _ _) hx))
  obtain ⟨h3, h4, _⟩ := box2 hx
  obtain ⟨h5, _⟩ := box2 (bl_then hbx (bl_then (below_alloc _ _) hx))
  exact ⟨h1, h2, h3, h4, h5⟩
theorem more_small {w4 : World} {ao4 : Option Addr} {n4 c4 : Nat} {base4 : List Int} {po4 : Option Addr} {m4 pc4 : Nat} {R4 : List Rep} {LB LC : (List Int × List (Int × List Int)) × Int} (h : DP w4 ao4 n4 c4 base4 po4 m4 pc4 R4) (heq : (base4, R4.map Rep.plain) = LC.1) (hc : LC = LB) (hs : LB.1.1.length ≤ 131072 ∧ LB.1.2.length ≤ 100000) : n4 ≤ 131072 ∧ m4 ≤ 100000 := by
  subst hc
  have h1 := h.row.len8
  have h2 := h.pend.lenw
  rw [← heq] at hs
  simp only [List.length_map] at hs
  omega

set_option maxHeartbeats 2000000 in
theorem more_walk (ao : Option Addr) (n c : Nat) (base : List Int) (po : Option Addr) (m pc : Nat) (R : List Rep) (at_ : Int) (qo : Option Addr) (qn qc : Nat) (data : List Int) (lo : Option Addr) (ln lc : Nat) (plan : List Int) (w : World) (h : DP w ao n c base po m pc R) (hq : Row w qo qn qc 1 (b8 data)) (hl : Row w lo ln lc 1 (b8 plan)) (hp : ∀ x ∈ plan, 0 ≤ x ∧ x < 256)
    (hat : -9223372036854775808 ≤ at_ ∧ at_ ≤ 9223372036854775807) :
    Calls Try.prog 8 #[.agg #[.slice ao n c, .slice po m pc], .int .i64 at_, .slice qo qn qc, .slice lo ln lc] w fun e w' => e = .returned (.bool true) ∧ Below w.heap.size w w' := by
  have H := Lib.hid h
  have HQ := Lib.hid hq
  have HPL := Lib.hid hl
  have HP := Lib.hid hp
  have hFew := Lib.hid (few_any ao n c po m pc)
  have hllc := hl.le
  have HLE := Lib.hid hl.len8
  clear h hq hp hl
  by_cases hf : ¬ (n ≤ 9600 ∧ m ≤ 300)
  · have hd := Lib.hid (show (decide (n ≤ 9600) && decide (m ≤ 300)) = false by simp; omega)
    go_enter Try.func8, Try.ntmps8
    go_wp2_with (first | (go_at_call 9; refine (awake_any _).mono ?_; rintro e w1 ⟨rfl, hbx⟩; obtain ⟨hx1, hx2, _, _, _⟩ := box2 hbx) | (go_at_call 10; (with_reducible refine (hFew.out _).mono ?_); rintro e w2 ⟨rfl, hb2⟩; rw [hd.out]; replace hbx := bl_then hbx hb2; clear hb2 hx1 hx2; obtain ⟨hx1, hx2, _, _, _⟩ := box2 hbx))
    go_ret
    exact ⟨rfl, bl_then (below_alloc _ _) hbx⟩
  have hd := Lib.hid (show (decide (n ≤ 9600) && decide (m ≤ 300)) = true by simp; omega)
  have hn1 : n ≤ 9600 := by omega
  have hm1 : m ≤ 300 := by omega
  clear hf
  by_cases h200 : (200 : Int) < (qn : Int)
  · go_enter Try.func8, Try.ntmps8
    go_wp2_with (first | (go_at_call 9; refine (awake_any _).mono ?_; rintro e w1 ⟨rfl, hbx⟩; obtain ⟨hx1, hx2, _, _, _⟩ := box2 hbx) | (go_at_call 10; (with_reducible refine (hFew.out _).mono ?_); rintro e w2 ⟨rfl, hb2⟩; rw [hd.out]; replace hbx := bl_then hbx hb2; clear hb2 hx1 hx2; obtain ⟨hx1, hx2, _, _, _⟩ := box2 hbx))
    go_ret
    exact ⟨rfl, bl_then (below_alloc _ _) hbx⟩
  by_cases h400 : (400 : Int) < (ln : Int)
  · go_enter Try.func8, Try.ntmps8
    go_wp2_with (first | (go_at_call 9; refine (awake_any _).mono ?_; rintro e w1 ⟨rfl, hbx⟩; obtain ⟨hx1, hx2, _, _, _⟩ := box2 hbx) | (go_at_call 10; (with_reducible refine (hFew.out _).mono ?_); rintro e w2 ⟨rfl, hb2⟩; rw [hd.out]; replace hbx := bl_then hbx hb2; clear hb2 hx1 hx2; obtain ⟨hx1, hx2, _, _, _⟩ := box2 hbx))
    go_ret
    exact ⟨rfl, bl_then (below_alloc _ _) hbx⟩
  by_cases hsane : ¬ saneD base (R.map Rep.plain) = true
  · have hsn := Lib.hid (show saneD base (R.map Rep.plain) = false by simpa using hsane)
    clear hsane
    go_enter Try.func8, Try.ntmps8
    go_wp2_with (first | (go_at_call 9; refine (awake_any _).mono ?_; rintro e w1 ⟨rfl, hbx⟩; obtain ⟨hx1, hx2, _, _, _⟩ := box2 hbx) | (go_at_call 10; (with_reducible refine (hFew.out _).mono ?_); rintro e w2 ⟨rfl, hb2⟩; rw [hd.out]; replace hbx := bl_then hbx hb2; clear hb2 hx1 hx2; obtain ⟨hx1, hx2, _, _, _⟩ := box2 hbx) | (go_at_call 11; (with_reducible refine (drive_any ao n c base po m pc R _ (H.out.later (bl_then (below_alloc _ _) hbx)) (by omega)).mono ?_); rintro e w3 ⟨po1, pc1, rfl, hdp1, hb3⟩; replace hbx := bl_then hbx hb3; clear hb3 hx1 hx2; obtain ⟨hx1, hx2, _, _, _⟩ := box2 hbx; replace hdp1 := Lib.hid hdp1) | (go_at_call 20; (with_reducible refine (sane_any ao n c base po1 m pc1 R _ hdp1.out (by omega) (by omega)).mono ?_); rintro e w4 ⟨rfl, hb4⟩; rw [hsn.out]; replace hbx := bl_then hbx hb4; clear hb4 hx1 hx2; obtain ⟨hx1, hx2, _, _, _⟩ := box2 hbx))
    go_ret
    exact ⟨rfl, bl_then (below_alloc _ _) hbx⟩
  have hsn := Lib.hid (show saneD base (R.map Rep.plain) = true by simpa using hsane)
  clear hsane
  obtain ⟨LB, hLB⟩ : ∃ LB, layD base (R.map Rep.plain) at_ data = LB := ⟨_, rfl⟩
  have HLY := Lib.hid hLB
  have HS1 := Lib.hid (show LB.1.1.length ≤ 131072 ∧ LB.1.2.length ≤ 100000 by rw [← hLB]; have := saneD_parts (lay_sane hsn.out at_ data); omega)
  clear hLB
  obtain ⟨AA, hAA⟩ : ∃ AA, crashD base (R.map Rep.plain) plan = AA := ⟨_, rfl⟩
  have HAA := Lib.hid hAA
  have hme := fun t (ht : t = min ln m) => more_eq hsn.out at_ data plan t (by rw [List.length_map, ← H.out.pend.lenw, ← HLE.out]; exact ht)
  rw [hAA, HLY.out] at hme
  have HAL := Lib.hid (show AA.length = n ∧ saneD AA [] = true by
    have h1 : AA.length = base.length := by rw [← hAA]; exact crash_len hsn.out plan
    exact ⟨h1.trans H.out.row.len8.symm, sane_lone hsn.out h1⟩)
  have HME := Lib.hid hme
  clear hAA hme
  rcases Nat.lt_or_ge m ln with hml | hml
  · have hmn : min (ln : Int) (m : Int) = (m : Int) := by omega
    have hmlc : (m : Int) ≤ (lc : Int) := by omega
    have hml2 : (m : Int) < (ln : Int) := by omega
    have PT := Lib.hid (fun w' (hb : Below w.heap.size w w') => by have := (HPL.out.later hb).pre m (by omega); rwa [Nat.mul_one, b8_take] at this)
    go_enter Try.func8, Try.ntmps8
    go_wp2_with (first | (go_at_call 9; refine (awake_any _).mono ?_; rintro e w1 ⟨rfl, hbx⟩; obtain ⟨hx1, hx2, _, _, _⟩ := box2 hbx) | (go_at_call 10; (with_reducible refine (hFew.out _).mono ?_); rintro e w2 ⟨rfl, hb2⟩; rw [hd.out]; replace hbx := bl_then hbx hb2; clear hb2 hx1 hx2; obtain ⟨hx1, hx2, _, _, _⟩ := box2 hbx) | (go_at_call 11; (with_reducible refine (drive_any ao n c base po m pc R _ (H.out.later (bl_then (below_alloc _ _) hbx)) (by omega)).mono ?_); rintro e w3 ⟨po1, pc1, rfl, hdp1, hb3⟩; replace hbx := bl_then hbx hb3; clear hb3 hx1 hx2; obtain ⟨hx1, hx2, _, _, _⟩ := box2 hbx; replace hdp1 := Lib.hid hdp1) | (go_at_call 20; (with_reducible refine (sane_any ao n c base po1 m pc1 R _ hdp1.out (by omega) (by omega)).mono ?_); rintro e w4 ⟨rfl, hb4⟩; rw [hsn.out]; replace hbx := bl_then hbx hb4; clear hb4 hx1 hx2; obtain ⟨hx1, hx2, _, _, _⟩ := box2 hbx) | (go_at_call 16; (with_reducible refine (lay_any ao n c base po1 m pc1 R at_ qo qn qc data _ (hdp1.out.later (below_alloc _ _)) (HQ.out.later (bl_then (below_alloc _ _) (bl_then hbx (below_alloc _ _)))) (by omega) (by omega) (by omega) hat).mono ?_); rintro e w4 ⟨ao4, n4, c4, base4, po4, m4, pc4, R4, rfl, hdp4, heq4, hb4⟩; rw [HLY.out]; have hbo := hb4; replace hb4 := bl_then (below_alloc _ _) hb4; replace hbx := bl_then hbx hb4; clear hb4 hx1 hx2; obtain ⟨hx1, hx2, _, _, _⟩ := box2 hbx; obtain ⟨hn4, hm4⟩ := more_small hdp4 heq4 HLY.out HS1.out; replace hdp4 := Lib.hid hdp4; replace heq4 := Lib.hid heq4) | (at_builtin; refine wpList_appN eltU8 (w4.alloc (.cells #[.slice ao4 n4 c4, .slice po4 m4 pc4] 30)) _ (below_alloc _ _) rfl _ _ rfl _ 0 0 [] rfl (by have h := ownN_lit0 (w4.alloc (.cells #[.slice ao4 n4 c4, .slice po4 m4 pc4] 30)).heap.size 5 1 (w4.alloc (.cells #[.slice ao4 n4 c4, .slice po4 m4 pc4] 30)) (Nat.le_refl _); simp only [World.size_alloc] at h ⊢; exact h) lo m lc _ rfl (PT.out _ (bl_then (below_alloc _ _) (bl_then hbx (by (repeat (first | exact Below.refl _ _ | refine Below.drew ?_ | refine bl_drewN ?_ _ | (refine Below.alloc ?_ (by first | exact Nat.le_refl _ | (simp; done) | (simp; omega)) _))))))) (fun h => by cases h) (by omega) ?_; intro g5 c5 w5 hown5 hb5; rw [Nat.zero_add, List.nil_append] at hown5; replace hown5 := Lib.hid (row_own hown5 (b8_one _)); have hbX := hb5; replace hb5 := bl_then (below_alloc _ _) hb5; replace hbo := bl_then hbo hb5; replace hbx := bl_then hbx hb5; clear hb5 hx1 hx2; obtain ⟨hx1, hx2, _, _, _⟩ := box2 hbx; obtain ⟨ho1, ho2, _, _, _⟩ := box2 hbo; obtain ⟨hX1, hX2, _, _, _⟩ := box2 hbX) | (go_at_call 26; (with_reducible refine (crash_any ao n c base po1 m pc1 R lo ln lc plan _ _ (hdp1.out.later (bl_then (below_alloc _ _) hbo)) (HPL.out.later (bl_then (below_alloc _ _) hbx)) (Below.refl _ _) (by omega) (by omega) (by omega) HP.out).mono ?_); rintro e w6 ⟨b6, n6, c6, rfl, hdp6, hb6⟩; rw [HAA.out] at hdp6; replace hdp6 := Lib.hid hdp6; replace hown5 := Lib.hid (hown5.out.later hb6); replace hbo := bl_then hbo hb6; replace hbX := bl_then hbX hb6; replace hbx := bl_then hbx hb6; clear hb6 hx1 hx2; obtain ⟨hx1, hx2, _, _, _⟩ := box2 hbx; clear hX1 hX2; obtain ⟨hX1, hX2, _, _, _⟩ := box2 hbX) | (go_at_call 26; (with_reducible refine (crash_any ao4 n4 c4 base4 po4 m4 pc4 R4 (some ⟨g5, 0, none⟩) m c5 (plan.take m) _ _ (hdp4.out.later (bl_then (below_alloc _ _) (bl_then hbX (below_alloc _ _)))) (hown5.out.later (below_alloc _ _)) (Below.refl _ _) (by omega) (by omega) (by omega) (fun x hx => HP.out x (List.mem_of_mem_take hx))).mono ?_); rintro e w7 ⟨b7, n7, c7, rfl, hdp7, hb7⟩; rw [more_at heq4.out HLY.out, HME.out m (by omega)] at hdp7; have hba := hb7; replace hb7 := bl_then (below_alloc _ _) hb7; replace hbx := bl_then hbx hb7; clear hb7 hx1 hx2; obtain ⟨hx1, hx2, _, _, _⟩ := box2 hbx; obtain ⟨ha1, ha2, _, _, _⟩ := box2 hba))
    have hS := fun x (hx : Below (w7.alloc (.cells #[.slice b7 n7 c7, .slice none 0 0] 30)).heap.size (w7.alloc (.cells #[.slice b7 n7 c7, .slice none 0 0] 30)) x) => more_held hba hbx hx
    have HS := Lib.hid hS
    have hcur := (Below.refl (w7.alloc (.cells #[.slice b7 n7 c7, .slice none 0 0] 30)).heap.size (w7.alloc (.cells #[.slice b7 n7 c7, .slice none 0 0] 30))).drew
    have hd7 := Lib.hid hdp7
    clear hS hdp7 ha1 ha2 hx1 hx2 ho1 ho2 hX1 hX2
    refine wp_plan (fun x => x.cell? ⟨w6.heap.size, 0, none⟩ = some (.slice b6 n6 c6) ∧ x.cell? ⟨w6.heap.size, 1, none⟩ = some (.slice none 0 0) ∧ x.cell? ⟨w7.heap.size, 0, none⟩ = some (.slice b7 n7 c7) ∧ x.cell? ⟨w7.heap.size, 1, none⟩ = some (.slice none 0 0) ∧ x.cell? ⟨w.heap.size, 0, none⟩ = some (.slice ao n c)) [3, 5, 6, 10] [0, 1, 2, 4, 3, 5, 6, 7, 8, 9, 12, 13, 14, 10, 11, 15, 16, 17] (by kernel_rfl) (by kernel_rfl) (HS.out _ hcur) (fun hHeld => ?_)
    iterate 4 (refine wpT_take rfl (by rfl) (by rfl) (by intro w' hSw; (try dsimp only at hSw); go_simp; (try with_reducible rfl)) (by assumption) ?_; (try simp only [Act.put, List.setIfInBounds_toArray, List.set_cons_zero, List.set_cons_succ]))
    (refine wpT_step rfl (by rfl) (fun K hK => ?_); go_simp)
    refine (flat_any b6 n6 c6 AA none 0 0 [] _ (hdp6.out.later (bl_then (below_alloc _ _) (bl_then hba (bl_then (below_alloc _ _) hcur)))) (by omega)).mono ?_
    rintro e w8 ⟨po8, pc8, rfl, hdp8, hb8⟩
    replace hcur := bl_then hcur hb8
    (refine hK.out _ _ _ (fun _ h => h) (HS.out _ hcur) (fun hHeld => ?_); clear hK; clear K; (try simp only [Act.put, List.setIfInBounds_toArray, List.set_cons_zero, List.set_cons_succ]))
    (refine wpT_step rfl (by rfl) (fun K hK => ?_); go_simp)
    refine (flat_any b7 n7 c7 AA none 0 0 [] _ (hd7.out.later (bl_then (below_alloc _ _) hcur)) (by omega)).mono ?_
    rintro e w9 ⟨po9, pc9, rfl, hdp9, hb9⟩
    replace hcur := bl_then hcur hb9
    (refine hK.out _ _ _ (fun _ h => h) (HS.out _ hcur) (fun hHeld => ?_); clear hK; clear K; (try simp only [Act.put, List.setIfInBounds_toArray, List.set_cons_zero, List.set_cons_succ]))
    (refine wpT_step rfl (by rfl) (fun K hK => ?_); go_simp)
    refine (same_any b6 n6 c6 AA po8 0 pc8 [] b7 n7 c7 AA po9 0 pc9 [] _ (hdp8.later hb9) hdp9 rfl rfl (by omega)).mono ?_
    rintro e w10 ⟨rfl, hb10⟩
    replace hcur := bl_then hcur hb10
    (refine hK.out _ _ _ (fun _ h => h) (HS.out _ hcur) (fun hHeld => ?_); clear hK; clear K; (try simp only [Act.put, List.setIfInBounds_toArray, List.set_cons_zero, List.set_cons_succ]))
    iterate 6 (refine wpT_take rfl (by rfl) (by rfl) (by intro w' hSw; (try dsimp only at hSw); go_simp; (try with_reducible rfl)) (by assumption) ?_; (try simp only [Act.put, List.setIfInBounds_toArray, List.set_cons_zero, List.set_cons_succ]))
    (refine wpT_step rfl (by rfl) (fun K hK => ?_); go_simp)
    refine (bytes_any b6 n6 c6 AA none 0 0 [] _ (hdp6.out.later (bl_then (below_alloc _ _) (bl_then hba (bl_then (below_alloc _ _) hcur)))) (by have := hdp6.out.row.len8; have := HAL.out.1; omega) (by omega)).mono ?_
    rintro e w11 ⟨b11, n11, c11, rfl, hr11, _, hb11⟩
    obtain rfl : n11 = n := by have := hr11.len8; rw [List.map_nil, bytes_lone HAL.out.2] at this; exact this.trans HAL.out.1
    replace hcur := bl_then hcur hb11
    (refine hK.out _ _ _ (fun _ h => h) (HS.out _ hcur) (fun hHeld => ?_); clear hK; clear K; (try simp only [Act.put, List.setIfInBounds_toArray, List.set_cons_zero, List.set_cons_succ]))
    iterate 4 (refine wpT_take rfl (by rfl) (by rfl) (by intro w' hSw; (try dsimp only at hSw); go_simp; (try with_reducible rfl)) (by assumption) ?_; (try simp only [Act.put, List.setIfInBounds_toArray, List.set_cons_zero, List.set_cons_succ]))
    (refine wpT_nil ?_)
    go_wp2
    go_ret
    exact ⟨rfl, bl_then (below_alloc _ _) (bl_then hbx (bl_then (below_alloc _ _) hcur))⟩
  · have hmn : min (ln : Int) (m : Int) = (ln : Int) := by omega
    have hml2 : (ln : Int) ≤ (m : Int) := by omega
    have PT := Lib.hid (fun w' (hb : Below w.heap.size w w') => by have := (HPL.out.later hb).pre ln (by omega); rwa [Nat.mul_one, b8_take] at this)
    go_enter Try.func8, Try.ntmps8
    go_wp2_with (first | (go_at_call 9; refine (awake_any _).mono ?_; rintro e w1 ⟨rfl, hbx⟩; obtain ⟨hx1, hx2, _, _, _⟩ := box2 hbx) | (go_at_call 10; (with_reducible refine (hFew.out _).mono ?_); rintro e w2 ⟨rfl, hb2⟩; rw [hd.out]; replace hbx := bl_then hbx hb2; clear hb2 hx1 hx2; obtain ⟨hx1, hx2, _, _, _⟩ := box2 hbx) | (go_at_call 11; (with_reducible refine (drive_any ao n c base po m pc R _ (H.out.later (bl_then (below_alloc _ _) hbx)) (by omega)).mono ?_); rintro e w3 ⟨po1, pc1, rfl, hdp1, hb3⟩; replace hbx := bl_then hbx hb3; clear hb3 hx1 hx2; obtain ⟨hx1, hx2, _, _, _⟩ := box2 hbx; replace hdp1 := Lib.hid hdp1) | (go_at_call 20; (with_reducible refine (sane_any ao n c base po1 m pc1 R _ hdp1.out (by omega) (by omega)).mono ?_); rintro e w4 ⟨rfl, hb4⟩; rw [hsn.out]; replace hbx := bl_then hbx hb4; clear hb4 hx1 hx2; obtain ⟨hx1, hx2, _, _, _⟩ := box2 hbx) | (go_at_call 16; (with_reducible refine (lay_any ao n c base po1 m pc1 R at_ qo qn qc data _ (hdp1.out.later (below_alloc _ _)) (HQ.out.later (bl_then (below_alloc _ _) (bl_then hbx (below_alloc _ _)))) (by omega) (by omega) (by omega) hat).mono ?_); rintro e w4 ⟨ao4, n4, c4, base4, po4, m4, pc4, R4, rfl, hdp4, heq4, hb4⟩; rw [HLY.out]; have hbo := hb4; replace hb4 := bl_then (below_alloc _ _) hb4; replace hbx := bl_then hbx hb4; clear hb4 hx1 hx2; obtain ⟨hx1, hx2, _, _, _⟩ := box2 hbx; obtain ⟨hn4, hm4⟩ := more_small hdp4 heq4 HLY.out HS1.out; replace hdp4 := Lib.hid hdp4; replace heq4 := Lib.hid heq4) | (at_builtin; refine wpList_appN eltU8 (w4.alloc (.cells #[.slice ao4 n4 c4, .slice po4 m4 pc4] 30)) _ (below_alloc _ _) rfl _ _ rfl _ 0 0 [] rfl (by have h := ownN_lit0 (w4.alloc (.cells #[.slice ao4 n4 c4, .slice po4 m4 pc4] 30)).heap.size 5 1 (w4.alloc (.cells #[.slice ao4 n4 c4, .slice po4 m4 pc4] 30)) (Nat.le_refl _); simp only [World.size_alloc] at h ⊢; exact h) lo ln lc _ rfl (PT.out _ (bl_then (below_alloc _ _) (bl_then hbx (by (repeat (first | exact Below.refl _ _ | refine Below.drew ?_ | refine bl_drewN ?_ _ | (refine Below.alloc ?_ (by first | exact Nat.le_refl _ | (simp; done) | (simp; omega)) _))))))) (fun h => by cases h) (by omega) ?_; intro g5 c5 w5 hown5 hb5; rw [Nat.zero_add, List.nil_append] at hown5; replace hown5 := Lib.hid (row_own hown5 (b8_one _)); have hbX := hb5; replace hb5 := bl_then (below_alloc _ _) hb5; replace hbo := bl_then hbo hb5; replace hbx := bl_then hbx hb5; clear hb5 hx1 hx2; obtain ⟨hx1, hx2, _, _, _⟩ := box2 hbx; obtain ⟨ho1, ho2, _, _, _⟩ := box2 hbo; obtain ⟨hX1, hX2, _, _, _⟩ := box2 hbX) | (go_at_call 26; (with_reducible refine (crash_any ao n c base po1 m pc1 R lo ln lc plan _ _ (hdp1.out.later (bl_then (below_alloc _ _) hbo)) (HPL.out.later (bl_then (below_alloc _ _) hbx)) (Below.refl _ _) (by omega) (by omega) (by omega) HP.out).mono ?_); rintro e w6 ⟨b6, n6, c6, rfl, hdp6, hb6⟩; rw [HAA.out] at hdp6; replace hdp6 := Lib.hid hdp6; replace hown5 := Lib.hid (hown5.out.later hb6); replace hbo := bl_then hbo hb6; replace hbX := bl_then hbX hb6; replace hbx := bl_then hbx hb6; clear hb6 hx1 hx2; obtain ⟨hx1, hx2, _, _, _⟩ := box2 hbx; clear hX1 hX2; obtain ⟨hX1, hX2, _, _, _⟩ := box2 hbX) | (go_at_call 26; (with_reducible refine (crash_any ao4 n4 c4 base4 po4 m4 pc4 R4 (some ⟨g5, 0, none⟩) ln c5 (plan.take ln) _ _ (hdp4.out.later (bl_then (below_alloc _ _) (bl_then hbX (below_alloc _ _)))) (hown5.out.later (below_alloc _ _)) (Below.refl _ _) (by omega) (by omega) (by omega) (fun x hx => HP.out x (List.mem_of_mem_take hx))).mono ?_); rintro e w7 ⟨b7, n7, c7, rfl, hdp7, hb7⟩; rw [more_at heq4.out HLY.out, HME.out ln (by omega)] at hdp7; have hba := hb7; replace hb7 := bl_then (below_alloc _ _) hb7; replace hbx := bl_then hbx hb7; clear hb7 hx1 hx2; obtain ⟨hx1, hx2, _, _, _⟩ := box2 hbx; obtain ⟨ha1, ha2, _, _, _⟩ := box2 hba))
    have hS := fun x (hx : Below (w7.alloc (.cells #[.slice b7 n7 c7, .slice none 0 0] 30)).heap.size (w7.alloc (.cells #[.slice b7 n7 c7, .slice none 0 0] 30)) x) => more_held hba hbx hx
    have HS := Lib.hid hS
    have hcur := (Below.refl (w7.alloc (.cells #[.slice b7 n7 c7, .slice none 0 0] 30)).heap.size (w7.alloc (.cells #[.slice b7 n7 c7, .slice none 0 0] 30))).drew
    have hd7 := Lib.hid hdp7
    clear hS hdp7 ha1 ha2 hx1 hx2 ho1 ho2 hX1 hX2
    refine wp_plan (fun x => x.cell? ⟨w6.heap.size, 0, none⟩ = some (.slice b6 n6 c6) ∧ x.cell? ⟨w6.heap.size, 1, none⟩ = some (.slice none 0 0) ∧ x.cell? ⟨w7.heap.size, 0, none⟩ = some (.slice b7 n7 c7) ∧ x.cell? ⟨w7.heap.size, 1, none⟩ = some (.slice none 0 0) ∧ x.cell? ⟨w.heap.size, 0, none⟩ = some (.slice ao n c)) [3, 5, 6, 10] [0, 1, 2, 4, 3, 5, 6, 7, 8, 9, 12, 13, 14, 10, 11, 15, 16, 17] (by kernel_rfl) (by kernel_rfl) (HS.out _ hcur) (fun hHeld => ?_)
    iterate 4 (refine wpT_take rfl (by rfl) (by rfl) (by intro w' hSw; (try dsimp only at hSw); go_simp; (try with_reducible rfl)) (by assumption) ?_; (try simp only [Act.put, List.setIfInBounds_toArray, List.set_cons_zero, List.set_cons_succ]))
    (refine wpT_step rfl (by rfl) (fun K hK => ?_); go_simp)
    refine (flat_any b6 n6 c6 AA none 0 0 [] _ (hdp6.out.later (bl_then (below_alloc _ _) (bl_then hba (bl_then (below_alloc _ _) hcur)))) (by omega)).mono ?_
    rintro e w8 ⟨po8, pc8, rfl, hdp8, hb8⟩
    replace hcur := bl_then hcur hb8
    (refine hK.out _ _ _ (fun _ h => h) (HS.out _ hcur) (fun hHeld => ?_); clear hK; clear K; (try simp only [Act.put, List.setIfInBounds_toArray, List.set_cons_zero, List.set_cons_succ]))
    (refine wpT_step rfl (by rfl) (fun K hK => ?_); go_simp)
    refine (flat_any b7 n7 c7 AA none 0 0 [] _ (hd7.out.later (bl_then (below_alloc _ _) hcur)) (by omega)).mono ?_
    rintro e w9 ⟨po9, pc9, rfl, hdp9, hb9⟩
    replace hcur := bl_then hcur hb9
    (refine hK.out _ _ _ (fun _ h => h) (HS.out _ hcur) (fun hHeld => ?_); clear hK; clear K; (try simp only [Act.put, List.setIfInBounds_toArray, List.set_cons_zero, List.set_cons_succ]))
    (refine wpT_step rfl (by rfl) (fun K hK => ?_); go_simp)
    refine (same_any b6 n6 c6 AA po8 0 pc8 [] b7 n7 c7 AA po9 0 pc9 [] _ (hdp8.later hb9) hdp9 rfl rfl (by omega)).mono ?_
    rintro e w10 ⟨rfl, hb10⟩
    replace hcur := bl_then hcur hb10
    (refine hK.out _ _ _ (fun _ h => h) (HS.out _ hcur) (fun hHeld => ?_); clear hK; clear K; (try simp only [Act.put, List.setIfInBounds_toArray, List.set_cons_zero, List.set_cons_succ]))
    iterate 6 (refine wpT_take rfl (by rfl) (by rfl) (by intro w' hSw; (try dsimp only at hSw); go_simp; (try with_reducible rfl)) (by assumption) ?_; (try simp only [Act.put, List.setIfInBounds_toArray, List.set_cons_zero, List.set_cons_succ]))
    (refine wpT_step rfl (by rfl) (fun K hK => ?_); go_simp)
    refine (bytes_any b6 n6 c6 AA none 0 0 [] _ (hdp6.out.later (bl_then (below_alloc _ _) (bl_then hba (bl_then (below_alloc _ _) hcur)))) (by have := hdp6.out.row.len8; have := HAL.out.1; omega) (by omega)).mono ?_
    rintro e w11 ⟨b11, n11, c11, rfl, hr11, _, hb11⟩
    obtain rfl : n11 = n := by have := hr11.len8; rw [List.map_nil, bytes_lone HAL.out.2] at this; exact this.trans HAL.out.1
    replace hcur := bl_then hcur hb11
    (refine hK.out _ _ _ (fun _ h => h) (HS.out _ hcur) (fun hHeld => ?_); clear hK; clear K; (try simp only [Act.put, List.setIfInBounds_toArray, List.set_cons_zero, List.set_cons_succ]))
    iterate 4 (refine wpT_take rfl (by rfl) (by rfl) (by intro w' hSw; (try dsimp only at hSw); go_simp; (try with_reducible rfl)) (by assumption) ?_; (try simp only [Act.put, List.setIfInBounds_toArray, List.set_cons_zero, List.set_cons_succ]))
    (refine wpT_nil ?_)
    go_wp2
    go_ret
    exact ⟨rfl, bl_then (below_alloc _ _) (bl_then hbx (bl_then (below_alloc _ _) hcur))⟩
end Go.Proofs.Ytoihponjnhhgbaa
