/- Disk: DiskTorn: the walk (made by gen_torn.py). -/
import Derived.Test.YtoihponjnhhgbaaDk13
namespace Go.Proofs.Ytoihponjnhhgbaa
set_option linter.unusedVariables false
set_option linter.unusedSimpArgs false
open Go.RowKit

/-- of the first i writes, one put this byte there -/
def tornT (A : List Int) (L : List (Int × List Int)) (k i : Nat) : Bool := (L.take i).any fun p => decide (p.1 = ((k / 32 : Nat) : Int)) && decide (p.2.getD (k % 32) 0 = A.getD k 0)

theorem spl_getD (xs ys : List Int) (off k : Nat) (h : off + ys.length ≤ xs.length) : (spl xs off ys).getD k 0 = if off ≤ k ∧ k < off + ys.length then ys.getD (k - off) 0 else xs.getD k 0 := by
  have hl : (xs.take off).length = off := by rw [List.length_take]; omega
  simp only [spl, List.getD]
  split
  · rename_i hk
    rw [List.getElem?_append_right (by omega), hl, List.getElem?_append_left (by omega)]
  · rename_i hk
    rcases Nat.lt_or_ge k off with h1 | h1
    · rw [List.getElem?_append_left (by omega), List.getElem?_take_of_lt h1]
    · rw [List.getElem?_append_right (by omega), hl, List.getElem?_append_right (by omega), List.getElem?_drop]
      congr 2
      omega

theorem crs_torn (base : List Int) (l : List (Int × List Int)) (plan : List Int) (k : Nat) (h : ∀ p ∈ l, 0 ≤ p.1 ∧ p.1 < (base.length : Int) / 32 ∧ p.2.length = 32) :
    (crs base l plan).getD k 0 = base.getD k 0 ∨ ∃ p ∈ l, p.1 = ((k / 32 : Nat) : Int) ∧ p.2.getD (k % 32) 0 = (crs base l plan).getD k 0 := by
  induction l generalizing base plan with
  | nil => exact .inl rfl
  | cons p l ih =>
    cases plan with
    | nil => exact .inl rfl
    | cons x plan =>
      have hp := h p (by simp)
      have hs : (spl base (32 * p.1.toNat) (p.2.take (min x.toNat 32))).length = base.length := spl_len _ _ _ (by rw [List.length_take]; omega)
      have := ih (spl base (32 * p.1.toNat) (p.2.take (min x.toNat 32))) plan (fun q hq => by rw [hs]; exact h q (by simp [hq]))
      rcases this with h1 | ⟨q, hq, h1, h2⟩
      · change (crs (spl base (32 * p.1.toNat) (p.2.take (min x.toNat 32))) l plan).getD k 0 = base.getD k 0 ∨ _
        rw [spl_getD _ _ _ _ (by rw [List.length_take]; omega)] at h1
        split at h1
        · rename_i hk
          rw [List.length_take] at hk
          right
          refine ⟨p, by simp, by omega, ?_⟩
          change p.2.getD (k % 32) 0 = (crs (spl base (32 * p.1.toNat) (p.2.take (min x.toNat 32))) l plan).getD k 0
          rw [h1, show k % 32 = k - 32 * p.1.toNat by omega]
          simp only [List.getD]
          rw [List.getElem?_take_of_lt (by omega)]
        · exact .inl h1
      · exact .inr ⟨q, by simp [hq], h1, h2⟩

def TornRel (w6 : World) (n : Nat) (k : Value) (wr : World) : Prop := ∃ j : Nat, j ≤ n ∧ k = .int .i64 (j : Int) ∧ Below w6.heap.size w6 wr
def TornRel2 (w6 : World) (A base : List Int) (L : List (Int × List Int)) (m j : Nat) (ok i : Value) (wr : World) : Prop :=
  ∃ t : Nat, t ≤ m ∧ i = .int .i64 (t : Int) ∧ ok = .bool (decide (A.getD j 0 = base.getD j 0) || tornT A L j t) ∧ Below w6.heap.size w6 wr

theorem torn_succ (A : List Int) (L : List (Int × List Int)) (k i : Nat) (p : Int × List Int) (h : L[i]? = some p) : tornT A L k (i + 1) = (tornT A L k i || (decide (p.1 = ((k / 32 : Nat) : Int)) && decide (p.2.getD (k % 32) 0 = A.getD k 0))) := by
  unfold tornT
  rw [List.take_add_one, h, List.any_append]
  simp

set_option maxHeartbeats 2000000 in
theorem torn_walk (ao : Option Addr) (n c : Nat) (base : List Int) (po : Option Addr) (m pc : Nat) (R : List Rep) (lo : Option Addr) (ln lc : Nat) (plan : List Int) (w : World) (h : DP w ao n c base po m pc R) (hl : Row w lo ln lc 1 (b8 plan)) (hp : ∀ x ∈ plan, 0 ≤ x ∧ x < 256) :
    Calls Try.prog 5 #[.agg #[.slice ao n c, .slice po m pc], .slice lo ln lc] w fun e w' => e = .returned (.bool true) ∧ Below w.heap.size w w' := by
  have H := Lib.hid h
  have HPL := Lib.hid hl
  have HP := Lib.hid hp
  have hFew := Lib.hid (few_any ao n c po m pc)
  clear h hp hl
  by_cases hf : ¬ (n ≤ 9600 ∧ m ≤ 300)
  · have hd := Lib.hid (show (decide (n ≤ 9600) && decide (m ≤ 300)) = false by simp; omega)
    go_enter Try.func5, Try.ntmps5
    go_wp2_with (first | (go_at_call 9; refine (awake_any _).mono ?_; rintro e w1 ⟨rfl, hbx⟩; obtain ⟨hx1, hx2, _, _, _⟩ := box2 hbx) | (go_at_call 10; (with_reducible refine (hFew.out _).mono ?_); rintro e w2 ⟨rfl, hb2⟩; rw [hd.out]; replace hbx := bl_then hbx hb2; clear hb2 hx1 hx2; obtain ⟨hx1, hx2, _, _, _⟩ := box2 hbx))
    go_ret
    exact ⟨rfl, bl_then (below_alloc _ _) hbx⟩
  have hd := Lib.hid (show (decide (n ≤ 9600) && decide (m ≤ 300)) = true by simp; omega)
  have hn1 : n ≤ 9600 := by omega
  have hm1 : m ≤ 300 := by omega
  clear hf
  by_cases h400 : (400 : Int) < (ln : Int)
  · go_enter Try.func5, Try.ntmps5
    go_wp2_with (first | (go_at_call 9; refine (awake_any _).mono ?_; rintro e w1 ⟨rfl, hbx⟩; obtain ⟨hx1, hx2, _, _, _⟩ := box2 hbx) | (go_at_call 10; (with_reducible refine (hFew.out _).mono ?_); rintro e w2 ⟨rfl, hb2⟩; rw [hd.out]; replace hbx := bl_then hbx hb2; clear hb2 hx1 hx2; obtain ⟨hx1, hx2, _, _, _⟩ := box2 hbx))
    go_ret
    exact ⟨rfl, bl_then (below_alloc _ _) hbx⟩
  by_cases hsane : ¬ saneD base (R.map Rep.plain) = true
  · have hsn := Lib.hid (show saneD base (R.map Rep.plain) = false by simpa using hsane)
    clear hsane
    go_enter Try.func5, Try.ntmps5
    go_wp2_with (first | (go_at_call 9; refine (awake_any _).mono ?_; rintro e w1 ⟨rfl, hbx⟩; obtain ⟨hx1, hx2, _, _, _⟩ := box2 hbx) | (go_at_call 10; (with_reducible refine (hFew.out _).mono ?_); rintro e w2 ⟨rfl, hb2⟩; rw [hd.out]; replace hbx := bl_then hbx hb2; clear hb2 hx1 hx2; obtain ⟨hx1, hx2, _, _, _⟩ := box2 hbx) | (go_at_call 11; (with_reducible refine (drive_any ao n c base po m pc R _ (H.out.later (bl_then (below_alloc _ _) hbx)) (by omega)).mono ?_); rintro e w3 ⟨po1, pc1, rfl, hdp1, hb3⟩; replace hbx := bl_then hbx hb3; clear hb3 hx1 hx2; obtain ⟨hx1, hx2, _, _, _⟩ := box2 hbx; replace hdp1 := Lib.hid hdp1) | (go_at_call 20; (with_reducible refine (sane_any ao n c base po1 m pc1 R _ hdp1.out (by omega) (by omega)).mono ?_); rintro e w4 ⟨rfl, hb4⟩; rw [hsn.out]; replace hbx := bl_then hbx hb4; clear hb4 hx1 hx2; obtain ⟨hx1, hx2, _, _, _⟩ := box2 hbx))
    go_ret
    exact ⟨rfl, bl_then (below_alloc _ _) hbx⟩
  have hsn := Lib.hid (show saneD base (R.map Rep.plain) = true by simpa using hsane)
  clear hsane
  obtain ⟨AA, hAA⟩ : ∃ AA, crashD base (R.map Rep.plain) plan = AA := ⟨_, rfl⟩
  have HAA := Lib.hid hAA
  have HAL := Lib.hid (show AA.length = n ∧ saneD AA [] = true by
    have h1 : AA.length = base.length := by rw [← hAA]; exact crash_len hsn.out plan
    exact ⟨h1.trans H.out.row.len8.symm, sane_lone hsn.out h1⟩)
  have HT := Lib.hid (fun k => show (decide (AA.getD k 0 = base.getD k 0) || tornT AA (R.map Rep.plain) k m) = true by
    have h1 := crs_torn base (R.map Rep.plain) plan k (saneD_parts hsn.out).2.2.2
    have h2 : crs base (R.map Rep.plain) plan = AA := by rw [← hAA]; unfold crashD; rw [own_of hsn.out]
    rw [h2] at h1
    rw [Bool.or_eq_true]
    rcases h1 with h1 | ⟨p, hp, h3, h4⟩
    · exact .inl (by rw [h1]; simp)
    · right
      unfold tornT
      rw [List.take_of_length_le (by rw [List.length_map]; exact Nat.le_of_eq H.out.pend.lenw.symm), List.any_eq_true]
      exact ⟨p, hp, by rw [h3, h4]; simp⟩)
  clear hAA
  go_enter Try.func5, Try.ntmps5
  go_wp2_with (first | (go_at_call 9; refine (awake_any _).mono ?_; rintro e w1 ⟨rfl, hbx⟩; obtain ⟨hx1, hx2, _, _, _⟩ := box2 hbx) | (go_at_call 10; (with_reducible refine (hFew.out _).mono ?_); rintro e w2 ⟨rfl, hb2⟩; rw [hd.out]; replace hbx := bl_then hbx hb2; clear hb2 hx1 hx2; obtain ⟨hx1, hx2, _, _, _⟩ := box2 hbx) | (go_at_call 11; (with_reducible refine (drive_any ao n c base po m pc R _ (H.out.later (bl_then (below_alloc _ _) hbx)) (by omega)).mono ?_); rintro e w3 ⟨po1, pc1, rfl, hdp1, hb3⟩; replace hbx := bl_then hbx hb3; clear hb3 hx1 hx2; obtain ⟨hx1, hx2, _, _, _⟩ := box2 hbx; replace hdp1 := Lib.hid hdp1) | (go_at_call 20; (with_reducible refine (sane_any ao n c base po1 m pc1 R _ hdp1.out (by omega) (by omega)).mono ?_); rintro e w4 ⟨rfl, hb4⟩; rw [hsn.out]; replace hbx := bl_then hbx hb4; clear hb4 hx1 hx2; obtain ⟨hx1, hx2, _, _, _⟩ := box2 hbx) | (go_at_call 26; (with_reducible refine (crash_any ao n c base po1 m pc1 R lo ln lc plan _ _ hdp1.out (HPL.out.later (bl_then (below_alloc _ _) hbx)) (Below.refl _ _) (by omega) (by omega) (by omega) HP.out).mono ?_); rintro e w6 ⟨b6, n6, c6, rfl, hdp6, hb6⟩; rw [HAA.out] at hdp6; obtain rfl : n6 = n := hdp6.row.len8.trans HAL.out.1; replace hdp6 := Lib.hid hdp6; replace hbx := bl_then hbx hb6; clear hb6 hx1 hx2; obtain ⟨hx1, hx2, _, _, _⟩ := box2 hbx))
  have hba := below_alloc w6 (.cells #[.slice b6 n6 c6, .slice none 0 0] 30)
  have hB0 := bl_then (below_alloc _ _) (bl_then hbx hba)
  go_loopw [7] (fun k wr => TornRel (w6.alloc (.cells #[.slice b6 n6 c6, .slice none 0 0] 30)) n6 k wr) (fun k _ => n6 - (intOf k).toNat)
  case atStart => exact ⟨0, by omega, rfl, Below.refl _ _⟩
  case round =>
    clear hx1 hx2
    obtain ⟨j, hj, rfl, hbr⟩ := hrel
    have hbr0 := bl_then hB0 hbr
    obtain ⟨hx1, hx2, _, _, _⟩ := box2 (bl_then (bl_then hbx hba) hbr)
    obtain ⟨hy1, hy2, _, _, _⟩ := box2 hbr
    by_cases hlt : j < n6
    · have hjn : (j : Int) < (n6 : Int) := by omega
      have hrA := (hdp6.out.row.later (bl_then hba hbr))
      have hrB := (H.out.row.later hbr0)
      obtain ⟨ba, oa, rfl⟩ := row_addr hrA (by intro e; have := hrA.len; rw [e] at this; simp at this; omega)
      obtain ⟨bb, ob, rfl⟩ := row_addr hrB (by intro e; have := hrB.len; rw [e] at this; simp at this; omega)
      have hcA := hrA.cell8 j hlt
      have hcB := hrB.cell8 j hlt
      obtain ⟨u, hu⟩ : ∃ u, AA.getD j 0 = u := ⟨_, rfl⟩
      obtain ⟨v, hv⟩ : ∃ v, base.getD j 0 = v := ⟨_, rfl⟩
      rw [hu] at hcA
      rw [hv] at hcB
      have HU := Lib.hid (And.intro hu hv)
      have hcl := Lib.hid (And.intro hrA.le hrB.le)
      have hla : (n6 : Int) ≤ (c6 : Int) := by have := hrA.le; omega
      have hlb : (n6 : Int) ≤ (c : Int) := by have := hrB.le; omega
      clear hu hv hrA hrB
      go_wp2
      go_quiet (fail)
      go_wp2
      obtain ⟨s, hs⟩ : ∃ s : Nat, s = j % 32 := ⟨_, rfl⟩
      obtain ⟨q, hq⟩ : ∃ q : Nat, q = j / 32 := ⟨_, rfl⟩
      have hs1 : (j : Int) % 32 = (s : Int) := by omega
      have hq1 : (j : Int) / 32 = (q : Int) := by omega
      have hs32 : s < 32 := by omega
      have HSQ := Lib.hid (And.intro hs hq)
      clear hs hq hx1 hx2 hy1 hy2 hcA hcB
      have hbr2 := bl_drewN hbr nq
      go_loopw [8, 9] (fun ok i wr' => TornRel2 (w6.alloc (.cells #[.slice (some ⟨ba, oa, none⟩) n6 c6, .slice none 0 0] 30)) AA base (R.map Rep.plain) m j ok i wr') (fun _ i _ => m - (intOf i).toNat)
      case atStart => exact ⟨0, by omega, rfl, by rw [HU.out.1, HU.out.2]; simp [tornT]; try rfl, hbr2⟩
      case round =>
        clear hbr2
        obtain ⟨t, ht, rfl, rfl, hbr2⟩ := hrel
        obtain ⟨bv, hbv⟩ : ∃ bv, (decide (AA.getD j 0 = base.getD j 0) || tornT AA (R.map Rep.plain) j t) = bv := ⟨_, rfl⟩
        rw [hbv]
        have HBV := Lib.hid hbv
        clear hbv
        have hbr3 := bl_then hB0 hbr2
        obtain ⟨hx1, hx2, _, _, _⟩ := box2 (bl_then (bl_then hbx hba) hbr2)
        obtain ⟨hy1, hy2, _, _, _⟩ := box2 hbr2
        by_cases htm : t < m
        · have htm' : (t : Int) < (m : Int) := by omega
          have hd3 := H.out.later hbr3
          have hlm := H.out.pend.lenw
          obtain ⟨b, off, rfl⟩ := row_addr hd3.pend (by intro e; have := wc_len R; rw [e] at this; simp at this; omega)
          obtain ⟨r, hr⟩ : ∃ r, R[t]? = some r := ⟨_, List.getElem?_eq_getElem (by omega)⟩
          obtain ⟨hw1, hw2⟩ := hd3.pend.wcell t r hr
          obtain ⟨k, hrk, hkn, hrn, hrow⟩ := (show DS _ _ _ _ _ _ _ _ _ from ⟨hd3, hsn.out⟩).at (List.mem_of_getElem? hr)
          obtain ⟨bd, od, hra⟩ := row_addr hrow (by intro e; have := hrow.len; rw [e] at this; simp at this)
          rw [hra] at hrow hw2
          rw [hrk] at hw1
          rw [hrn] at hw2
          have hcd := hrow.cell8 s (by omega)
          obtain ⟨y, hy⟩ : ∃ y, r.data.getD s 0 = y := ⟨_, rfl⟩
          rw [hy] at hcd
          have hcA := (hdp6.out.row.later (bl_then hba hbr2)).cell8 j hlt
          rw [HU.out.1] at hcA
          have hrc : (32 : Int) ≤ (r.c : Int) := by have := hrow.le; omega
          have hmp : (m : Int) ≤ (pc : Int) := by have := hd3.pend.le; omega
          have hs32' : (s : Int) < 32 := by omega
          have HN := Lib.hid (show (decide (AA.getD j 0 = base.getD j 0) || tornT AA (R.map Rep.plain) j (t + 1)) = (bv || (decide ((k : Int) = (q : Int)) && decide (y = u))) by
            rw [← HBV.out, torn_succ AA (R.map Rep.plain) j t r.plain (by rw [List.getElem?_map, hr]; rfl), ← Bool.or_assoc]
            rw [show r.plain.1 = (k : Int) from hrk, ← HSQ.out.1, ← HSQ.out.2, show r.plain.2.getD s 0 = y from hy, HU.out.1])
          clear hr hrk hrow hd3 hlm hy
          cases bv with
          | true =>
            go_wp2
            go_quiet (fail)
            go_wp2
            go_roundw
            case rel => exact ⟨t + 1, by omega, by go_num, by rw [HN.out]; simp, bl_drewN hbr2 _⟩
            case measure => simp [intOf]; omega
          | false =>
            by_cases hkq : k = q
            · subst hkq
              by_cases hyu : y = u
              · subst hyu
                go_wp2
                go_quiet (fail)
                go_wp2
                go_roundw
                case rel => exact ⟨t + 1, by omega, by go_num, by rw [HN.out]; simp, bl_drewN hbr2 _⟩
                case measure => simp [intOf]; omega
              · go_wp2
                go_quiet (fail)
                go_wp2
                go_roundw
                case rel => exact ⟨t + 1, by omega, by go_num, by rw [HN.out]; simp [hyu], bl_drewN hbr2 _⟩
                case measure => simp [intOf]; omega
            · have hkb : ((k : Int) == (q : Int)) = false := by simp; omega
              have hkq2 : ¬ (k : Int) = (q : Int) := by omega
              go_wp2
              go_quiet (fail)
              go_wp2
              go_roundw
              case rel => exact ⟨t + 1, by omega, by go_num, by rw [HN.out]; simp [hkq2], bl_drewN hbr2 _⟩
              case measure => simp [intOf]; omega
        · have htm2 : t = m := by omega
          subst htm2
          have hbt : bv = true := by rw [← HBV.out]; exact HT.out j
          subst hbt
          go_wp2
          go_roundw
          case rel => exact ⟨j + 1, by omega, by go_num, hbr2⟩
          case measure => simp [intOf]; omega
    · have hjn : j = n6 := by omega
      subst hjn
      go_wp2
      go_ret
      exact ⟨rfl, hbr0⟩
end Go.Proofs.Ytoihponjnhhgbaa
