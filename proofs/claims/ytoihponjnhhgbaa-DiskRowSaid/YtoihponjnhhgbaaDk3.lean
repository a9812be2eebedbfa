/- Disk: sane. -/
import Derived.Test.YtoihponjnhhgbaaDk2
import Derived.Test.YtoihponjnhhgbaaCpy
namespace Go.Proofs.Ytoihponjnhhgbaa
set_option linter.unusedVariables false
set_option linter.unusedSimpArgs false
open Go.RowKit

def ownD (base : List Int) (pend : List (Int × List Int)) : List Int × List (Int × List Int) := if saneD base pend then (base, pend) else ([], [])
theorem saneD_nil : saneD [] [] = true := by decide
theorem ownD_sane (base : List Int) (pend : List (Int × List Int)) : saneD (ownD base pend).1 (ownD base pend).2 = true := by
  unfold ownD
  split
  · assumption
  · exact saneD_nil
theorem dp_nil (w : World) (ao : Option Addr) (c : Nat) (h : ao = none → c = 0) : DP w ao 0 c [] none 0 0 [] :=
  ⟨row_mt w ao c 1 h, row_mt w none 0 2 (fun _ => rfl), fun _ h => by cases h⟩

/-- A disk that may be, as it lies in w. -/
structure DS (w : World) (ao : Option Addr) (n c : Nat) (base : List Int) (po : Option Addr) (m pc : Nat) (R : List Rep) : Prop where
  dp : DP w ao n c base po m pc R
  ok : saneD base (R.map Rep.plain) = true
theorem DS.later {w w' : World} {ao : Option Addr} {n c : Nat} {base : List Int} {po : Option Addr} {m pc : Nat} {R : List Rep} (h : DS w ao n c base po m pc R) (hb : Below w.heap.size w w') : DS w' ao n c base po m pc R := ⟨h.dp.later hb, h.ok⟩
theorem saneD_parts {base : List Int} {pend : List (Int × List Int)} (h : saneD base pend = true) : base.length % 32 = 0 ∧ base.length ≤ 131072 ∧ pend.length ≤ 100000 ∧ ∀ p ∈ pend, 0 ≤ p.1 ∧ p.1 < (base.length : Int) / 32 ∧ p.2.length = 32 := by
  simp only [saneD, Bool.and_eq_true, decide_eq_true_eq, List.all_eq_true] at h
  obtain ⟨⟨⟨h1, h2⟩, h3⟩, h4⟩ := h
  refine ⟨h1, by omega, h3, fun p hp => ?_⟩
  have := h4 p hp
  simp only [okW, Bool.and_eq_true, decide_eq_true_eq] at this
  exact ⟨this.1.1, this.1.2, this.2⟩
theorem DS.small {w : World} {ao : Option Addr} {n c : Nat} {base : List Int} {po : Option Addr} {m pc : Nat} {R : List Rep} (h : DS w ao n c base po m pc R) : n ≤ 131072 ∧ m ≤ 100000 ∧ n % 32 = 0 := by
  have h1 := h.dp.row.len8
  have h2 := h.dp.pend.lenw
  obtain ⟨h3, h4, h5, _⟩ := saneD_parts h.ok
  rw [List.length_map] at h5
  omega
theorem DS.at {w : World} {ao : Option Addr} {n c : Nat} {base : List Int} {po : Option Addr} {m pc : Nat} {R : List Rep} (h : DS w ao n c base po m pc R) {r : Rep} (hr : r ∈ R) :
    ∃ k : Nat, r.at_ = (k : Int) ∧ 32 * k + 32 ≤ n ∧ r.n = 32 ∧ Row w r.ao 32 r.c 1 (b8 r.data) := by
  have h1 := h.dp.row.len8
  have h2 := (h.dp.data r hr)
  have h3 := h2.len8
  obtain ⟨_, _, _, h4⟩ := saneD_parts h.ok
  obtain ⟨h5, h6, h7⟩ := h4 r.plain (List.mem_map.2 ⟨r, hr, rfl⟩)
  change 0 ≤ r.at_ at h5
  change r.at_ < _ at h6
  change r.data.length = 32 at h7
  obtain ⟨k, hk⟩ := Int.eq_ofNat_of_zero_le h5
  have h8 : r.n = 32 := by omega
  rw [h8] at h2
  exact ⟨k, hk, by omega, h8, h2⟩

set_option maxHeartbeats 1000000 in
/-- sane: the disk itself, or one of nothing: as it lies in the world of the call (w0: a world ahead of it, in which the disk lies too). -/
theorem own_any (ao : Option Addr) (n c : Nat) (base : List Int) (po : Option Addr) (m pc : Nat) (R : List Rep) (w0 w : World) (h : DP w0 ao n c base po m pc R) (hb : Below w0.heap.size w0 w) (hn : n ≤ 1000000) (hm : m ≤ 1000000) :
    Calls Try.prog 30 #[.agg #[.slice ao n c, .slice po m pc]] w fun e w' => ∃ ao1 n1 c1 base1 po1 m1 pc1 R1, e = .returned (.agg #[.slice ao1 n1 c1, .slice po1 m1 pc1]) ∧ DS w0 ao1 n1 c1 base1 po1 m1 pc1 R1 ∧ (base1, R1.map Rep.plain) = ownD base (R.map Rep.plain) ∧ Below w.heap.size w w' := by
  obtain ⟨s, hs⟩ : ∃ s, saneD base (R.map Rep.plain) = s := ⟨_, rfl⟩
  have HC := Lib.hid (fun w' (h' : Below w.heap.size w w') => by have := sane_any ao n c base po m pc R w' ((h.later hb).later h') hn hm; rwa [hs] at this)
  have HN := Lib.hid (fun w' => by have := new_any 0 w'; rwa [show secN 0 * 32 = 0 from rfl] at this)
  cases s with
  | true =>
    have HD := Lib.hid (show DS w0 ao n c base po m pc R from ⟨h, hs⟩)
    have HO := Lib.hid (show (base, R.map Rep.plain) = ownD base (R.map Rep.plain) by unfold ownD; rw [hs]; rfl)
    clear h hs
    go_enter Try.func30, Try.ntmps30
    go_wp2_with (go_at_call 20; (with_reducible refine (HC.out _ (by (repeat (first | exact Below.refl _ _ | refine Below.drew ?_ | refine bl_drewN ?_ _ | (refine Below.alloc ?_ (by first | exact Nat.le_refl _ | (simp; done) | (simp; omega)) _))))).mono ?_); rintro e w1 ⟨rfl, hb1⟩; obtain ⟨hc1, hc2, hc3, hc4, hc5⟩ := box2 (bl_then (below_alloc _ _) hb1); obtain ⟨hd1, hd2, hd3, hd4, hd5⟩ := box2 hb1; simp only [World.size_alloc] at hd1 hd2 hd3 hd4 hd5; have hB1 := bl_then (show Below w.heap.size w _ by (repeat (first | exact Below.refl _ _ | refine Below.drew ?_ | refine bl_drewN ?_ _ | (refine Below.alloc ?_ (by first | exact Nat.le_refl _ | (simp; done) | (simp; omega)) _)))) hb1; clear hb1)
    refine bodyPost_ret (v := .agg #[.slice ao n c, .slice po m pc]) (by simp [results, Try.results30, go_sem, hd1, hd2, hd3, hd4, hd5]) rfl ?_
    exact ⟨_, _, _, _, _, _, _, _, rfl, HD.out, HO.out, by refine Below.setCell (Below.setCell hB1 ?_ _) ?_ _ <;> exact Nat.le_succ _⟩
  | false =>
    have HO := Lib.hid (show ([], List.map Rep.plain []) = ownD base (R.map Rep.plain) by unfold ownD; rw [hs]; rfl)
    clear h hs
    go_enter Try.func30, Try.ntmps30
    go_wp2_with (first | (go_at_call 20; (with_reducible refine (HC.out _ (by (repeat (first | exact Below.refl _ _ | refine Below.drew ?_ | refine bl_drewN ?_ _ | (refine Below.alloc ?_ (by first | exact Nat.le_refl _ | (simp; done) | (simp; omega)) _))))).mono ?_); rintro e w1 ⟨rfl, hb1⟩; obtain ⟨hc1, hc2, hc3, hc4, hc5⟩ := box2 (bl_then (below_alloc _ _) hb1); obtain ⟨hd1, hd2, hd3, hd4, hd5⟩ := box2 hb1; simp only [World.size_alloc] at hd1 hd2 hd3 hd4 hd5; have hB1 := bl_then (show Below w.heap.size w _ by (repeat (first | exact Below.refl _ _ | refine Below.drew ?_ | refine bl_drewN ?_ _ | (refine Below.alloc ?_ (by first | exact Nat.le_refl _ | (simp; done) | (simp; omega)) _)))) hb1) | (go_at_call 28; (with_reducible refine (HN.out _).mono ?_); rintro e w2 ⟨ao2, c2, rfl, hr2, hb2⟩; obtain ⟨he1, he2, he3, he4, he5⟩ := box2 (bl_then hb1 hb2); simp only [World.size_alloc] at he1 he2 he3 he4 he5; have hB2 := bl_then hB1 hb2; replace hr2 := Lib.hid hr2))
    refine bodyPost_ret (v := .agg #[.slice ao2 0 c2, .slice none 0 0]) (by simp [results, Try.results30, go_sem, he1, he2, he3, he4, he5]) rfl ?_
    exact ⟨_, _, _, _, _, _, _, _, rfl, ⟨dp_nil w0 ao2 c2 hr2.out.nil, saneD_nil⟩, HO.out, by refine Below.setCell (Below.setCell hB2 ?_ _) ?_ _ <;> exact Nat.le_succ _⟩

/-- behind a store of a whole disk into its box -/
theorem after_set {w1 w2 : World} {B : Nat} {u v u' v' : Value} (h1 : w1.cell? ⟨B, 0, none⟩ = some u) (h2 : w1.cell? ⟨B, 1, none⟩ = some v) (h3 : w1.frozen? ⟨B, 0, none⟩ = false) (h4 : w1.frozen? ⟨B, 1, none⟩ = false) (h5 : B < w1.heap.size)
    (hb : Below ((w1.setCell ⟨B, 0, none⟩ u').setCell ⟨B, 1, none⟩ v').heap.size ((w1.setCell ⟨B, 0, none⟩ u').setCell ⟨B, 1, none⟩ v') w2) :
    w2.cell? ⟨B, 0, none⟩ = some u' ∧ w2.cell? ⟨B, 1, none⟩ = some v' ∧ w2.frozen? ⟨B, 0, none⟩ = false ∧ w2.frozen? ⟨B, 1, none⟩ = false ∧ B < w2.heap.size := by
  have hlt : B < ((w1.setCell ⟨B, 0, none⟩ u').setCell ⟨B, 1, none⟩ v').heap.size := by simpa using h5
  have h2' : (w1.setCell ⟨B, 0, none⟩ u').cell? ⟨B, 1, none⟩ = some v := by rw [World.cell?_setCell_other _ _ _ _ (by simp)]; exact h2
  refine ⟨?_, ?_, ?_, ?_, Nat.lt_of_lt_of_le hlt hb.size⟩
  · rw [hb.cell (p := ⟨B, 0, none⟩) hlt, World.cell?_setCell_other _ _ _ _ (by simp)]
    exact World.cell?_setCell_same _ _ _ h1
  · rw [hb.cell (p := ⟨B, 1, none⟩) hlt]
    exact World.cell?_setCell_same _ _ _ h2'
  · rw [hb.frozen (p := ⟨B, 0, none⟩) hlt, World.frozen?_setCell, World.frozen?_setCell]; exact h3
  · rw [hb.frozen (p := ⟨B, 1, none⟩) hlt, World.frozen?_setCell, World.frozen?_setCell]; exact h4
end Go.Proofs.Ytoihponjnhhgbaa
