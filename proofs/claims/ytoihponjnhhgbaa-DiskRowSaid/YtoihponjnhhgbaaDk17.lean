/- Disk: DiskRow: the walk (made by gen_row.py). -/
import Derived.Test.YtoihponjnhhgbaaDk16
namespace Go.Proofs.Ytoihponjnhhgbaa
set_option linter.unusedVariables false
set_option linter.unusedSimpArgs false
open Go.RowKit

theorem put_one {base : List Int} {L : List (Int × List Int)} (h : saneD base L = true) (a : Int) (b : List Int) (hb : b.length = 32) :
    putD base L a b = if a < 0 ∨ (base.length : Int) / 32 - 1 < a ∨ (99999 : Int) < (L.length : Int) then ((base, L), 14) else ((base, L ++ [(a, b)]), 0) := by
  have h2 : secs a b 1 = [(a, b)] := by
    rw [secs_succ]
    simp only [secs, List.range_zero, List.map_nil, List.nil_append, Nat.mul_zero, List.drop_zero, Int.ofNat_zero, Int.add_zero]
    rw [List.take_of_length_le (by omega)]
  unfold putD layD
  rw [own_of h, hb]
  simp only [ne_eq, not_true_eq_false, if_false, Nat.reduceMod, Nat.reduceDiv, Nat.reduceEqDiff, h2]
  rfl
theorem sane_more {base : List Int} {L : List (Int × List Int)} (h : saneD base L = true) (a : Int) (b : List Int) (hb : b.length = 32) : saneD (putD base L a b).1.1 (putD base L a b).1.2 = true := by
  unfold putD
  rw [if_neg (by omega)]
  exact lay_sane h a b

def RowOk (cnt : Int) (k : Int) (j : Nat) : Prop := ∀ i, i < j → 0 ≤ k + (i : Int) ∧ k + (i : Int) < cnt
theorem lay_row {base : List Int} {P : List (Int × List Int)} (h : saneD base P = true) (hn : base.length ≤ 9600) (hm : P.length ≤ 300) (at_ : Int) (b : List Int) (h32 : b.length % 32 = 0) (hl : b.length ≤ 200) (k : Int) (hk : k = max (-1) (min at_ 100000)) :
    (RowOk ((base.length : Int) / 32) k (b.length / 32) → layD base P at_ b = ((base, P ++ secs k b (b.length / 32)), 0)) ∧
    (¬ RowOk ((base.length : Int) / 32) k (b.length / 32) → layD base P at_ b = ((base, P), 14)) := by
  unfold layD RowOk
  rw [own_of h, if_neg (by omega)]
  by_cases h0 : b.length / 32 = 0
  · rw [if_pos h0, h0]
    exact ⟨fun _ => by simp [secs], fun hc => absurd (fun i hi => by omega) hc⟩
  rw [if_neg h0]
  constructor
  · intro hr
    have r1 := hr 0 (by omega)
    have r2 := hr (b.length / 32 - 1) (by omega)
    have hka : k = at_ := by omega
    rw [if_neg (by simp only; omega), hka]
  · intro hc
    rw [if_pos]
    apply Classical.byContradiction
    intro hcc
    apply hc
    intro i hi
    simp only at hcc
    omega
theorem row_step {base bY : List Int} {P LY : List (Int × List Int)} (hs : saneD bY LY = true) (hP : P.length ≤ 300) (K : Int) (data : List Int) (hd : data.length ≤ 200) (j : Nat) (hj : 32 * j + 32 ≤ data.length) (b : Bool)
    (h1 : b = true → bY = base ∧ LY = P ++ secs K data j ∧ RowOk ((base.length : Int) / 32) K j) (h2 : b = false → ¬ RowOk ((base.length : Int) / 32) K (data.length / 32)) :
    ∃ b1 L1 pe, putD bY LY (K + (j : Int)) ((data.drop (32 * j)).take 32) = ((b1, L1), pe) ∧ (pe = 0 ∨ pe = 14) ∧ saneD b1 L1 = true ∧
      ((b && decide (pe = 0)) = true → b1 = base ∧ L1 = P ++ secs K data (j + 1) ∧ RowOk ((base.length : Int) / 32) K (j + 1)) ∧ ((b && decide (pe = 0)) = false → ¬ RowOk ((base.length : Int) / 32) K (data.length / 32)) := by
  have hl : ((data.drop (32 * j)).take 32).length = 32 := by rw [List.length_take, List.length_drop]; omega
  obtain ⟨⟨⟨b1, L1⟩, pe⟩, hPD⟩ : ∃ D, putD bY LY (K + (j : Int)) ((data.drop (32 * j)).take 32) = D := ⟨_, rfl⟩
  have hsm := sane_more hs (K + (j : Int)) _ hl
  rw [hPD] at hsm
  have ho := put_one hs (K + (j : Int)) _ hl
  rw [hPD] at ho
  refine ⟨b1, L1, pe, hPD, ?_, hsm, ?_, ?_⟩
  · split at ho
    · injection ho with _ e; exact .inr e
    · injection ho with _ e; exact .inl e
  · intro hb
    simp only [Bool.and_eq_true, decide_eq_true_eq] at hb
    obtain ⟨hb1, hp0⟩ := hb
    obtain ⟨e1, e2, e3⟩ := h1 hb1
    split at ho
    · injection ho with _ e; omega
    · rename_i hc
      injection ho with e _
      injection e with e4 e5
      refine ⟨e4.trans e1, by rw [e5, e2, secs_succ, List.append_assoc], fun i hi => ?_⟩
      rcases Nat.lt_or_ge i j with h | h
      · exact e3 i h
      · obtain rfl : i = j := by omega
        rw [e1] at hc
        omega
  · intro hb
    cases b with
    | false => exact h2 rfl
    | true =>
      obtain ⟨e1, e2, e3⟩ := h1 rfl
      simp only [Bool.true_and, decide_eq_false_iff_not] at hb
      split at ho
      · rename_i hc
        intro hr
        have := hr j (by omega)
        have hlen : LY.length = P.length + j := by rw [e2, List.length_append, secs, List.length_map, List.length_range]
        rw [e1] at hc
        omega
      · injection ho with _ e; omega
theorem NI.later {w w' : World} {B : Nat} (h : NI w B) (hl : B < w.heap.size) (hb : Below w.heap.size w w') : NI w' B := by
  intro i k z hc
  rw [hb.cell (p := ⟨B, i, none⟩) hl] at hc
  exact h i k z hc

theorem keep5 {w2 w3 : World} {B : Nat} {u v : Value} (h1 : w2.cell? ⟨B, 0, none⟩ = some u) (h2 : w2.cell? ⟨B, 1, none⟩ = some v) (h3 : w2.frozen? ⟨B, 0, none⟩ = false) (h4 : w2.frozen? ⟨B, 1, none⟩ = false) (h5 : B < w2.heap.size) (hb : Below w2.heap.size w2 w3) :
    w3.cell? ⟨B, 0, none⟩ = some u ∧ w3.cell? ⟨B, 1, none⟩ = some v ∧ w3.frozen? ⟨B, 0, none⟩ = false ∧ w3.frozen? ⟨B, 1, none⟩ = false ∧ B < w3.heap.size := by
  refine ⟨?_, ?_, ?_, ?_, Nat.lt_of_lt_of_le h5 hb.size⟩
  · rw [hb.cell (p := ⟨B, 0, none⟩) h5]; exact h1
  · rw [hb.cell (p := ⟨B, 1, none⟩) h5]; exact h2
  · rw [hb.frozen (p := ⟨B, 0, none⟩) h5]; exact h3
  · rw [hb.frozen (p := ⟨B, 1, none⟩) h5]; exact h4
theorem z_set {x w' w7 : World} {By B : Nat} {a0 a1 u v yu yv : Value} {ao : Option Addr} {n c : Nat} {base : List Int} {po : Option Addr} {m pc : Nat} {R : List Rep} (hw : Hid ((w'.setCell ⟨B, 0, none⟩ u).setCell ⟨B, 1, none⟩ v = w7)) (h0 : w'.cell? ⟨B, 0, none⟩ = some a0) (h1 : w'.cell? ⟨B, 1, none⟩ = some a1) (hf0 : w'.frozen? ⟨B, 0, none⟩ = false) (hf1 : w'.frozen? ⟨B, 1, none⟩ = false) (hl : B < w'.heap.size)
    (hne : B ≠ By) (hxB : x.heap.size ≤ B) (hb : Below x.heap.size x w') (hy : w'.cell? ⟨By, 0, none⟩ = some yu ∧ w'.cell? ⟨By, 1, none⟩ = some yv ∧ w'.frozen? ⟨By, 0, none⟩ = false ∧ w'.frozen? ⟨By, 1, none⟩ = false ∧ By < w'.heap.size) (hni : NI w' By) (hnB : NI w' B) (hu : ∀ k z, u ≠ .int k z) (hd : DP w' ao n c base po m pc R) :
    w7.cell? ⟨B, 0, none⟩ = some u ∧ w7.cell? ⟨B, 1, none⟩ = some v ∧ (w7.cell? ⟨By, 0, none⟩ = some yu ∧ w7.cell? ⟨By, 1, none⟩ = some yv ∧ w7.frozen? ⟨By, 0, none⟩ = false ∧ w7.frozen? ⟨By, 1, none⟩ = false ∧ By < w7.heap.size) ∧ NI w7 By ∧ DP w7 ao n c base po m pc R ∧ Below x.heap.size x w7 ∧ B < w7.heap.size := by
  obtain ⟨y1, y2, y3, y4, y5⟩ := hy
  have hs := set_size hw
  obtain ⟨s1, s2, _⟩ := set_same hw h0 h1 hf0 hf1
  refine ⟨s1, s2, ⟨(set_far hw By hne 0).1.trans y1, (set_far hw By hne 1).1.trans y2, (set_far hw By hne 0).2.trans y3, (set_far hw By hne 1).2.trans y4, by omega⟩, fun i k z hc => hni i k z ((set_far hw By hne i).1.symm.trans hc), ?_, ?_, by omega⟩
  · rw [← hw.out]; exact hd.far2 hnB h0 hu
  · rw [← hw.out]; exact (hb.setCell hxB _).setCell hxB _
theorem lone_small {w : World} {ao : Option Addr} {n c : Nat} {B : List Int} {po : Option Addr} {m pc : Nat} {R : List Rep} (h : DP w ao n c B po m pc R) (hs : saneD B [] = true) : n ≤ 131072 := by
  have h1 := h.row.len8
  have h2 := (saneD_parts hs).2.1
  omega
theorem row_held {w3 w4 w5 w6 x : World} {By : Nat} {o1 o2 x1 x2 y1 y2 s1 s2 c1 c2 : Value} {T1 T2 T3 T4 : TypeId} (ho : Below (w3.alloc (.cells #[o1, o2] T1)).heap.size (w3.alloc (.cells #[o1, o2] T1)) w6) (hx : Below (w4.alloc (.cells #[x1, x2] T2)).heap.size (w4.alloc (.cells #[x1, x2] T2)) w6) (hs : Below (w5.alloc (.cells #[s1, s2] T3)).heap.size (w5.alloc (.cells #[s1, s2] T3)) w6)
    (hy1 : w6.cell? ⟨By, 0, none⟩ = some y1) (hy2 : w6.cell? ⟨By, 1, none⟩ = some y2) (hl : By < w6.heap.size) (hc : Below (w6.alloc (.cells #[c1, c2] T4)).heap.size (w6.alloc (.cells #[c1, c2] T4)) x) :
    x.cell? ⟨w3.heap.size, 0, none⟩ = some o1 ∧ x.cell? ⟨w3.heap.size, 1, none⟩ = some o2 ∧ x.cell? ⟨w4.heap.size, 0, none⟩ = some x1 ∧ x.cell? ⟨w4.heap.size, 1, none⟩ = some x2 ∧ x.cell? ⟨By, 0, none⟩ = some y1 ∧ x.cell? ⟨By, 1, none⟩ = some y2 ∧ x.cell? ⟨w5.heap.size, 0, none⟩ = some s1 ∧ x.cell? ⟨w5.heap.size, 1, none⟩ = some s2 ∧ x.cell? ⟨w6.heap.size, 0, none⟩ = some c1 ∧ x.cell? ⟨w6.heap.size, 1, none⟩ = some c2 := by
  have h6 := bl_then (below_alloc w6 (.cells #[c1, c2] T4)) hc
  obtain ⟨a1, a2, _⟩ := box2 (bl_then ho h6)
  obtain ⟨a3, a4, _⟩ := box2 (bl_then hx h6)
  obtain ⟨a5, a6, _⟩ := box2 (bl_then hs h6)
  obtain ⟨a7, a8, _⟩ := box2 hc
  refine ⟨a1, a2, a3, a4, ?_, ?_, a5, a6, a7, a8⟩
  · rw [h6.cell (p := ⟨By, 0, none⟩) hl]; exact hy1
  · rw [h6.cell (p := ⟨By, 1, none⟩) hl]; exact hy2
def RowRel (x : World) (By : Nat) (base : List Int) (P : List (Int × List Int)) (data : List Int) (K : Int) (qn : Nat) (ok i : Value) (wr : World) : Prop :=
  ∃ (j : Nat) (b : Bool) (ay : Option Addr) (ny cy : Nat) (bY : List Int) (py : Option Addr) (my pcy : Nat) (RY : List Rep),
    32 * j ≤ qn ∧ i = .int .i64 (32 * (j : Int)) ∧ ok = .bool b ∧ Below x.heap.size x wr ∧ wr.cell? ⟨By, 0, none⟩ = some (.slice ay ny cy) ∧ wr.cell? ⟨By, 1, none⟩ = some (.slice py my pcy) ∧
    wr.frozen? ⟨By, 0, none⟩ = false ∧ wr.frozen? ⟨By, 1, none⟩ = false ∧ By < wr.heap.size ∧ NI wr By ∧ DP wr ay ny cy bY py my pcy RY ∧ saneD bY (RY.map Rep.plain) = true ∧
    (b = true → bY = base ∧ RY.map Rep.plain = P ++ secs K data j ∧ RowOk ((base.length : Int) / 32) K j) ∧ (b = false → ¬ RowOk ((base.length : Int) / 32) K (data.length / 32))

theorem row_rel {x w7 : World} {By : Nat} {base : List Int} {P : List (Int × List Int)} {data : List Int} {Kq : Int} {qn j : Nat} {b b' : Bool} {pe z : Int} {b1 : List Int} {L1 : List (Int × List Int)} {yu yv : Value} {ao : Option Addr} {n c : Nat} {b6 : List Int} {po : Option Addr} {m pc : Nat} {R6 : List Rep}
    (hz : z = 32 * ((j + 1 : Nat) : Int)) (hj : 32 * (j + 1) ≤ qn) (hxB : x.heap.size ≤ By) (hb : Below x.heap.size x w7) (hy : w7.cell? ⟨By, 0, none⟩ = some yu ∧ w7.cell? ⟨By, 1, none⟩ = some yv ∧ w7.frozen? ⟨By, 0, none⟩ = false ∧ w7.frozen? ⟨By, 1, none⟩ = false ∧ By < w7.heap.size) (hni : NI w7 By) (hd : DP w7 ao n c b6 po m pc R6)
    (heq : (b6, R6.map Rep.plain) = ((b1, L1), pe).1) (hs : saneD b1 L1 = true) (hbb : (b && decide (pe = 0)) = b') (h1 : (b && decide (pe = 0)) = true → b1 = base ∧ L1 = P ++ secs Kq data (j + 1) ∧ RowOk ((base.length : Int) / 32) Kq (j + 1)) (h2 : (b && decide (pe = 0)) = false → ¬ RowOk ((base.length : Int) / 32) Kq (data.length / 32)) :
    RowRel x By base P data Kq qn (.bool b') (.int .i64 z) ((w7.setCell ⟨By, 0, none⟩ (.slice ao n c)).setCell ⟨By, 1, none⟩ (.slice po m pc)) := by
  obtain ⟨w8, hw8⟩ := set_name w7 By (.slice ao n c) (.slice po m pc)
  obtain ⟨y1, y2, y3, y4, y5⟩ := hy
  obtain ⟨s1, s2, s3, s4⟩ := set_same hw8 y1 y2 y3 y4
  have hsz := set_size hw8
  injection heq with e1 e2
  subst e1
  rw [hbb] at h1 h2
  refine ⟨j + 1, b', ao, n, c, b6, po, m, pc, R6, hj, by rw [hz], rfl, (hb.setCell hxB _).setCell hxB _, ?_, ?_, ?_, ?_, ?_, ?_, hd.far2 hni y1 (fun k z h => by cases h), by rw [e2]; exact hs, fun h => by rw [e2]; exact h1 h, h2⟩
  · rw [hw8.out]; exact s1
  · rw [hw8.out]; exact s2
  · rw [hw8.out]; exact s3
  · rw [hw8.out]; exact s4
  · rw [hw8.out]; omega
  · exact (hni.set y1 (fun k z h => by cases h)).set (by rw [World.cell?_setCell_other _ _ _ _ (by simp)]; exact y2) (fun k z h => by cases h)

set_option maxHeartbeats 2000000 in
theorem row_walk (ao : Option Addr) (n c : Nat) (base : List Int) (po : Option Addr) (m pc : Nat) (R : List Rep) (at_ : Int) (qo : Option Addr) (qn qc : Nat) (data : List Int) (lo : Option Addr) (ln lc : Nat) (plan : List Int) (w : World) (h : DP w ao n c base po m pc R) (hq : Row w qo qn qc 1 (b8 data)) (hl : Row w lo ln lc 1 (b8 plan)) (hp : ∀ x ∈ plan, 0 ≤ x ∧ x < 256)
    (hat : -9223372036854775808 ≤ at_ ∧ at_ ≤ 9223372036854775807) :
    Calls Try.prog 7 #[.agg #[.slice ao n c, .slice po m pc], .int .i64 at_, .slice qo qn qc, .slice lo ln lc] w fun e w' => e = .returned (.bool true) ∧ Below w.heap.size w w' := by
  have H := Lib.hid h
  have HQ := Lib.hid hq
  have HPL := Lib.hid hl
  have HP := Lib.hid hp
  have hFew := Lib.hid (few_any ao n c po m pc)
  have hqle := hq.le
  have HQL := Lib.hid hq.len8
  clear h hq hp hl
  by_cases hf : ¬ (n ≤ 9600 ∧ m ≤ 300)
  · have hd := Lib.hid (show (decide (n ≤ 9600) && decide (m ≤ 300)) = false by simp; omega)
    go_enter Try.func7, Try.ntmps7
    go_wp2_with (first | (go_at_call 9; refine (awake_any _).mono ?_; rintro e w1 ⟨rfl, hbx⟩; obtain ⟨hx1, hx2, _, _, _⟩ := box2 hbx) | (go_at_call 10; (with_reducible refine (hFew.out _).mono ?_); rintro e w2 ⟨rfl, hb2⟩; rw [hd.out]; replace hbx := bl_then hbx hb2; clear hb2 hx1 hx2; obtain ⟨hx1, hx2, _, _, _⟩ := box2 hbx))
    go_ret
    exact ⟨rfl, bl_then (below_alloc _ _) hbx⟩
  have hd := Lib.hid (show (decide (n ≤ 9600) && decide (m ≤ 300)) = true by simp; omega)
  have hn1 : n ≤ 9600 := by omega
  have hm1 : m ≤ 300 := by omega
  clear hf
  by_cases h200 : (200 : Int) < (qn : Int)
  · go_enter Try.func7, Try.ntmps7
    go_wp2_with (first | (go_at_call 9; refine (awake_any _).mono ?_; rintro e w1 ⟨rfl, hbx⟩; obtain ⟨hx1, hx2, _, _, _⟩ := box2 hbx) | (go_at_call 10; (with_reducible refine (hFew.out _).mono ?_); rintro e w2 ⟨rfl, hb2⟩; rw [hd.out]; replace hbx := bl_then hbx hb2; clear hb2 hx1 hx2; obtain ⟨hx1, hx2, _, _, _⟩ := box2 hbx))
    go_ret
    exact ⟨rfl, bl_then (below_alloc _ _) hbx⟩
  have h200' : (qn : Int) ≤ 200 := by omega
  by_cases h400 : (400 : Int) < (ln : Int)
  · go_enter Try.func7, Try.ntmps7
    go_wp2_with (first | (go_at_call 9; refine (awake_any _).mono ?_; rintro e w1 ⟨rfl, hbx⟩; obtain ⟨hx1, hx2, _, _, _⟩ := box2 hbx) | (go_at_call 10; (with_reducible refine (hFew.out _).mono ?_); rintro e w2 ⟨rfl, hb2⟩; rw [hd.out]; replace hbx := bl_then hbx hb2; clear hb2 hx1 hx2; obtain ⟨hx1, hx2, _, _, _⟩ := box2 hbx))
    go_ret
    exact ⟨rfl, bl_then (below_alloc _ _) hbx⟩
  have h400' : (ln : Int) ≤ 400 := by omega
  by_cases h32 : ¬ (qn : Int) % 32 = 0
  · go_enter Try.func7, Try.ntmps7
    go_wp2_with (first | (go_at_call 9; refine (awake_any _).mono ?_; rintro e w1 ⟨rfl, hbx⟩; obtain ⟨hx1, hx2, _, _, _⟩ := box2 hbx) | (go_at_call 10; (with_reducible refine (hFew.out _).mono ?_); rintro e w2 ⟨rfl, hb2⟩; rw [hd.out]; replace hbx := bl_then hbx hb2; clear hb2 hx1 hx2; obtain ⟨hx1, hx2, _, _, _⟩ := box2 hbx))
    go_ret
    exact ⟨rfl, bl_then (below_alloc _ _) hbx⟩
  have h32' : (qn : Int) % 32 = 0 := by omega
  by_cases hsane : ¬ saneD base (R.map Rep.plain) = true
  · have hsn := Lib.hid (show saneD base (R.map Rep.plain) = false by simpa using hsane)
    clear hsane
    go_enter Try.func7, Try.ntmps7
    go_wp2_with (first | (go_at_call 9; refine (awake_any _).mono ?_; rintro e w1 ⟨rfl, hbx⟩; obtain ⟨hx1, hx2, _, _, _⟩ := box2 hbx) | (go_at_call 10; (with_reducible refine (hFew.out _).mono ?_); rintro e w2 ⟨rfl, hb2⟩; rw [hd.out]; replace hbx := bl_then hbx hb2; clear hb2 hx1 hx2; obtain ⟨hx1, hx2, _, _, _⟩ := box2 hbx) | (go_at_call 11; (with_reducible refine (drive_any ao n c base po m pc R _ (H.out.later (bl_then (below_alloc _ _) hbx)) (by omega)).mono ?_); rintro e w3 ⟨po1, pc1, rfl, hdp1, hb3⟩; replace hbx := bl_then hbx hb3; clear hb3 hx1 hx2; obtain ⟨hx1, hx2, _, _, _⟩ := box2 hbx; replace hdp1 := Lib.hid hdp1) | (go_at_call 20; (with_reducible refine (sane_any ao n c base po1 m pc1 R _ hdp1.out (by omega) (by omega)).mono ?_); rintro e wS ⟨rfl, hb4⟩; rw [hsn.out]; replace hbx := bl_then hbx hb4; clear hb4 hx1 hx2; obtain ⟨hx1, hx2, _, _, _⟩ := box2 hbx))
    go_ret
    exact ⟨rfl, bl_then (below_alloc _ _) hbx⟩
  have hsn := Lib.hid (show saneD base (R.map Rep.plain) = true by simpa using hsane)
  clear hsane
  obtain ⟨LBp, eL, hLB⟩ : ∃ LBp eL, layD base (R.map Rep.plain) at_ data = (LBp, eL) := ⟨_, _, rfl⟩
  have HLY := Lib.hid hLB
  have HS1 := Lib.hid (show LBp.1.length ≤ 131072 ∧ LBp.2.length ≤ 100000 by have := saneD_parts (lay_sane hsn.out at_ data); rw [hLB] at this; dsimp only at this; omega)
  clear hLB
  obtain ⟨M1, hM1⟩ : ∃ M1, (if (100000 : Int) < at_ then (100000 : Int) else at_) = M1 := ⟨_, rfl⟩
  obtain ⟨Kq, hK⟩ : ∃ Kq, (if (-1 : Int) < M1 then M1 else (-1 : Int)) = Kq := ⟨_, rfl⟩
  have hKr : -1 ≤ Kq ∧ Kq ≤ 100000 := by omega
  have HK := Lib.hid (show Kq = max (-1) (min at_ 100000) by omega)
  go_enter Try.func7, Try.ntmps7
  go_wp2_with (first | (go_at_call 9; refine (awake_any _).mono ?_; rintro e w1 ⟨rfl, hbx⟩; obtain ⟨hx1, hx2, _, _, _⟩ := box2 hbx) | (go_at_call 10; (with_reducible refine (hFew.out _).mono ?_); rintro e w2 ⟨rfl, hb2⟩; rw [hd.out]; replace hbx := bl_then hbx hb2; clear hb2 hx1 hx2; obtain ⟨hx1, hx2, _, _, _⟩ := box2 hbx) | (go_at_call 11; (with_reducible refine (drive_any ao n c base po m pc R _ (H.out.later (bl_then (below_alloc _ _) hbx)) (by omega)).mono ?_); rintro e w3 ⟨po1, pc1, rfl, hdp1, hb3⟩; replace hbx := bl_then hbx hb3; clear hb3 hx1 hx2; obtain ⟨hx1, hx2, _, _, _⟩ := box2 hbx; replace hdp1 := Lib.hid hdp1) | (go_at_call 20; (with_reducible refine (sane_any ao n c base po1 m pc1 R _ hdp1.out (by omega) (by omega)).mono ?_); rintro e wS ⟨rfl, hb4⟩; rw [hsn.out]; replace hbx := bl_then hbx hb4; clear hb4 hx1 hx2; obtain ⟨hx1, hx2, _, _, _⟩ := box2 hbx) | (go_at_call 16; (with_reducible refine (lay_any ao n c base po1 m pc1 R at_ _ qn qc data _ (hdp1.out.later (below_alloc _ _)) (HQ.out.later (bl_then (below_alloc _ _) (bl_then hbx (below_alloc _ _)))) (by omega) (by omega) (by omega) hat).mono ?_); rintro e w4 ⟨ao4, n4, c4, base4, po4, m4, pc4, R4, rfl, hdp4, heq4, hb4⟩; rw [HLY.out]; have hbo := hb4; replace hb4 := bl_then (below_alloc _ _) hb4; replace hbx := bl_then hbx hb4; clear hb4 hx1 hx2; obtain ⟨hx1, hx2, _, _, _⟩ := box2 hbx; obtain ⟨hn4, hm4⟩ := more_small hdp4 heq4 HLY.out (HS1.out); obtain ⟨ho1, ho2, _, _, _⟩ := box2 (bl_then hbo (below_alloc w4 (.cells #[.slice ao4 n4 c4, .slice po4 m4 pc4] 30))); replace hdp4 := Lib.hid hdp4; replace heq4 := Lib.hid heq4))
  have hBYs : w4.heap.size + 1 = (w4.alloc (.cells #[.slice ao4 n4 c4, .slice po4 m4 pc4] 30)).heap.size := by simp
  obtain ⟨By, hBy⟩ : ∃ By, w4.heap.size + 1 = By := ⟨_, rfl⟩
  rw [hBy] at hBYs ⊢
  have hnw : By ≠ w4.heap.size := by omega
  clear hBy
  have HX := Lib.hid hbx
  have HO := Lib.hid hbo
  have HYS := Lib.hid hBYs
  have HKR := Lib.hid hKr
  clear hbx hbo hx1 hx2 ho1 ho2 hBYs hM1 hK hKr
  go_loopw [14, 16] (fun ok i wr => RowRel (w4.alloc (.cells #[.slice ao4 n4 c4, .slice po4 m4 pc4] 30)) By base (R.map Rep.plain) data Kq qn ok i wr) (fun _ i _ => qn - (intOf i).toNat)
  case atStart =>
    have hb0 := box2 (Below.refl ((w4.alloc (.cells #[.slice ao4 n4 c4, .slice po4 m4 pc4] 30)).alloc (.cells #[.slice ao n c, .slice po1 m pc1] 30)).heap.size ((w4.alloc (.cells #[.slice ao4 n4 c4, .slice po4 m4 pc4] 30)).alloc (.cells #[.slice ao n c, .slice po1 m pc1] 30)))
    rw [← HYS.out] at hb0
    obtain ⟨k1, k2, k3, k4, k5⟩ := hb0
    refine ⟨0, true, _, _, _, base, _, _, _, R, by omega, rfl, rfl, below_alloc _ _, k1, k2, k3, k4, k5, ?_, hdp1.out.later (bl_then (below_alloc _ _) (bl_then HO.out (bl_then (below_alloc _ _) (below_alloc _ _)))), hsn.out, fun _ => ⟨rfl, by simp [secs], fun i hi => by omega⟩, fun h => by cases h⟩
    rw [HYS.out]
    exact ni_box (fun k z h => by cases h) (fun k z h => by cases h) (Below.refl _ _)
  case round =>
    obtain ⟨j, b, ay, ny, cy, bY, py, my, pcy, RY, hj, rfl, rfl, hbw, hy1, hy2, hy3, hy4, hy5, hni, hdy, hsy, hr1, hr2⟩ := hrel
    have HNI := Lib.hid hni
    have HDY := Lib.hid hdy
    have HSY := Lib.hid (⟨hsy, hdy.row.len8, hdy.pend.lenw, saneD_parts hsy⟩ : saneD bY (RY.map Rep.plain) = true ∧ ny = bY.length ∧ my = RY.length ∧ _)
    have HR1 := Lib.hid hr1
    have HR2 := Lib.hid hr2
    clear hni hdy hsy hr1 hr2
    by_cases hlt : 32 * (j : Int) + 32 ≤ (qn : Int)
    · have HJ := Lib.hid hj
      cases qo with
      | none => have := HQ.out.nil rfl; omega
      | some ad =>
      obtain ⟨qb, qf, qs⟩ := ad
      have hdl := HQL.out
      obtain rfl : qs = none := (HQ.out.cells _ rfl 0 (.int .u8 (data.getD 0 0)) (by rw [b8, List.getElem?_map]; simp [List.getD_eq_getElem?_getD, List.getElem?_eq_getElem (show 0 < data.length by omega)])).1
      obtain ⟨b1, L1, pe, hPD, hpe, hs1, hr1, hr2⟩ := row_step HSY.out.1 (by rw [List.length_map, ← H.out.pend.lenw]; omega) Kq data (by omega) j (by omega) b HR1.out HR2.out
      obtain ⟨PC, hPC⟩ : ∃ PC, (data.drop (32 * j)).take 32 = PC := ⟨_, rfl⟩
      have HPR := Lib.hid (show Row w (some ⟨qb, qf + 32 * j, none⟩) 32 (qc - 32 * j) 1 (b8 PC) by
        have := (HQ.out.drop (32 * j) (by omega)).pre 32 (by omega)
        rw [b8_drop, Nat.mul_one, b8_take, hPC] at this
        exact this)
      rw [hPC] at hPD
      have HPD := Lib.hid hPD
      have HS1 := Lib.hid hs1
      have HR3 := Lib.hid hr1
      have HR4 := Lib.hid hr2
      have HKB := HKR.out
      have hsz : ny ≤ 1000000 ∧ my ≤ 1000000 := by
        obtain ⟨_, q1, q2, q3, q4, q5, _⟩ := HSY.out
        rw [List.length_map] at q5
        omega
      have HSZ := Lib.hid hsz
      have ht3 : 32 * (j : Int) + 32 ≤ (qc : Int) := by omega
      have ht4 : 32 * (j : Int) < (qc : Int) := by omega
      have ht5 : (j : Int) ≤ 10 := by omega
      have ht6 : 0 ≤ (j : Int) := by omega
      have ht7 : 32 * (j : Int) / 32 = (j : Int) := by omega
      have hw3 : IntKind.i64.wrap (32 * (j : Int) + 32) = 32 * (j : Int) + 32 := wsm _ (by omega) (by omega)
      have hwj : IntKind.i64.wrap (j : Int) = (j : Int) := wsm _ (by omega) (by omega)
      have hwK : IntKind.i64.wrap (Kq + (j : Int)) = Kq + (j : Int) := wsm _ (by omega) (by omega)
      have hw4 : max (32 * (j : Int) + 32) 0 = 32 * (j : Int) + 32 := by omega
      have hw5 : (32 * (j : Int)).toNat = 32 * j := by omega
      have hw6 : (32 * (j : Int) + 32).toNat = 32 * j + 32 := by omega
      have hw7 : 32 * j + 32 - 32 * j = 32 := by omega
      have hw8 : ¬ qc = 32 * j := by omega
      have hw9 : 32 * (j : Int) ≤ 32 * (j : Int) + 32 := by omega
      have hw10 : 0 ≤ 32 * (j : Int) + 32 := by omega
      have hw11 : 0 ≤ 32 * (j : Int) := by omega
      clear hPD hs1 hr1 hr2 hPC hsz hdl HR1 HR2
      rcases hpe with rfl | rfl <;> cases b
      · skip
        go_wp2
        refine wp_fork (fun x => x.cell? ⟨By, 0, none⟩ = some (.slice ay ny cy) ∧ x.cell? ⟨By, 1, none⟩ = some (.slice py my pcy)) [10, 14, 15] (nodes [0, 1, 2, 3, 4, 5, 6, 7, 8, 9] (.fork 10 14 (nodes [11, 12, 13, 14, 15, 16] .leaf) (nodes [10, 11, 12, 13, 15, 16] .leaf))) (by kernel_rfl) (by kernel_rfl) ⟨hy1, hy2⟩ (fun hHeld => ?_)
        iterate 10 (refine wpF_take rfl (by rfl) (by rfl) (by intro w' hSw; (try dsimp only [Mem, cellsAt] at hSw); go_simp; (try with_reducible rfl)) (by assumption) ?_; (try simp only [Act.put, List.setIfInBounds_toArray, List.set_cons_zero, List.set_cons_succ]))
        (refine wpF_fork rfl rfl (fun K hK => ?_) (fun K hK => ?_) <;> go_simp)
        · refine (put_any ay ny cy bY py my pcy RY _ _ 32 _ PC _ (HDY.out.later (Below.refl _ _).drew) (HPR.out.later (bl_then (below_alloc _ _) (bl_then HX.out (bl_then (below_alloc _ _) hbw.drew)))) (by have := HSZ.out; omega) (by have := HSZ.out; omega) (by omega) (by omega)).mono ?_
          rintro e w6 ⟨a6, n6, c6, b6, p6, m6, pc6, R6, rfl, hdp6, heq6, hb6⟩
          rw [HPD.out] at heq6 ⊢
          have hb6' : Below wr.heap.size wr w6 := bl_then (Below.refl _ _).drew hb6
          have hz := keep5 hy1 hy2 hy3 hy4 hy5 hb6'
          (refine hK.out _ _ _ (fun _ h => h) (⟨hz.1, hz.2.1⟩) (fun hHeld => ?_); clear hK; clear K; (try simp only [Act.put, List.setIfInBounds_toArray, List.set_cons_zero, List.set_cons_succ]))
          iterate 3 (refine wpF_take rfl (by rfl) (by rfl) (by intro w' hSw; (try dsimp only [Mem, cellsAt] at hSw); go_simp; (try with_reducible rfl)) (by assumption) ?_; (try simp only [Act.put, List.setIfInBounds_toArray, List.set_cons_zero, List.set_cons_succ]))
          (refine wpF_step rfl (by rfl) (fun K hK => ?_); go_simp)
          have hz' := keep5 hz.1 hz.2.1 hz.2.2.1 hz.2.2.2.1 hz.2.2.2.2 (below_alloc w6 (.cells #[.slice none 0 0, .slice none 0 0] 30))
          (refine hK.out _ _ _ (fun _ h => h) (⟨hz'.1, hz'.2.1⟩) (fun hHeld => ?_); clear hK; clear K; (try simp only [Act.put, List.setIfInBounds_toArray, List.set_cons_zero, List.set_cons_succ]))
          (refine wpF_step rfl (by rfl) (fun K hK => ?_); go_simp)
          have bx := box2 (Below.refl (w6.alloc (.cells #[.slice a6 n6 c6, .slice p6 m6 pc6] 30)).heap.size (w6.alloc (.cells #[.slice a6 n6 c6, .slice p6 m6 pc6] 30)))
          have zp := And.intro bx.1 (And.intro bx.2.1 (And.intro (keep5 hz.1 hz.2.1 hz.2.2.1 hz.2.2.2.1 hz.2.2.2.2 (below_alloc w6 (.cells #[.slice a6 n6 c6, .slice p6 m6 pc6] 30))) (And.intro (HNI.out.later hy5 (bl_then hb6' (below_alloc w6 (.cells #[.slice a6 n6 c6, .slice p6 m6 pc6] 30)))) (And.intro (hdp6.later (below_alloc w6 (.cells #[.slice a6 n6 c6, .slice p6 m6 pc6] 30))) (And.intro (bl_then (bl_then hbw hb6') (below_alloc w6 (.cells #[.slice a6 n6 c6, .slice p6 m6 pc6] 30))) (Nat.lt_of_lt_of_le hy5 (Nat.le_refl _)))))))
          obtain ⟨w7, hw7⟩ : ∃ w7, w6.alloc (.cells #[.slice a6 n6 c6, .slice p6 m6 pc6] 30) = w7 := ⟨_, rfl⟩
          rw [hw7] at zp ⊢
          obtain ⟨Bz, hBz⟩ : ∃ Bz, w6.heap.size = Bz := ⟨_, rfl⟩
          have hneB := Lib.hid (show Bz ≠ By by have := hz.2.2.2.2; omega)
          rw [hBz] at zp ⊢
          obtain ⟨z1, z2, hyp, hni7, hd7, hb7, hl7⟩ := zp
          (refine hK.out _ _ _ (fun _ h => h) (⟨hyp.1, hyp.2.1⟩) (fun hHeld => ?_); clear hK; clear K; (try simp only [Act.put, List.setIfInBounds_toArray, List.set_cons_zero, List.set_cons_succ]))
          iterate 1 (refine wpF_take rfl (by rfl) (by rfl) (by intro w' hSw; (try dsimp only [Mem, cellsAt] at hSw); go_simp; (try with_reducible rfl)) (by assumption) ?_; (try simp only [Act.put, List.setIfInBounds_toArray, List.set_cons_zero, List.set_cons_succ]))
          (refine wpF_nil ?_)
          obtain ⟨y1, y2, y3, y4, y5⟩ := hyp
          have HD7 := Lib.hid hd7
          have HN7 := Lib.hid hni7
          have hyne : Bz ≠ By := hneB.out
          clear hy1 hy2 hy3 hy4 hy5 hd7 hni7
          go_wp2
          go_roundw
          case rel =>
            exact row_rel (b := false) (by omega) (by omega) (by rw [HYS.out]; exact Nat.le_refl _) hb7 ⟨y1, y2, y3, y4, y5⟩ HN7.out HD7.out heq6 HS1.out rfl HR3.out HR4.out
          case measure => simp [intOf]; omega
        · have hz := keep5 hy1 hy2 hy3 hy4 hy5 (below_alloc wr (.cells #[.slice none 0 0, .slice none 0 0] 30)).drew
          (refine hK.out _ _ _ (fun _ h => h) (⟨hz.1, hz.2.1⟩) (fun hHeld => ?_); clear hK; clear K; (try simp only [Act.put, List.setIfInBounds_toArray, List.set_cons_zero, List.set_cons_succ]))
          (refine wpF_step rfl (by rfl) (fun K hK => ?_); go_simp)
          refine (put_any ay ny cy bY py my pcy RY _ _ 32 _ PC _ (HDY.out.later (below_alloc wr (.cells #[.slice none 0 0, .slice none 0 0] 30)).drew) (HPR.out.later (bl_then (below_alloc _ _) (bl_then HX.out (bl_then (below_alloc _ _) (bl_then hbw (below_alloc wr (.cells #[.slice none 0 0, .slice none 0 0] 30)).drew))))) (by have := HSZ.out; omega) (by have := HSZ.out; omega) (by omega) (by omega)).mono ?_
          rintro e w6 ⟨a6, n6, c6, b6, p6, m6, pc6, R6, rfl, hdp6, heq6, hb6⟩
          rw [HPD.out] at heq6 ⊢
          have hb6' : Below wr.heap.size wr w6 := bl_then (below_alloc wr (.cells #[.slice none 0 0, .slice none 0 0] 30)).drew hb6
          have hz' := keep5 hy1 hy2 hy3 hy4 hy5 hb6'
          (refine hK.out _ _ _ (fun _ h => h) (⟨hz'.1, hz'.2.1⟩) (fun hHeld => ?_); clear hK; clear K; (try simp only [Act.put, List.setIfInBounds_toArray, List.set_cons_zero, List.set_cons_succ]))
          iterate 3 (refine wpF_take rfl (by rfl) (by rfl) (by intro w' hSw; (try dsimp only [Mem, cellsAt] at hSw); go_simp; (try with_reducible rfl)) (by assumption) ?_; (try simp only [Act.put, List.setIfInBounds_toArray, List.set_cons_zero, List.set_cons_succ]))
          have bx := box2 (bl_then (Below.refl (wr.alloc (.cells #[.slice none 0 0, .slice none 0 0] 30)).heap.size (wr.alloc (.cells #[.slice none 0 0, .slice none 0 0] 30))).drew hb6)
          have bx1 := bx.1
          have bx2 := bx.2.1
          have bx3 := bx.2.2.1
          have bx4 := bx.2.2.2.1
          have bx5 := bx.2.2.2.2
          (refine wpF_step rfl (by rfl) (fun K hK => ?_); go_simp)
          obtain ⟨w7, hw7⟩ := set_name w6 wr.heap.size (.slice a6 n6 c6) (.slice p6 m6 pc6)
          rw [hw7.out]
          have zp := z_set hw7 bx1 bx2 bx3 bx4 bx5 (show wr.heap.size ≠ By by omega) hbw.size (bl_then hbw hb6') hz' (HNI.out.later hy5 hb6') (ni_box (fun k z h => by cases h) (fun k z h => by cases h) (bl_then (Below.refl _ _).drew hb6)) (fun k z h => by cases h) hdp6
          obtain ⟨Bz, hBz⟩ : ∃ Bz, wr.heap.size = Bz := ⟨_, rfl⟩
          have hneB := Lib.hid (show Bz ≠ By by omega)
          rw [hBz] at zp ⊢
          obtain ⟨z1, z2, hyp, hni7, hd7, hb7, hl7⟩ := zp
          (refine hK.out _ _ _ (fun _ h => h) (⟨hyp.1, hyp.2.1⟩) (fun hHeld => ?_); clear hK; clear K; (try simp only [Act.put, List.setIfInBounds_toArray, List.set_cons_zero, List.set_cons_succ]))
          iterate 1 (refine wpF_take rfl (by rfl) (by rfl) (by intro w' hSw; (try dsimp only [Mem, cellsAt] at hSw); go_simp; (try with_reducible rfl)) (by assumption) ?_; (try simp only [Act.put, List.setIfInBounds_toArray, List.set_cons_zero, List.set_cons_succ]))
          (refine wpF_nil ?_)
          obtain ⟨y1, y2, y3, y4, y5⟩ := hyp
          have HD7 := Lib.hid hd7
          have HN7 := Lib.hid hni7
          have hyne : Bz ≠ By := hneB.out
          clear hy1 hy2 hy3 hy4 hy5 hd7 hni7
          go_wp2
          go_roundw
          case rel =>
            exact row_rel (b := false) (by omega) (by omega) (by rw [HYS.out]; exact Nat.le_refl _) hb7 ⟨y1, y2, y3, y4, y5⟩ HN7.out HD7.out heq6 HS1.out rfl HR3.out HR4.out
          case measure => simp [intOf]; omega
      · skip
        go_wp2
        refine wp_fork (fun x => x.cell? ⟨By, 0, none⟩ = some (.slice ay ny cy) ∧ x.cell? ⟨By, 1, none⟩ = some (.slice py my pcy)) [10, 14, 15] (nodes [0, 1, 2, 3, 4, 5, 6, 7, 8, 9] (.fork 10 14 (nodes [11, 12, 13, 14, 15, 16] .leaf) (nodes [10, 11, 12, 13, 15, 16] .leaf))) (by kernel_rfl) (by kernel_rfl) ⟨hy1, hy2⟩ (fun hHeld => ?_)
        iterate 10 (refine wpF_take rfl (by rfl) (by rfl) (by intro w' hSw; (try dsimp only [Mem, cellsAt] at hSw); go_simp; (try with_reducible rfl)) (by assumption) ?_; (try simp only [Act.put, List.setIfInBounds_toArray, List.set_cons_zero, List.set_cons_succ]))
        (refine wpF_fork rfl rfl (fun K hK => ?_) (fun K hK => ?_) <;> go_simp)
        · refine (put_any ay ny cy bY py my pcy RY _ _ 32 _ PC _ (HDY.out.later (Below.refl _ _).drew) (HPR.out.later (bl_then (below_alloc _ _) (bl_then HX.out (bl_then (below_alloc _ _) hbw.drew)))) (by have := HSZ.out; omega) (by have := HSZ.out; omega) (by omega) (by omega)).mono ?_
          rintro e w6 ⟨a6, n6, c6, b6, p6, m6, pc6, R6, rfl, hdp6, heq6, hb6⟩
          rw [HPD.out] at heq6 ⊢
          have hb6' : Below wr.heap.size wr w6 := bl_then (Below.refl _ _).drew hb6
          have hz := keep5 hy1 hy2 hy3 hy4 hy5 hb6'
          (refine hK.out _ _ _ (fun _ h => h) (⟨hz.1, hz.2.1⟩) (fun hHeld => ?_); clear hK; clear K; (try simp only [Act.put, List.setIfInBounds_toArray, List.set_cons_zero, List.set_cons_succ]))
          iterate 3 (refine wpF_take rfl (by rfl) (by rfl) (by intro w' hSw; (try dsimp only [Mem, cellsAt] at hSw); go_simp; (try with_reducible rfl)) (by assumption) ?_; (try simp only [Act.put, List.setIfInBounds_toArray, List.set_cons_zero, List.set_cons_succ]))
          (refine wpF_step rfl (by rfl) (fun K hK => ?_); go_simp)
          have hz' := keep5 hz.1 hz.2.1 hz.2.2.1 hz.2.2.2.1 hz.2.2.2.2 (below_alloc w6 (.cells #[.slice none 0 0, .slice none 0 0] 30))
          (refine hK.out _ _ _ (fun _ h => h) (⟨hz'.1, hz'.2.1⟩) (fun hHeld => ?_); clear hK; clear K; (try simp only [Act.put, List.setIfInBounds_toArray, List.set_cons_zero, List.set_cons_succ]))
          (refine wpF_step rfl (by rfl) (fun K hK => ?_); go_simp)
          have bx := box2 (Below.refl (w6.alloc (.cells #[.slice a6 n6 c6, .slice p6 m6 pc6] 30)).heap.size (w6.alloc (.cells #[.slice a6 n6 c6, .slice p6 m6 pc6] 30)))
          have zp := And.intro bx.1 (And.intro bx.2.1 (And.intro (keep5 hz.1 hz.2.1 hz.2.2.1 hz.2.2.2.1 hz.2.2.2.2 (below_alloc w6 (.cells #[.slice a6 n6 c6, .slice p6 m6 pc6] 30))) (And.intro (HNI.out.later hy5 (bl_then hb6' (below_alloc w6 (.cells #[.slice a6 n6 c6, .slice p6 m6 pc6] 30)))) (And.intro (hdp6.later (below_alloc w6 (.cells #[.slice a6 n6 c6, .slice p6 m6 pc6] 30))) (And.intro (bl_then (bl_then hbw hb6') (below_alloc w6 (.cells #[.slice a6 n6 c6, .slice p6 m6 pc6] 30))) (Nat.lt_of_lt_of_le hy5 (Nat.le_refl _)))))))
          obtain ⟨w7, hw7⟩ : ∃ w7, w6.alloc (.cells #[.slice a6 n6 c6, .slice p6 m6 pc6] 30) = w7 := ⟨_, rfl⟩
          rw [hw7] at zp ⊢
          obtain ⟨Bz, hBz⟩ : ∃ Bz, w6.heap.size = Bz := ⟨_, rfl⟩
          have hneB := Lib.hid (show Bz ≠ By by have := hz.2.2.2.2; omega)
          rw [hBz] at zp ⊢
          obtain ⟨z1, z2, hyp, hni7, hd7, hb7, hl7⟩ := zp
          (refine hK.out _ _ _ (fun _ h => h) (⟨hyp.1, hyp.2.1⟩) (fun hHeld => ?_); clear hK; clear K; (try simp only [Act.put, List.setIfInBounds_toArray, List.set_cons_zero, List.set_cons_succ]))
          iterate 1 (refine wpF_take rfl (by rfl) (by rfl) (by intro w' hSw; (try dsimp only [Mem, cellsAt] at hSw); go_simp; (try with_reducible rfl)) (by assumption) ?_; (try simp only [Act.put, List.setIfInBounds_toArray, List.set_cons_zero, List.set_cons_succ]))
          (refine wpF_nil ?_)
          obtain ⟨y1, y2, y3, y4, y5⟩ := hyp
          have HD7 := Lib.hid hd7
          have HN7 := Lib.hid hni7
          have hyne : Bz ≠ By := hneB.out
          clear hy1 hy2 hy3 hy4 hy5 hd7 hni7
          go_wp2
          go_roundw
          case rel =>
            exact row_rel (b := true) (by omega) (by omega) (by rw [HYS.out]; exact Nat.le_refl _) hb7 ⟨y1, y2, y3, y4, y5⟩ HN7.out HD7.out heq6 HS1.out rfl HR3.out HR4.out
          case measure => simp [intOf]; omega
        · have hz := keep5 hy1 hy2 hy3 hy4 hy5 (below_alloc wr (.cells #[.slice none 0 0, .slice none 0 0] 30)).drew
          (refine hK.out _ _ _ (fun _ h => h) (⟨hz.1, hz.2.1⟩) (fun hHeld => ?_); clear hK; clear K; (try simp only [Act.put, List.setIfInBounds_toArray, List.set_cons_zero, List.set_cons_succ]))
          (refine wpF_step rfl (by rfl) (fun K hK => ?_); go_simp)
          refine (put_any ay ny cy bY py my pcy RY _ _ 32 _ PC _ (HDY.out.later (below_alloc wr (.cells #[.slice none 0 0, .slice none 0 0] 30)).drew) (HPR.out.later (bl_then (below_alloc _ _) (bl_then HX.out (bl_then (below_alloc _ _) (bl_then hbw (below_alloc wr (.cells #[.slice none 0 0, .slice none 0 0] 30)).drew))))) (by have := HSZ.out; omega) (by have := HSZ.out; omega) (by omega) (by omega)).mono ?_
          rintro e w6 ⟨a6, n6, c6, b6, p6, m6, pc6, R6, rfl, hdp6, heq6, hb6⟩
          rw [HPD.out] at heq6 ⊢
          have hb6' : Below wr.heap.size wr w6 := bl_then (below_alloc wr (.cells #[.slice none 0 0, .slice none 0 0] 30)).drew hb6
          have hz' := keep5 hy1 hy2 hy3 hy4 hy5 hb6'
          (refine hK.out _ _ _ (fun _ h => h) (⟨hz'.1, hz'.2.1⟩) (fun hHeld => ?_); clear hK; clear K; (try simp only [Act.put, List.setIfInBounds_toArray, List.set_cons_zero, List.set_cons_succ]))
          iterate 3 (refine wpF_take rfl (by rfl) (by rfl) (by intro w' hSw; (try dsimp only [Mem, cellsAt] at hSw); go_simp; (try with_reducible rfl)) (by assumption) ?_; (try simp only [Act.put, List.setIfInBounds_toArray, List.set_cons_zero, List.set_cons_succ]))
          have bx := box2 (bl_then (Below.refl (wr.alloc (.cells #[.slice none 0 0, .slice none 0 0] 30)).heap.size (wr.alloc (.cells #[.slice none 0 0, .slice none 0 0] 30))).drew hb6)
          have bx1 := bx.1
          have bx2 := bx.2.1
          have bx3 := bx.2.2.1
          have bx4 := bx.2.2.2.1
          have bx5 := bx.2.2.2.2
          (refine wpF_step rfl (by rfl) (fun K hK => ?_); go_simp)
          obtain ⟨w7, hw7⟩ := set_name w6 wr.heap.size (.slice a6 n6 c6) (.slice p6 m6 pc6)
          rw [hw7.out]
          have zp := z_set hw7 bx1 bx2 bx3 bx4 bx5 (show wr.heap.size ≠ By by omega) hbw.size (bl_then hbw hb6') hz' (HNI.out.later hy5 hb6') (ni_box (fun k z h => by cases h) (fun k z h => by cases h) (bl_then (Below.refl _ _).drew hb6)) (fun k z h => by cases h) hdp6
          obtain ⟨Bz, hBz⟩ : ∃ Bz, wr.heap.size = Bz := ⟨_, rfl⟩
          have hneB := Lib.hid (show Bz ≠ By by omega)
          rw [hBz] at zp ⊢
          obtain ⟨z1, z2, hyp, hni7, hd7, hb7, hl7⟩ := zp
          (refine hK.out _ _ _ (fun _ h => h) (⟨hyp.1, hyp.2.1⟩) (fun hHeld => ?_); clear hK; clear K; (try simp only [Act.put, List.setIfInBounds_toArray, List.set_cons_zero, List.set_cons_succ]))
          iterate 1 (refine wpF_take rfl (by rfl) (by rfl) (by intro w' hSw; (try dsimp only [Mem, cellsAt] at hSw); go_simp; (try with_reducible rfl)) (by assumption) ?_; (try simp only [Act.put, List.setIfInBounds_toArray, List.set_cons_zero, List.set_cons_succ]))
          (refine wpF_nil ?_)
          obtain ⟨y1, y2, y3, y4, y5⟩ := hyp
          have HD7 := Lib.hid hd7
          have HN7 := Lib.hid hni7
          have hyne : Bz ≠ By := hneB.out
          clear hy1 hy2 hy3 hy4 hy5 hd7 hni7
          go_wp2
          go_roundw
          case rel =>
            exact row_rel (b := true) (by omega) (by omega) (by rw [HYS.out]; exact Nat.le_refl _) hb7 ⟨y1, y2, y3, y4, y5⟩ HN7.out HD7.out heq6 HS1.out rfl HR3.out HR4.out
          case measure => simp [intOf]; omega
      · skip
        go_wp2
        refine wp_fork (fun x => x.cell? ⟨By, 0, none⟩ = some (.slice ay ny cy) ∧ x.cell? ⟨By, 1, none⟩ = some (.slice py my pcy)) [10, 14, 15] (nodes [0, 1, 2, 3, 4, 5, 6, 7, 8, 9] (.fork 10 14 (nodes [11, 12, 13, 14, 15, 16] .leaf) (nodes [10, 11, 12, 13, 15, 16] .leaf))) (by kernel_rfl) (by kernel_rfl) ⟨hy1, hy2⟩ (fun hHeld => ?_)
        iterate 10 (refine wpF_take rfl (by rfl) (by rfl) (by intro w' hSw; (try dsimp only [Mem, cellsAt] at hSw); go_simp; (try with_reducible rfl)) (by assumption) ?_; (try simp only [Act.put, List.setIfInBounds_toArray, List.set_cons_zero, List.set_cons_succ]))
        (refine wpF_fork rfl rfl (fun K hK => ?_) (fun K hK => ?_) <;> go_simp)
        · refine (put_any ay ny cy bY py my pcy RY _ _ 32 _ PC _ (HDY.out.later (Below.refl _ _).drew) (HPR.out.later (bl_then (below_alloc _ _) (bl_then HX.out (bl_then (below_alloc _ _) hbw.drew)))) (by have := HSZ.out; omega) (by have := HSZ.out; omega) (by omega) (by omega)).mono ?_
          rintro e w6 ⟨a6, n6, c6, b6, p6, m6, pc6, R6, rfl, hdp6, heq6, hb6⟩
          rw [HPD.out] at heq6 ⊢
          have hb6' : Below wr.heap.size wr w6 := bl_then (Below.refl _ _).drew hb6
          have hz := keep5 hy1 hy2 hy3 hy4 hy5 hb6'
          (refine hK.out _ _ _ (fun _ h => h) (⟨hz.1, hz.2.1⟩) (fun hHeld => ?_); clear hK; clear K; (try simp only [Act.put, List.setIfInBounds_toArray, List.set_cons_zero, List.set_cons_succ]))
          iterate 3 (refine wpF_take rfl (by rfl) (by rfl) (by intro w' hSw; (try dsimp only [Mem, cellsAt] at hSw); go_simp; (try with_reducible rfl)) (by assumption) ?_; (try simp only [Act.put, List.setIfInBounds_toArray, List.set_cons_zero, List.set_cons_succ]))
          (refine wpF_step rfl (by rfl) (fun K hK => ?_); go_simp)
          have hz' := keep5 hz.1 hz.2.1 hz.2.2.1 hz.2.2.2.1 hz.2.2.2.2 (below_alloc w6 (.cells #[.slice none 0 0, .slice none 0 0] 30))
          (refine hK.out _ _ _ (fun _ h => h) (⟨hz'.1, hz'.2.1⟩) (fun hHeld => ?_); clear hK; clear K; (try simp only [Act.put, List.setIfInBounds_toArray, List.set_cons_zero, List.set_cons_succ]))
          (refine wpF_step rfl (by rfl) (fun K hK => ?_); go_simp)
          have bx := box2 (Below.refl (w6.alloc (.cells #[.slice a6 n6 c6, .slice p6 m6 pc6] 30)).heap.size (w6.alloc (.cells #[.slice a6 n6 c6, .slice p6 m6 pc6] 30)))
          have zp := And.intro bx.1 (And.intro bx.2.1 (And.intro (keep5 hz.1 hz.2.1 hz.2.2.1 hz.2.2.2.1 hz.2.2.2.2 (below_alloc w6 (.cells #[.slice a6 n6 c6, .slice p6 m6 pc6] 30))) (And.intro (HNI.out.later hy5 (bl_then hb6' (below_alloc w6 (.cells #[.slice a6 n6 c6, .slice p6 m6 pc6] 30)))) (And.intro (hdp6.later (below_alloc w6 (.cells #[.slice a6 n6 c6, .slice p6 m6 pc6] 30))) (And.intro (bl_then (bl_then hbw hb6') (below_alloc w6 (.cells #[.slice a6 n6 c6, .slice p6 m6 pc6] 30))) (Nat.lt_of_lt_of_le hy5 (Nat.le_refl _)))))))
          obtain ⟨w7, hw7⟩ : ∃ w7, w6.alloc (.cells #[.slice a6 n6 c6, .slice p6 m6 pc6] 30) = w7 := ⟨_, rfl⟩
          rw [hw7] at zp ⊢
          obtain ⟨Bz, hBz⟩ : ∃ Bz, w6.heap.size = Bz := ⟨_, rfl⟩
          have hneB := Lib.hid (show Bz ≠ By by have := hz.2.2.2.2; omega)
          rw [hBz] at zp ⊢
          obtain ⟨z1, z2, hyp, hni7, hd7, hb7, hl7⟩ := zp
          (refine hK.out _ _ _ (fun _ h => h) (⟨hyp.1, hyp.2.1⟩) (fun hHeld => ?_); clear hK; clear K; (try simp only [Act.put, List.setIfInBounds_toArray, List.set_cons_zero, List.set_cons_succ]))
          iterate 1 (refine wpF_take rfl (by rfl) (by rfl) (by intro w' hSw; (try dsimp only [Mem, cellsAt] at hSw); go_simp; (try with_reducible rfl)) (by assumption) ?_; (try simp only [Act.put, List.setIfInBounds_toArray, List.set_cons_zero, List.set_cons_succ]))
          (refine wpF_nil ?_)
          obtain ⟨y1, y2, y3, y4, y5⟩ := hyp
          have HD7 := Lib.hid hd7
          have HN7 := Lib.hid hni7
          have hyne : Bz ≠ By := hneB.out
          clear hy1 hy2 hy3 hy4 hy5 hd7 hni7
          go_wp2
          go_roundw
          case rel =>
            exact row_rel (b := false) (by omega) (by omega) (by rw [HYS.out]; exact Nat.le_refl _) hb7 ⟨y1, y2, y3, y4, y5⟩ HN7.out HD7.out heq6 HS1.out rfl HR3.out HR4.out
          case measure => simp [intOf]; omega
        · have hz := keep5 hy1 hy2 hy3 hy4 hy5 (below_alloc wr (.cells #[.slice none 0 0, .slice none 0 0] 30)).drew
          (refine hK.out _ _ _ (fun _ h => h) (⟨hz.1, hz.2.1⟩) (fun hHeld => ?_); clear hK; clear K; (try simp only [Act.put, List.setIfInBounds_toArray, List.set_cons_zero, List.set_cons_succ]))
          (refine wpF_step rfl (by rfl) (fun K hK => ?_); go_simp)
          refine (put_any ay ny cy bY py my pcy RY _ _ 32 _ PC _ (HDY.out.later (below_alloc wr (.cells #[.slice none 0 0, .slice none 0 0] 30)).drew) (HPR.out.later (bl_then (below_alloc _ _) (bl_then HX.out (bl_then (below_alloc _ _) (bl_then hbw (below_alloc wr (.cells #[.slice none 0 0, .slice none 0 0] 30)).drew))))) (by have := HSZ.out; omega) (by have := HSZ.out; omega) (by omega) (by omega)).mono ?_
          rintro e w6 ⟨a6, n6, c6, b6, p6, m6, pc6, R6, rfl, hdp6, heq6, hb6⟩
          rw [HPD.out] at heq6 ⊢
          have hb6' : Below wr.heap.size wr w6 := bl_then (below_alloc wr (.cells #[.slice none 0 0, .slice none 0 0] 30)).drew hb6
          have hz' := keep5 hy1 hy2 hy3 hy4 hy5 hb6'
          (refine hK.out _ _ _ (fun _ h => h) (⟨hz'.1, hz'.2.1⟩) (fun hHeld => ?_); clear hK; clear K; (try simp only [Act.put, List.setIfInBounds_toArray, List.set_cons_zero, List.set_cons_succ]))
          iterate 3 (refine wpF_take rfl (by rfl) (by rfl) (by intro w' hSw; (try dsimp only [Mem, cellsAt] at hSw); go_simp; (try with_reducible rfl)) (by assumption) ?_; (try simp only [Act.put, List.setIfInBounds_toArray, List.set_cons_zero, List.set_cons_succ]))
          have bx := box2 (bl_then (Below.refl (wr.alloc (.cells #[.slice none 0 0, .slice none 0 0] 30)).heap.size (wr.alloc (.cells #[.slice none 0 0, .slice none 0 0] 30))).drew hb6)
          have bx1 := bx.1
          have bx2 := bx.2.1
          have bx3 := bx.2.2.1
          have bx4 := bx.2.2.2.1
          have bx5 := bx.2.2.2.2
          (refine wpF_step rfl (by rfl) (fun K hK => ?_); go_simp)
          obtain ⟨w7, hw7⟩ := set_name w6 wr.heap.size (.slice a6 n6 c6) (.slice p6 m6 pc6)
          rw [hw7.out]
          have zp := z_set hw7 bx1 bx2 bx3 bx4 bx5 (show wr.heap.size ≠ By by omega) hbw.size (bl_then hbw hb6') hz' (HNI.out.later hy5 hb6') (ni_box (fun k z h => by cases h) (fun k z h => by cases h) (bl_then (Below.refl _ _).drew hb6)) (fun k z h => by cases h) hdp6
          obtain ⟨Bz, hBz⟩ : ∃ Bz, wr.heap.size = Bz := ⟨_, rfl⟩
          have hneB := Lib.hid (show Bz ≠ By by omega)
          rw [hBz] at zp ⊢
          obtain ⟨z1, z2, hyp, hni7, hd7, hb7, hl7⟩ := zp
          (refine hK.out _ _ _ (fun _ h => h) (⟨hyp.1, hyp.2.1⟩) (fun hHeld => ?_); clear hK; clear K; (try simp only [Act.put, List.setIfInBounds_toArray, List.set_cons_zero, List.set_cons_succ]))
          iterate 1 (refine wpF_take rfl (by rfl) (by rfl) (by intro w' hSw; (try dsimp only [Mem, cellsAt] at hSw); go_simp; (try with_reducible rfl)) (by assumption) ?_; (try simp only [Act.put, List.setIfInBounds_toArray, List.set_cons_zero, List.set_cons_succ]))
          (refine wpF_nil ?_)
          obtain ⟨y1, y2, y3, y4, y5⟩ := hyp
          have HD7 := Lib.hid hd7
          have HN7 := Lib.hid hni7
          have hyne : Bz ≠ By := hneB.out
          clear hy1 hy2 hy3 hy4 hy5 hd7 hni7
          go_wp2
          go_roundw
          case rel =>
            exact row_rel (b := false) (by omega) (by omega) (by rw [HYS.out]; exact Nat.le_refl _) hb7 ⟨y1, y2, y3, y4, y5⟩ HN7.out HD7.out heq6 HS1.out rfl HR3.out HR4.out
          case measure => simp [intOf]; omega
      · skip
        go_wp2
        refine wp_fork (fun x => x.cell? ⟨By, 0, none⟩ = some (.slice ay ny cy) ∧ x.cell? ⟨By, 1, none⟩ = some (.slice py my pcy)) [10, 14, 15] (nodes [0, 1, 2, 3, 4, 5, 6, 7, 8, 9] (.fork 10 14 (nodes [11, 12, 13, 14, 15, 16] .leaf) (nodes [10, 11, 12, 13, 15, 16] .leaf))) (by kernel_rfl) (by kernel_rfl) ⟨hy1, hy2⟩ (fun hHeld => ?_)
        iterate 10 (refine wpF_take rfl (by rfl) (by rfl) (by intro w' hSw; (try dsimp only [Mem, cellsAt] at hSw); go_simp; (try with_reducible rfl)) (by assumption) ?_; (try simp only [Act.put, List.setIfInBounds_toArray, List.set_cons_zero, List.set_cons_succ]))
        (refine wpF_fork rfl rfl (fun K hK => ?_) (fun K hK => ?_) <;> go_simp)
        · refine (put_any ay ny cy bY py my pcy RY _ _ 32 _ PC _ (HDY.out.later (Below.refl _ _).drew) (HPR.out.later (bl_then (below_alloc _ _) (bl_then HX.out (bl_then (below_alloc _ _) hbw.drew)))) (by have := HSZ.out; omega) (by have := HSZ.out; omega) (by omega) (by omega)).mono ?_
          rintro e w6 ⟨a6, n6, c6, b6, p6, m6, pc6, R6, rfl, hdp6, heq6, hb6⟩
          rw [HPD.out] at heq6 ⊢
          have hb6' : Below wr.heap.size wr w6 := bl_then (Below.refl _ _).drew hb6
          have hz := keep5 hy1 hy2 hy3 hy4 hy5 hb6'
          (refine hK.out _ _ _ (fun _ h => h) (⟨hz.1, hz.2.1⟩) (fun hHeld => ?_); clear hK; clear K; (try simp only [Act.put, List.setIfInBounds_toArray, List.set_cons_zero, List.set_cons_succ]))
          iterate 3 (refine wpF_take rfl (by rfl) (by rfl) (by intro w' hSw; (try dsimp only [Mem, cellsAt] at hSw); go_simp; (try with_reducible rfl)) (by assumption) ?_; (try simp only [Act.put, List.setIfInBounds_toArray, List.set_cons_zero, List.set_cons_succ]))
          (refine wpF_step rfl (by rfl) (fun K hK => ?_); go_simp)
          have hz' := keep5 hz.1 hz.2.1 hz.2.2.1 hz.2.2.2.1 hz.2.2.2.2 (below_alloc w6 (.cells #[.slice none 0 0, .slice none 0 0] 30))
          (refine hK.out _ _ _ (fun _ h => h) (⟨hz'.1, hz'.2.1⟩) (fun hHeld => ?_); clear hK; clear K; (try simp only [Act.put, List.setIfInBounds_toArray, List.set_cons_zero, List.set_cons_succ]))
          (refine wpF_step rfl (by rfl) (fun K hK => ?_); go_simp)
          have bx := box2 (Below.refl (w6.alloc (.cells #[.slice a6 n6 c6, .slice p6 m6 pc6] 30)).heap.size (w6.alloc (.cells #[.slice a6 n6 c6, .slice p6 m6 pc6] 30)))
          have zp := And.intro bx.1 (And.intro bx.2.1 (And.intro (keep5 hz.1 hz.2.1 hz.2.2.1 hz.2.2.2.1 hz.2.2.2.2 (below_alloc w6 (.cells #[.slice a6 n6 c6, .slice p6 m6 pc6] 30))) (And.intro (HNI.out.later hy5 (bl_then hb6' (below_alloc w6 (.cells #[.slice a6 n6 c6, .slice p6 m6 pc6] 30)))) (And.intro (hdp6.later (below_alloc w6 (.cells #[.slice a6 n6 c6, .slice p6 m6 pc6] 30))) (And.intro (bl_then (bl_then hbw hb6') (below_alloc w6 (.cells #[.slice a6 n6 c6, .slice p6 m6 pc6] 30))) (Nat.lt_of_lt_of_le hy5 (Nat.le_refl _)))))))
          obtain ⟨w7, hw7⟩ : ∃ w7, w6.alloc (.cells #[.slice a6 n6 c6, .slice p6 m6 pc6] 30) = w7 := ⟨_, rfl⟩
          rw [hw7] at zp ⊢
          obtain ⟨Bz, hBz⟩ : ∃ Bz, w6.heap.size = Bz := ⟨_, rfl⟩
          have hneB := Lib.hid (show Bz ≠ By by have := hz.2.2.2.2; omega)
          rw [hBz] at zp ⊢
          obtain ⟨z1, z2, hyp, hni7, hd7, hb7, hl7⟩ := zp
          (refine hK.out _ _ _ (fun _ h => h) (⟨hyp.1, hyp.2.1⟩) (fun hHeld => ?_); clear hK; clear K; (try simp only [Act.put, List.setIfInBounds_toArray, List.set_cons_zero, List.set_cons_succ]))
          iterate 1 (refine wpF_take rfl (by rfl) (by rfl) (by intro w' hSw; (try dsimp only [Mem, cellsAt] at hSw); go_simp; (try with_reducible rfl)) (by assumption) ?_; (try simp only [Act.put, List.setIfInBounds_toArray, List.set_cons_zero, List.set_cons_succ]))
          (refine wpF_nil ?_)
          obtain ⟨y1, y2, y3, y4, y5⟩ := hyp
          have HD7 := Lib.hid hd7
          have HN7 := Lib.hid hni7
          have hyne : Bz ≠ By := hneB.out
          clear hy1 hy2 hy3 hy4 hy5 hd7 hni7
          go_wp2
          go_roundw
          case rel =>
            exact row_rel (b := true) (by omega) (by omega) (by rw [HYS.out]; exact Nat.le_refl _) hb7 ⟨y1, y2, y3, y4, y5⟩ HN7.out HD7.out heq6 HS1.out rfl HR3.out HR4.out
          case measure => simp [intOf]; omega
        · have hz := keep5 hy1 hy2 hy3 hy4 hy5 (below_alloc wr (.cells #[.slice none 0 0, .slice none 0 0] 30)).drew
          (refine hK.out _ _ _ (fun _ h => h) (⟨hz.1, hz.2.1⟩) (fun hHeld => ?_); clear hK; clear K; (try simp only [Act.put, List.setIfInBounds_toArray, List.set_cons_zero, List.set_cons_succ]))
          (refine wpF_step rfl (by rfl) (fun K hK => ?_); go_simp)
          refine (put_any ay ny cy bY py my pcy RY _ _ 32 _ PC _ (HDY.out.later (below_alloc wr (.cells #[.slice none 0 0, .slice none 0 0] 30)).drew) (HPR.out.later (bl_then (below_alloc _ _) (bl_then HX.out (bl_then (below_alloc _ _) (bl_then hbw (below_alloc wr (.cells #[.slice none 0 0, .slice none 0 0] 30)).drew))))) (by have := HSZ.out; omega) (by have := HSZ.out; omega) (by omega) (by omega)).mono ?_
          rintro e w6 ⟨a6, n6, c6, b6, p6, m6, pc6, R6, rfl, hdp6, heq6, hb6⟩
          rw [HPD.out] at heq6 ⊢
          have hb6' : Below wr.heap.size wr w6 := bl_then (below_alloc wr (.cells #[.slice none 0 0, .slice none 0 0] 30)).drew hb6
          have hz' := keep5 hy1 hy2 hy3 hy4 hy5 hb6'
          (refine hK.out _ _ _ (fun _ h => h) (⟨hz'.1, hz'.2.1⟩) (fun hHeld => ?_); clear hK; clear K; (try simp only [Act.put, List.setIfInBounds_toArray, List.set_cons_zero, List.set_cons_succ]))
          iterate 3 (refine wpF_take rfl (by rfl) (by rfl) (by intro w' hSw; (try dsimp only [Mem, cellsAt] at hSw); go_simp; (try with_reducible rfl)) (by assumption) ?_; (try simp only [Act.put, List.setIfInBounds_toArray, List.set_cons_zero, List.set_cons_succ]))
          have bx := box2 (bl_then (Below.refl (wr.alloc (.cells #[.slice none 0 0, .slice none 0 0] 30)).heap.size (wr.alloc (.cells #[.slice none 0 0, .slice none 0 0] 30))).drew hb6)
          have bx1 := bx.1
          have bx2 := bx.2.1
          have bx3 := bx.2.2.1
          have bx4 := bx.2.2.2.1
          have bx5 := bx.2.2.2.2
          (refine wpF_step rfl (by rfl) (fun K hK => ?_); go_simp)
          obtain ⟨w7, hw7⟩ := set_name w6 wr.heap.size (.slice a6 n6 c6) (.slice p6 m6 pc6)
          rw [hw7.out]
          have zp := z_set hw7 bx1 bx2 bx3 bx4 bx5 (show wr.heap.size ≠ By by omega) hbw.size (bl_then hbw hb6') hz' (HNI.out.later hy5 hb6') (ni_box (fun k z h => by cases h) (fun k z h => by cases h) (bl_then (Below.refl _ _).drew hb6)) (fun k z h => by cases h) hdp6
          obtain ⟨Bz, hBz⟩ : ∃ Bz, wr.heap.size = Bz := ⟨_, rfl⟩
          have hneB := Lib.hid (show Bz ≠ By by omega)
          rw [hBz] at zp ⊢
          obtain ⟨z1, z2, hyp, hni7, hd7, hb7, hl7⟩ := zp
          (refine hK.out _ _ _ (fun _ h => h) (⟨hyp.1, hyp.2.1⟩) (fun hHeld => ?_); clear hK; clear K; (try simp only [Act.put, List.setIfInBounds_toArray, List.set_cons_zero, List.set_cons_succ]))
          iterate 1 (refine wpF_take rfl (by rfl) (by rfl) (by intro w' hSw; (try dsimp only [Mem, cellsAt] at hSw); go_simp; (try with_reducible rfl)) (by assumption) ?_; (try simp only [Act.put, List.setIfInBounds_toArray, List.set_cons_zero, List.set_cons_succ]))
          (refine wpF_nil ?_)
          obtain ⟨y1, y2, y3, y4, y5⟩ := hyp
          have HD7 := Lib.hid hd7
          have HN7 := Lib.hid hni7
          have hyne : Bz ≠ By := hneB.out
          clear hy1 hy2 hy3 hy4 hy5 hd7 hni7
          go_wp2
          go_roundw
          case rel =>
            exact row_rel (b := true) (by omega) (by omega) (by rw [HYS.out]; exact Nat.le_refl _) hb7 ⟨y1, y2, y3, y4, y5⟩ HN7.out HD7.out heq6 HS1.out rfl HR3.out HR4.out
          case measure => simp [intOf]; omega
    · have hjq : 32 * j = qn := by omega
      have HJQ := Lib.hid hjq
      have hj2 : data.length / 32 = j := by have := HQL.out; omega
      have HLR := Lib.hid (lay_row hsn.out (by have := H.out.row.len8; omega) (by rw [List.length_map, ← H.out.pend.lenw]; omega) at_ data (by have := HQL.out; omega) (by have := HQL.out; omega) Kq HK.out)
      have HR2' := Lib.hid (show b = false → eL = 14 ∧ LBp = (base, R.map Rep.plain) from fun h => by
        have := HLR.out.2 (HR2.out h)
        rw [HLY.out] at this
        injection this with e1 e2
        exact ⟨e2, e1⟩)
      have HR1' := Lib.hid (show b = true → eL = 0 ∧ LBp = (bY, RY.map Rep.plain) from fun h => by
        obtain ⟨e1, e2, e3⟩ := HR1.out h
        have := HLR.out.1 (by rw [hj2]; exact e3)
        rw [HLY.out, hj2, ← e2, ← e1] at this
        injection this with e4 e5
        exact ⟨e5, e4⟩)
      obtain ⟨BB, hBB⟩ : ∃ BB, bytesD base (R.map Rep.plain) = BB := ⟨_, rfl⟩
      obtain ⟨AA, hAA⟩ : ∃ AA, crashD base (R.map Rep.plain) plan = AA := ⟨_, rfl⟩
      have HBB := Lib.hid hBB
      have HAA := Lib.hid hAA
      have HLB := Lib.hid (sane_lone hsn.out (by rw [← hBB]; exact bytes_len hsn.out) : saneD BB [] = true)
      have HLA := Lib.hid (sane_lone hsn.out (by rw [← hAA]; exact crash_len hsn.out plan) : saneD AA [] = true)
      clear hjq hj2 hBB hAA
      have hob := bl_then HO.out (bl_then (below_alloc _ _) hbw)
      obtain ⟨ho1, ho2, _, _, _⟩ := box2 hob
      have hbq := hbw
      cases b
      · obtain ⟨rfl, hLX⟩ := HR2'.out rfl
        have HLX := Lib.hid hLX
        clear hLX
        go_wp2_with (first | (go_at_call 24; (with_reducible refine (sync_any ao n c base po1 m pc1 R w3 _ hdp1.out (bl_then (below_alloc _ _) hob) (by omega) (by omega)).mono ?_); rintro e w5 ⟨bs, ns, cs, rfl, hdps, hb5⟩; rw [HBB.out] at hdps; replace hob := bl_then hob hb5; replace hbq := bl_then hbq hb5; clear ho1 ho2; obtain ⟨ho1, ho2, _, _, _⟩ := box2 hob; obtain ⟨hv1, hv2, hv3, hv4, hv5⟩ := keep5 hy1 hy2 hy3 hy4 hy5 hb5; clear hy1 hy2 hy3 hy4 hy5; replace hdps := Lib.hid hdps) | (go_at_call 26; (with_reducible refine (crash_any ao n c base po1 m pc1 R lo ln lc plan _ _ (hdp1.out.later (bl_then (below_alloc _ _) (bl_then hob (below_alloc _ _)))) (HPL.out.later (bl_then (below_alloc _ _) (bl_then HX.out (bl_then (below_alloc _ _) (bl_then hbq (below_alloc _ _)))))) (Below.refl _ _) (by omega) (by omega) (by omega) HP.out).mono ?_); rintro e w6 ⟨b6, n6, c6, rfl, hdp6, hb6⟩; rw [HAA.out] at hdp6; have hsb := hb6; replace hob := bl_then hob (bl_then (below_alloc _ _) hb6); replace hbq := bl_then hbq (bl_then (below_alloc _ _) hb6); clear ho1 ho2; obtain ⟨ho1, ho2, _, _, _⟩ := box2 hob; obtain ⟨hu1, hu2, hu3, hu4, hu5⟩ := keep5 hv1 hv2 hv3 hv4 hv5 (bl_then (below_alloc _ _) hb6); clear hv1 hv2 hv3 hv4 hv5; replace hdp6 := Lib.hid hdp6))
        have HS := Lib.hid (fun x (hx : Below (w6.alloc (.cells #[.slice b6 n6 c6, .slice none 0 0] 30)).heap.size (w6.alloc (.cells #[.slice b6 n6 c6, .slice none 0 0] 30)) x) => row_held hob hbq hsb hu1 hu2 hu5 hx)
        have hcur := (Below.refl (w6.alloc (.cells #[.slice b6 n6 c6, .slice none 0 0] 30)).heap.size (w6.alloc (.cells #[.slice b6 n6 c6, .slice none 0 0] 30))).drew
        clear ho1 ho2 hu1 hu2 hu3 hu4
        have hns := lone_small hdps.out HLB.out
        have hn6 := lone_small hdp6.out HLA.out
        have hmy : my ≤ 100000 := by
          obtain ⟨_, _, q2, _, _, q5, _⟩ := HSY.out
          rw [List.length_map] at q5
          omega
        have hxy : base4 = base ∧ R4.map Rep.plain = R.map Rep.plain := by
          have := heq4.out
          rw [HLY.out] at this
          dsimp only at this
          rw [HLX.out] at this
          injection this with e1 e2
          exact ⟨e1, e2⟩
        have HXY := Lib.hid hxy
        clear hxy
        refine wp_plan (fun x => x.cell? ⟨w3.heap.size, 0, none⟩ = some (.slice ao n c) ∧ x.cell? ⟨w3.heap.size, 1, none⟩ = some (.slice po1 m pc1) ∧ x.cell? ⟨w4.heap.size, 0, none⟩ = some (.slice ao4 n4 c4) ∧ x.cell? ⟨w4.heap.size, 1, none⟩ = some (.slice po4 m4 pc4) ∧ x.cell? ⟨By, 0, none⟩ = some (.slice ay ny cy) ∧ x.cell? ⟨By, 1, none⟩ = some (.slice py my pcy) ∧ x.cell? ⟨w5.heap.size, 0, none⟩ = some (.slice bs ns cs) ∧ x.cell? ⟨w5.heap.size, 1, none⟩ = some (.slice none 0 0) ∧ x.cell? ⟨w6.heap.size, 0, none⟩ = some (.slice b6 n6 c6) ∧ x.cell? ⟨w6.heap.size, 1, none⟩ = some (.slice none 0 0)) [12, 14, 15, 20, 21, 23, 24, 29, 30, 32, 33, 39, 41, 42] [0, 1, 2, 3, 4, 5, 6, 7, 8, 9, 10, 11, 13, 12, 14, 15, 16, 17, 18, 19, 22, 20, 21, 23, 24, 25, 26, 27, 28, 31, 29, 30, 32, 33, 34, 35, 36, 37, 38, 40, 39, 41, 42, 43, 44, 45] (by kernel_rfl) (by kernel_rfl) (HS.out _ hcur) (fun hHeld => ?_)
        iterate 11 (refine wpT_take rfl (by rfl) (by rfl) (by intro w' hSw; (try dsimp only [Mem, cellsAt] at hSw); go_simp; (try with_reducible rfl)) (by assumption) ?_; (try simp only [Act.put, List.setIfInBounds_toArray, List.set_cons_zero, List.set_cons_succ]))
        iterate 2 (refine wpT_pass rfl (by rfl) (by rfl) (by assumption) ?_; (try simp only [Act.put, List.setIfInBounds_toArray, List.set_cons_zero, List.set_cons_succ]))
        (refine wpT_step rfl (by rfl) (fun K hK => ?_); go_simp)
        (refine hK.out _ _ _ (fun _ h => h) (HS.out _ hcur) (fun hHeld => ?_); clear hK; clear K; (try simp only [Act.put, List.setIfInBounds_toArray, List.set_cons_zero, List.set_cons_succ]))
        (refine wpT_step rfl (by rfl) (fun K hK => ?_); go_simp)
        (refine hK.out _ _ _ (fun _ h => h) (HS.out _ hcur) (fun hHeld => ?_); clear hK; clear K; (try simp only [Act.put, List.setIfInBounds_toArray, List.set_cons_zero, List.set_cons_succ]))
        (refine wpT_step rfl (by rfl) (fun K hK => ?_); go_simp)
        (refine hK.out _ _ _ (fun _ h => h) (HS.out _ hcur) (fun hHeld => ?_); clear hK; clear K; (try simp only [Act.put, List.setIfInBounds_toArray, List.set_cons_zero, List.set_cons_succ]))
        iterate 5 (refine wpT_take rfl (by rfl) (by rfl) (by intro w' hSw; (try dsimp only [Mem, cellsAt] at hSw); go_simp; (try with_reducible rfl)) (by assumption) ?_; (try simp only [Act.put, List.setIfInBounds_toArray, List.set_cons_zero, List.set_cons_succ]))
        (refine wpT_step rfl (by rfl) (fun K hK => ?_); go_simp)
        refine (sync_any bs ns cs BB none 0 0 [] _ _ (hdps.out.later (bl_then (below_alloc _ _) (bl_then hb6 (bl_then (below_alloc _ _) hcur)))) (Below.refl _ _) (by omega) (by omega)).mono ?_
        rintro e w10 ⟨b10, n10, c10, rfl, hdp10, hb10⟩
        rw [List.map_nil, bytes_lone HLB.out] at hdp10
        replace hcur := bl_then hcur hb10
        (refine hK.out _ _ _ (fun _ h => h) (HS.out _ hcur) (fun hHeld => ?_); clear hK; clear K; (try simp only [Act.put, List.setIfInBounds_toArray, List.set_cons_zero, List.set_cons_succ]))
        (refine wpT_step rfl (by rfl) (fun K hK => ?_); go_simp)
        refine (flat_any b10 n10 c10 BB none 0 0 [] _ hdp10 (by omega)).mono ?_
        rintro e w11 ⟨po11, pc11, rfl, hdp11, hb11⟩
        replace hcur := bl_then hcur hb11
        (refine hK.out _ _ _ (fun _ h => h) (HS.out _ hcur) (fun hHeld => ?_); clear hK; clear K; (try simp only [Act.put, List.setIfInBounds_toArray, List.set_cons_zero, List.set_cons_succ]))
        (refine wpT_step rfl (by rfl) (fun K hK => ?_); go_simp)
        refine (flat_any bs ns cs BB none 0 0 [] _ (hdps.out.later (bl_then (below_alloc _ _) (bl_then hb6 (bl_then (below_alloc _ _) hcur)))) (by omega)).mono ?_
        rintro e w12 ⟨po12, pc12, rfl, hdp12, hb12⟩
        replace hcur := bl_then hcur hb12
        (refine hK.out _ _ _ (fun _ h => h) (HS.out _ hcur) (fun hHeld => ?_); clear hK; clear K; (try simp only [Act.put, List.setIfInBounds_toArray, List.set_cons_zero, List.set_cons_succ]))
        (refine wpT_step rfl (by rfl) (fun K hK => ?_); go_simp)
        refine (same_any b10 n10 c10 BB po11 0 pc11 [] bs ns cs BB po12 0 pc12 [] _ (hdp11.later hb12) hdp12 rfl rfl (by omega)).mono ?_
        rintro e w13 ⟨rfl, hb13⟩
        replace hcur := bl_then hcur hb13
        (refine hK.out _ _ _ (fun _ h => h) (HS.out _ hcur) (fun hHeld => ?_); clear hK; clear K; (try simp only [Act.put, List.setIfInBounds_toArray, List.set_cons_zero, List.set_cons_succ]))
        iterate 5 (refine wpT_take rfl (by rfl) (by rfl) (by intro w' hSw; (try dsimp only [Mem, cellsAt] at hSw); go_simp; (try with_reducible rfl)) (by assumption) ?_; (try simp only [Act.put, List.setIfInBounds_toArray, List.set_cons_zero, List.set_cons_succ]))
        (refine wpT_step rfl (by rfl) (fun K hK => ?_); go_simp)
        refine (crash_any b6 n6 c6 AA none 0 0 [] lo ln lc plan _ _ (hdp6.out.later (bl_then (below_alloc _ _) hcur)) (HPL.out.later (bl_then (below_alloc _ _) (bl_then HX.out (bl_then (below_alloc _ _) (bl_then hbq (bl_then (below_alloc _ _) hcur)))))) (Below.refl _ _) (by omega) (by omega) (by omega) HP.out).mono ?_
        rintro e w14 ⟨b14, n14, c14, rfl, hdp14, hb14⟩
        rw [List.map_nil, crash_lone HLA.out] at hdp14
        replace hcur := bl_then hcur hb14
        (refine hK.out _ _ _ (fun _ h => h) (HS.out _ hcur) (fun hHeld => ?_); clear hK; clear K; (try simp only [Act.put, List.setIfInBounds_toArray, List.set_cons_zero, List.set_cons_succ]))
        (refine wpT_step rfl (by rfl) (fun K hK => ?_); go_simp)
        refine (flat_any b14 n14 c14 AA none 0 0 [] _ hdp14 (by omega)).mono ?_
        rintro e w15 ⟨po15, pc15, rfl, hdp15, hb15⟩
        replace hcur := bl_then hcur hb15
        (refine hK.out _ _ _ (fun _ h => h) (HS.out _ hcur) (fun hHeld => ?_); clear hK; clear K; (try simp only [Act.put, List.setIfInBounds_toArray, List.set_cons_zero, List.set_cons_succ]))
        (refine wpT_step rfl (by rfl) (fun K hK => ?_); go_simp)
        refine (flat_any b6 n6 c6 AA none 0 0 [] _ (hdp6.out.later (bl_then (below_alloc _ _) hcur)) (by omega)).mono ?_
        rintro e w16 ⟨po16, pc16, rfl, hdp16, hb16⟩
        replace hcur := bl_then hcur hb16
        (refine hK.out _ _ _ (fun _ h => h) (HS.out _ hcur) (fun hHeld => ?_); clear hK; clear K; (try simp only [Act.put, List.setIfInBounds_toArray, List.set_cons_zero, List.set_cons_succ]))
        (refine wpT_step rfl (by rfl) (fun K hK => ?_); go_simp)
        refine (same_any b14 n14 c14 AA po15 0 pc15 [] b6 n6 c6 AA po16 0 pc16 [] _ (hdp15.later hb16) hdp16 rfl rfl (by omega)).mono ?_
        rintro e w17 ⟨rfl, hb17⟩
        replace hcur := bl_then hcur hb17
        (refine hK.out _ _ _ (fun _ h => h) (HS.out _ hcur) (fun hHeld => ?_); clear hK; clear K; (try simp only [Act.put, List.setIfInBounds_toArray, List.set_cons_zero, List.set_cons_succ]))
        iterate 6 (refine wpT_take rfl (by rfl) (by rfl) (by intro w' hSw; (try dsimp only [Mem, cellsAt] at hSw); go_simp; (try with_reducible rfl)) (by assumption) ?_; (try simp only [Act.put, List.setIfInBounds_toArray, List.set_cons_zero, List.set_cons_succ]))
        (refine wpT_step rfl (by rfl) (fun K hK => ?_); go_simp)
        refine (flat_any ao4 n4 c4 base4 po4 m4 pc4 R4 _ (hdp4.out.later (bl_then (below_alloc _ _) (bl_then hbq (bl_then (below_alloc _ _) hcur)))) (by omega)).mono ?_
        rintro e w18 ⟨po18, pc18, rfl, hdp18, hb18⟩
        replace hcur := bl_then hcur hb18
        (refine hK.out _ _ _ (fun _ h => h) (HS.out _ hcur) (fun hHeld => ?_); clear hK; clear K; (try simp only [Act.put, List.setIfInBounds_toArray, List.set_cons_zero, List.set_cons_succ]))
        (refine wpT_step rfl (by rfl) (fun K hK => ?_); go_simp)
        refine (flat_any ao n c base po1 m pc1 R _ (hdp1.out.later (bl_then (below_alloc _ _) (bl_then hob (bl_then (below_alloc _ _) hcur)))) (by omega)).mono ?_
        rintro e w19 ⟨po19, pc19, rfl, hdp19, hb19⟩
        replace hcur := bl_then hcur hb19
        (refine hK.out _ _ _ (fun _ h => h) (HS.out _ hcur) (fun hHeld => ?_); clear hK; clear K; (try simp only [Act.put, List.setIfInBounds_toArray, List.set_cons_zero, List.set_cons_succ]))
        (refine wpT_step rfl (by rfl) (fun K hK => ?_); go_simp)
        refine (same_any ao4 n4 c4 base4 po18 m4 pc18 R4 ao n c base po19 m pc19 R _ (hdp18.later hb19) hdp19 HXY.out.1 HXY.out.2 (by omega)).mono ?_
        rintro e w20 ⟨rfl, hb20⟩
        replace hcur := bl_then hcur hb20
        (refine hK.out _ _ _ (fun _ h => h) (HS.out _ hcur) (fun hHeld => ?_); clear hK; clear K; (try simp only [Act.put, List.setIfInBounds_toArray, List.set_cons_zero, List.set_cons_succ]))
        iterate 3 (refine wpT_take rfl (by rfl) (by rfl) (by intro w' hSw; (try dsimp only [Mem, cellsAt] at hSw); go_simp; (try with_reducible rfl)) (by assumption) ?_; (try simp only [Act.put, List.setIfInBounds_toArray, List.set_cons_zero, List.set_cons_succ]))
        (refine wpT_nil ?_)
        go_wp2
        go_ret
        exact ⟨rfl, bl_then (below_alloc _ _) (bl_then HX.out (bl_then (below_alloc _ _) (bl_then hbq (bl_then (below_alloc _ _) hcur))))⟩
      · obtain ⟨rfl, hLX⟩ := HR1'.out rfl
        have HLX := Lib.hid hLX
        clear hLX
        go_wp2_with (first | (go_at_call 24; (with_reducible refine (sync_any ao n c base po1 m pc1 R w3 _ hdp1.out (bl_then (below_alloc _ _) hob) (by omega) (by omega)).mono ?_); rintro e w5 ⟨bs, ns, cs, rfl, hdps, hb5⟩; rw [HBB.out] at hdps; replace hob := bl_then hob hb5; replace hbq := bl_then hbq hb5; clear ho1 ho2; obtain ⟨ho1, ho2, _, _, _⟩ := box2 hob; obtain ⟨hv1, hv2, hv3, hv4, hv5⟩ := keep5 hy1 hy2 hy3 hy4 hy5 hb5; clear hy1 hy2 hy3 hy4 hy5; replace hdps := Lib.hid hdps) | (go_at_call 26; (with_reducible refine (crash_any ao n c base po1 m pc1 R lo ln lc plan _ _ (hdp1.out.later (bl_then (below_alloc _ _) (bl_then hob (below_alloc _ _)))) (HPL.out.later (bl_then (below_alloc _ _) (bl_then HX.out (bl_then (below_alloc _ _) (bl_then hbq (below_alloc _ _)))))) (Below.refl _ _) (by omega) (by omega) (by omega) HP.out).mono ?_); rintro e w6 ⟨b6, n6, c6, rfl, hdp6, hb6⟩; rw [HAA.out] at hdp6; have hsb := hb6; replace hob := bl_then hob (bl_then (below_alloc _ _) hb6); replace hbq := bl_then hbq (bl_then (below_alloc _ _) hb6); clear ho1 ho2; obtain ⟨ho1, ho2, _, _, _⟩ := box2 hob; obtain ⟨hu1, hu2, hu3, hu4, hu5⟩ := keep5 hv1 hv2 hv3 hv4 hv5 (bl_then (below_alloc _ _) hb6); clear hv1 hv2 hv3 hv4 hv5; replace hdp6 := Lib.hid hdp6))
        have HS := Lib.hid (fun x (hx : Below (w6.alloc (.cells #[.slice b6 n6 c6, .slice none 0 0] 30)).heap.size (w6.alloc (.cells #[.slice b6 n6 c6, .slice none 0 0] 30)) x) => row_held hob hbq hsb hu1 hu2 hu5 hx)
        have hcur := (Below.refl (w6.alloc (.cells #[.slice b6 n6 c6, .slice none 0 0] 30)).heap.size (w6.alloc (.cells #[.slice b6 n6 c6, .slice none 0 0] 30))).drew
        clear ho1 ho2 hu1 hu2 hu3 hu4
        have hns := lone_small hdps.out HLB.out
        have hn6 := lone_small hdp6.out HLA.out
        have hmy : my ≤ 100000 := by
          obtain ⟨_, _, q2, _, _, q5, _⟩ := HSY.out
          rw [List.length_map] at q5
          omega
        have hxy : base4 = bY ∧ R4.map Rep.plain = RY.map Rep.plain := by
          have := heq4.out
          rw [HLY.out] at this
          dsimp only at this
          rw [HLX.out] at this
          injection this with e1 e2
          exact ⟨e1, e2⟩
        have HXY := Lib.hid hxy
        clear hxy
        refine wp_plan (fun x => x.cell? ⟨w3.heap.size, 0, none⟩ = some (.slice ao n c) ∧ x.cell? ⟨w3.heap.size, 1, none⟩ = some (.slice po1 m pc1) ∧ x.cell? ⟨w4.heap.size, 0, none⟩ = some (.slice ao4 n4 c4) ∧ x.cell? ⟨w4.heap.size, 1, none⟩ = some (.slice po4 m4 pc4) ∧ x.cell? ⟨By, 0, none⟩ = some (.slice ay ny cy) ∧ x.cell? ⟨By, 1, none⟩ = some (.slice py my pcy) ∧ x.cell? ⟨w5.heap.size, 0, none⟩ = some (.slice bs ns cs) ∧ x.cell? ⟨w5.heap.size, 1, none⟩ = some (.slice none 0 0) ∧ x.cell? ⟨w6.heap.size, 0, none⟩ = some (.slice b6 n6 c6) ∧ x.cell? ⟨w6.heap.size, 1, none⟩ = some (.slice none 0 0)) [12, 14, 15, 20, 21, 23, 24, 29, 30, 32, 33, 39, 41, 42] [0, 1, 2, 3, 4, 5, 6, 7, 8, 9, 10, 11, 13, 12, 14, 15, 16, 17, 18, 19, 22, 20, 21, 23, 24, 25, 26, 27, 28, 31, 29, 30, 32, 33, 34, 35, 36, 37, 38, 40, 39, 41, 42, 43, 44, 45] (by kernel_rfl) (by kernel_rfl) (HS.out _ hcur) (fun hHeld => ?_)
        iterate 13 (refine wpT_take rfl (by rfl) (by rfl) (by intro w' hSw; (try dsimp only [Mem, cellsAt] at hSw); go_simp; (try with_reducible rfl)) (by assumption) ?_; (try simp only [Act.put, List.setIfInBounds_toArray, List.set_cons_zero, List.set_cons_succ]))
        (refine wpT_step rfl (by rfl) (fun K hK => ?_); go_simp)
        refine (flat_any ao4 n4 c4 base4 po4 m4 pc4 R4 _ (hdp4.out.later (bl_then (below_alloc _ _) (bl_then hbq (bl_then (below_alloc _ _) hcur)))) (by omega)).mono ?_
        rintro e w7 ⟨po7, pc7, rfl, hdp7, hb7⟩
        replace hcur := bl_then hcur hb7
        (refine hK.out _ _ _ (fun _ h => h) (HS.out _ hcur) (fun hHeld => ?_); clear hK; clear K; (try simp only [Act.put, List.setIfInBounds_toArray, List.set_cons_zero, List.set_cons_succ]))
        (refine wpT_step rfl (by rfl) (fun K hK => ?_); go_simp)
        refine (flat_any ay ny cy bY py my pcy RY _ (HDY.out.later (bl_then hb5 (bl_then (below_alloc _ _) (bl_then hb6 (bl_then (below_alloc _ _) hcur))))) (by omega)).mono ?_
        rintro e w8 ⟨po8, pc8, rfl, hdp8, hb8⟩
        replace hcur := bl_then hcur hb8
        (refine hK.out _ _ _ (fun _ h => h) (HS.out _ hcur) (fun hHeld => ?_); clear hK; clear K; (try simp only [Act.put, List.setIfInBounds_toArray, List.set_cons_zero, List.set_cons_succ]))
        (refine wpT_step rfl (by rfl) (fun K hK => ?_); go_simp)
        refine (same_any ao4 n4 c4 base4 po7 m4 pc7 R4 ay ny cy bY po8 my pc8 RY _ (hdp7.later hb8) hdp8 HXY.out.1 HXY.out.2 (by omega)).mono ?_
        rintro e w9 ⟨rfl, hb9⟩
        replace hcur := bl_then hcur hb9
        (refine hK.out _ _ _ (fun _ h => h) (HS.out _ hcur) (fun hHeld => ?_); clear hK; clear K; (try simp only [Act.put, List.setIfInBounds_toArray, List.set_cons_zero, List.set_cons_succ]))
        iterate 5 (refine wpT_take rfl (by rfl) (by rfl) (by intro w' hSw; (try dsimp only [Mem, cellsAt] at hSw); go_simp; (try with_reducible rfl)) (by assumption) ?_; (try simp only [Act.put, List.setIfInBounds_toArray, List.set_cons_zero, List.set_cons_succ]))
        (refine wpT_step rfl (by rfl) (fun K hK => ?_); go_simp)
        refine (sync_any bs ns cs BB none 0 0 [] _ _ (hdps.out.later (bl_then (below_alloc _ _) (bl_then hb6 (bl_then (below_alloc _ _) hcur)))) (Below.refl _ _) (by omega) (by omega)).mono ?_
        rintro e w10 ⟨b10, n10, c10, rfl, hdp10, hb10⟩
        rw [List.map_nil, bytes_lone HLB.out] at hdp10
        replace hcur := bl_then hcur hb10
        (refine hK.out _ _ _ (fun _ h => h) (HS.out _ hcur) (fun hHeld => ?_); clear hK; clear K; (try simp only [Act.put, List.setIfInBounds_toArray, List.set_cons_zero, List.set_cons_succ]))
        (refine wpT_step rfl (by rfl) (fun K hK => ?_); go_simp)
        refine (flat_any b10 n10 c10 BB none 0 0 [] _ hdp10 (by omega)).mono ?_
        rintro e w11 ⟨po11, pc11, rfl, hdp11, hb11⟩
        replace hcur := bl_then hcur hb11
        (refine hK.out _ _ _ (fun _ h => h) (HS.out _ hcur) (fun hHeld => ?_); clear hK; clear K; (try simp only [Act.put, List.setIfInBounds_toArray, List.set_cons_zero, List.set_cons_succ]))
        (refine wpT_step rfl (by rfl) (fun K hK => ?_); go_simp)
        refine (flat_any bs ns cs BB none 0 0 [] _ (hdps.out.later (bl_then (below_alloc _ _) (bl_then hb6 (bl_then (below_alloc _ _) hcur)))) (by omega)).mono ?_
        rintro e w12 ⟨po12, pc12, rfl, hdp12, hb12⟩
        replace hcur := bl_then hcur hb12
        (refine hK.out _ _ _ (fun _ h => h) (HS.out _ hcur) (fun hHeld => ?_); clear hK; clear K; (try simp only [Act.put, List.setIfInBounds_toArray, List.set_cons_zero, List.set_cons_succ]))
        (refine wpT_step rfl (by rfl) (fun K hK => ?_); go_simp)
        refine (same_any b10 n10 c10 BB po11 0 pc11 [] bs ns cs BB po12 0 pc12 [] _ (hdp11.later hb12) hdp12 rfl rfl (by omega)).mono ?_
        rintro e w13 ⟨rfl, hb13⟩
        replace hcur := bl_then hcur hb13
        (refine hK.out _ _ _ (fun _ h => h) (HS.out _ hcur) (fun hHeld => ?_); clear hK; clear K; (try simp only [Act.put, List.setIfInBounds_toArray, List.set_cons_zero, List.set_cons_succ]))
        iterate 5 (refine wpT_take rfl (by rfl) (by rfl) (by intro w' hSw; (try dsimp only [Mem, cellsAt] at hSw); go_simp; (try with_reducible rfl)) (by assumption) ?_; (try simp only [Act.put, List.setIfInBounds_toArray, List.set_cons_zero, List.set_cons_succ]))
        (refine wpT_step rfl (by rfl) (fun K hK => ?_); go_simp)
        refine (crash_any b6 n6 c6 AA none 0 0 [] lo ln lc plan _ _ (hdp6.out.later (bl_then (below_alloc _ _) hcur)) (HPL.out.later (bl_then (below_alloc _ _) (bl_then HX.out (bl_then (below_alloc _ _) (bl_then hbq (bl_then (below_alloc _ _) hcur)))))) (Below.refl _ _) (by omega) (by omega) (by omega) HP.out).mono ?_
        rintro e w14 ⟨b14, n14, c14, rfl, hdp14, hb14⟩
        rw [List.map_nil, crash_lone HLA.out] at hdp14
        replace hcur := bl_then hcur hb14
        (refine hK.out _ _ _ (fun _ h => h) (HS.out _ hcur) (fun hHeld => ?_); clear hK; clear K; (try simp only [Act.put, List.setIfInBounds_toArray, List.set_cons_zero, List.set_cons_succ]))
        (refine wpT_step rfl (by rfl) (fun K hK => ?_); go_simp)
        refine (flat_any b14 n14 c14 AA none 0 0 [] _ hdp14 (by omega)).mono ?_
        rintro e w15 ⟨po15, pc15, rfl, hdp15, hb15⟩
        replace hcur := bl_then hcur hb15
        (refine hK.out _ _ _ (fun _ h => h) (HS.out _ hcur) (fun hHeld => ?_); clear hK; clear K; (try simp only [Act.put, List.setIfInBounds_toArray, List.set_cons_zero, List.set_cons_succ]))
        (refine wpT_step rfl (by rfl) (fun K hK => ?_); go_simp)
        refine (flat_any b6 n6 c6 AA none 0 0 [] _ (hdp6.out.later (bl_then (below_alloc _ _) hcur)) (by omega)).mono ?_
        rintro e w16 ⟨po16, pc16, rfl, hdp16, hb16⟩
        replace hcur := bl_then hcur hb16
        (refine hK.out _ _ _ (fun _ h => h) (HS.out _ hcur) (fun hHeld => ?_); clear hK; clear K; (try simp only [Act.put, List.setIfInBounds_toArray, List.set_cons_zero, List.set_cons_succ]))
        (refine wpT_step rfl (by rfl) (fun K hK => ?_); go_simp)
        refine (same_any b14 n14 c14 AA po15 0 pc15 [] b6 n6 c6 AA po16 0 pc16 [] _ (hdp15.later hb16) hdp16 rfl rfl (by omega)).mono ?_
        rintro e w17 ⟨rfl, hb17⟩
        replace hcur := bl_then hcur hb17
        (refine hK.out _ _ _ (fun _ h => h) (HS.out _ hcur) (fun hHeld => ?_); clear hK; clear K; (try simp only [Act.put, List.setIfInBounds_toArray, List.set_cons_zero, List.set_cons_succ]))
        iterate 4 (refine wpT_take rfl (by rfl) (by rfl) (by intro w' hSw; (try dsimp only [Mem, cellsAt] at hSw); go_simp; (try with_reducible rfl)) (by assumption) ?_; (try simp only [Act.put, List.setIfInBounds_toArray, List.set_cons_zero, List.set_cons_succ]))
        iterate 2 (refine wpT_pass rfl (by rfl) (by rfl) (by assumption) ?_; (try simp only [Act.put, List.setIfInBounds_toArray, List.set_cons_zero, List.set_cons_succ]))
        (refine wpT_step rfl (by rfl) (fun K hK => ?_); go_simp)
        (refine hK.out _ _ _ (fun _ h => h) (HS.out _ hcur) (fun hHeld => ?_); clear hK; clear K; (try simp only [Act.put, List.setIfInBounds_toArray, List.set_cons_zero, List.set_cons_succ]))
        (refine wpT_step rfl (by rfl) (fun K hK => ?_); go_simp)
        (refine hK.out _ _ _ (fun _ h => h) (HS.out _ hcur) (fun hHeld => ?_); clear hK; clear K; (try simp only [Act.put, List.setIfInBounds_toArray, List.set_cons_zero, List.set_cons_succ]))
        (refine wpT_step rfl (by rfl) (fun K hK => ?_); go_simp)
        (refine hK.out _ _ _ (fun _ h => h) (HS.out _ hcur) (fun hHeld => ?_); clear hK; clear K; (try simp only [Act.put, List.setIfInBounds_toArray, List.set_cons_zero, List.set_cons_succ]))
        iterate 3 (refine wpT_take rfl (by rfl) (by rfl) (by intro w' hSw; (try dsimp only [Mem, cellsAt] at hSw); go_simp; (try with_reducible rfl)) (by assumption) ?_; (try simp only [Act.put, List.setIfInBounds_toArray, List.set_cons_zero, List.set_cons_succ]))
        (refine wpT_nil ?_)
        go_wp2
        go_ret
        exact ⟨rfl, bl_then (below_alloc _ _) (bl_then HX.out (bl_then (below_alloc _ _) (bl_then hbq (bl_then (below_alloc _ _) hcur))))⟩
end Go.Proofs.Ytoihponjnhhgbaa
