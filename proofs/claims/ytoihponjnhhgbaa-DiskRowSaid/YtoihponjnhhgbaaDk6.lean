/- Disk: Lay, Put. -/
import Derived.Test.YtoihponjnhhgbaaDk5
import Derived.Test.YtoihponjnhhgbaaCpy2
namespace Go.Proofs.Ytoihponjnhhgbaa
set_option linter.unusedVariables false
set_option linter.unusedSimpArgs false
open Go.RowKit

theorem eltW : Elt Try.prog 28 57 (.agg #[.int .i64 0, .slice none 0 0]) 2 32 := ⟨Try.underlying28, by kernel_rfl, rfl, by decide, by decide⟩

/-- make([]T, n, m) -/
theorem wpList_makeC {P : Program} {T E : TypeId} {z : Value} {sz wd : Nat} (he : Elt P T E z sz wd) (w : World) {ops : Array Oper} {rest : List Oper} {o : Oper} {a : Act} {Q : Exit → Act → World → Prop} (hgd : o.guard = none) (l c : Operand) (hop : o.op = Op.makeSlice T l c)
    (n m : Nat) (hl : a.eval l = .int .i64 (n : Int)) (hc : a.eval c = .int .i64 (m : Int)) (hnm : n ≤ m) (hw : wd ≤ 1000) (hn : m ≤ 1000000)
    (h : ∀ w' xs, w'.ownsRow w.heap.size E sz (.slice (some ⟨w.heap.size, 0, none⟩) n m) n xs → Below w.heap.size w w' → w'.heap.size = w.heap.size + 1 → wpList P ops Q rest (a.put o.dst (.slice (some ⟨w.heap.size, 0, none⟩) n m)) w') : wpList P ops Q (o :: rest) a w := by
  obtain ⟨i, hi, hz0, hz1, hz2⟩ := info_parts he.hi
  have hwm : wd * m ≤ 1000 * 1000000 := Nat.mul_le_mul hw hn
  have hwm' : ((wd * m : Nat) : Int) ≤ 281474976710656 := by omega
  rw [Int.natCast_mul] at hwm'
  have hrun := run_make (P := P) w T E i z he.ht hi hz0 .i64 .i64 n m (by omega) (by omega) (by rw [hz2]; exact hwm') (by omega)
  simp only [Int.toNat_natCast, hz1] at hrun
  refine wpList_plain hgd fun K hK => ?_
  unfold Oper.wp
  simp [execOp, hop, hl, hc, hrun, Result.andThen]
  have hsz := size_madeCells z.cells (m * sz)
  refine hK _ _ (h _ ((madeCells z.cells (m * sz)).toList.take (n * sz)) ⟨?_, .inr ⟨w.heap.size, m, _, rfl, Nat.le_refl _, heap_alloc_new w _, hnm, by unfold maxLen; omega, hsz, rfl⟩⟩ (below_alloc w _) (by simp))
  have := Nat.mul_le_mul_right sz hnm
  rw [List.length_take, Array.length_toList, hsz]
  exact Nat.min_eq_left this

theorem own_any2 (ao : Option Addr) (n c : Nat) (base : List Int) (po : Option Addr) (m pc : Nat) (R : List Rep) (w0 w : World) (h : DP w0 ao n c base po m pc R) (hb : Below w0.heap.size w0 w) (hn : n ≤ 1000000) (hm : m ≤ 1000000)
    (B : List Int) (L : List (Int × List Int)) (hBL : (B, L) = ownD base (R.map Rep.plain)) (N M : Nat) (hN : N = B.length) (hM : M = L.length) :
    Calls Try.prog 30 #[.agg #[.slice ao n c, .slice po m pc]] w fun e w' => ∃ ao1 c1 po1 pc1 R1, e = .returned (.agg #[.slice ao1 N c1, .slice po1 M pc1]) ∧ DS w0 ao1 N c1 B po1 M pc1 R1 ∧ R1.map Rep.plain = L ∧ Below w.heap.size w w' := by
  refine (own_any ao n c base po m pc R w0 w h hb hn hm).mono ?_
  rintro e w' ⟨ao1, n1, c1, base1, po1, m1, pc1, R1, rfl, hds, hown, hb'⟩
  rw [← hBL] at hown
  injection hown with h1 h2
  subst h1
  subst h2
  have h3 := hds.dp.row.len8
  have h4 := hds.dp.pend.lenw
  rw [List.length_map] at hM
  obtain rfl : n1 = N := by omega
  obtain rfl : m1 = M := by omega
  exact ⟨ao1, c1, po1, pc1, R1, rfl, hds, rfl, hb'⟩

def secs (at_ : Int) (b : List Int) (k : Nat) : List (Int × List Int) := (List.range k).map fun (i : Nat) => (at_ + (i : Int), (b.drop (32 * i)).take 32)
def layD (base : List Int) (pend : List (Int × List Int)) (at_ : Int) (b : List Int) : (List Int × List (Int × List Int)) × Int :=
  if b.length % 32 ≠ 0 then (ownD base pend, 14) else if b.length / 32 = 0 then (ownD base pend, 0) else
  if at_ < 0 ∨ ((ownD base pend).1.length : Int) / 32 - (b.length : Int) / 32 < at_ ∨ (100000 : Int) - (b.length : Int) / 32 < ((ownD base pend).2.length : Int) then (ownD base pend, 14)
  else (((ownD base pend).1, (ownD base pend).2 ++ secs at_ b (b.length / 32)), 0)

theorem after_both {w1 w2 : World} {B B' : Nat} {u v u' v' x y : Value} (hne : B ≠ B') (h1 : w1.cell? ⟨B, 0, none⟩ = some u) (h2 : w1.cell? ⟨B, 1, none⟩ = some v) (h3 : w1.frozen? ⟨B, 0, none⟩ = false) (h4 : w1.frozen? ⟨B, 1, none⟩ = false) (h5 : B < w1.heap.size)
    (k1 : w1.cell? ⟨B', 0, none⟩ = some x) (k2 : w1.cell? ⟨B', 1, none⟩ = some y) (k3 : w1.frozen? ⟨B', 0, none⟩ = false) (k4 : w1.frozen? ⟨B', 1, none⟩ = false) (k5 : B' < w1.heap.size)
    (hb : Below ((w1.setCell ⟨B, 0, none⟩ u').setCell ⟨B, 1, none⟩ v').heap.size ((w1.setCell ⟨B, 0, none⟩ u').setCell ⟨B, 1, none⟩ v') w2) :
    w2.cell? ⟨B, 0, none⟩ = some u' ∧ w2.cell? ⟨B, 1, none⟩ = some v' ∧ w2.frozen? ⟨B, 0, none⟩ = false ∧ w2.frozen? ⟨B, 1, none⟩ = false ∧ B < w2.heap.size ∧
    w2.cell? ⟨B', 0, none⟩ = some x ∧ w2.cell? ⟨B', 1, none⟩ = some y ∧ w2.frozen? ⟨B', 0, none⟩ = false ∧ w2.frozen? ⟨B', 1, none⟩ = false ∧ B' < w2.heap.size := by
  obtain ⟨a1, a2, a3, a4, a5⟩ := after_set h1 h2 h3 h4 h5 hb
  have hlt : B' < ((w1.setCell ⟨B, 0, none⟩ u').setCell ⟨B, 1, none⟩ v').heap.size := by simpa using k5
  have far (i : Nat) : w2.cell? ⟨B', i, none⟩ = w1.cell? ⟨B', i, none⟩ := by
    rw [hb.cell (p := ⟨B', i, none⟩) hlt, World.cell?_setCell_far _ _ _ _ (by exact hne), World.cell?_setCell_far _ _ _ _ (by exact hne)]
  have farf (i : Nat) : w2.frozen? ⟨B', i, none⟩ = w1.frozen? ⟨B', i, none⟩ := by
    rw [hb.frozen (p := ⟨B', i, none⟩) hlt, World.frozen?_setCell, World.frozen?_setCell]
  exact ⟨a1, a2, a3, a4, a5, (far 0).trans k1, (far 1).trans k2, (farf 0).trans k3, (farf 1).trans k4, Nat.lt_of_lt_of_le hlt hb.size⟩

theorem keep10 {w2 w3 : World} {B B' : Nat} {u v x y : Value} (h1 : w2.cell? ⟨B, 0, none⟩ = some u) (h2 : w2.cell? ⟨B, 1, none⟩ = some v) (h3 : w2.frozen? ⟨B, 0, none⟩ = false) (h4 : w2.frozen? ⟨B, 1, none⟩ = false) (h5 : B < w2.heap.size)
    (k1 : w2.cell? ⟨B', 0, none⟩ = some x) (k2 : w2.cell? ⟨B', 1, none⟩ = some y) (k3 : w2.frozen? ⟨B', 0, none⟩ = false) (k4 : w2.frozen? ⟨B', 1, none⟩ = false) (k5 : B' < w2.heap.size) (hb : Below w2.heap.size w2 w3) :
    w3.cell? ⟨B, 0, none⟩ = some u ∧ w3.cell? ⟨B, 1, none⟩ = some v ∧ w3.frozen? ⟨B, 0, none⟩ = false ∧ w3.frozen? ⟨B, 1, none⟩ = false ∧ B < w3.heap.size ∧
    w3.cell? ⟨B', 0, none⟩ = some x ∧ w3.cell? ⟨B', 1, none⟩ = some y ∧ w3.frozen? ⟨B', 0, none⟩ = false ∧ w3.frozen? ⟨B', 1, none⟩ = false ∧ B' < w3.heap.size :=
  ⟨(hb.cell (p := ⟨B, 0, none⟩) h5).trans h1, (hb.cell (p := ⟨B, 1, none⟩) h5).trans h2, (hb.frozen (p := ⟨B, 0, none⟩) h5).trans h3, (hb.frozen (p := ⟨B, 1, none⟩) h5).trans h4, Nat.lt_of_lt_of_le h5 hb.size,
   (hb.cell (p := ⟨B', 0, none⟩) k5).trans k1, (hb.cell (p := ⟨B', 1, none⟩) k5).trans k2, (hb.frozen (p := ⟨B', 0, none⟩) k5).trans k3, (hb.frozen (p := ⟨B', 1, none⟩) k5).trans k4, Nat.lt_of_lt_of_le k5 hb.size⟩

/-- the writes that Lay adds, as they lie: pieces of one copy of the bytes -/
def newR (gd a : Nat) (b : List Int) (j : Nat) : List Rep := (List.range j).map fun (i : Nat) => ⟨(a : Int) + (i : Int), some ⟨gd, i * 32, none⟩, 32, 32, (b.drop (32 * i)).take 32⟩
theorem newR_succ (gd a : Nat) (b : List Int) (j : Nat) : newR gd a b (j + 1) = newR gd a b j ++ [⟨(a : Int) + (j : Int), some ⟨gd, j * 32, none⟩, 32, 32, (b.drop (32 * j)).take 32⟩] := by simp [newR, List.range_succ]
theorem newR_plain (gd a : Nat) (b : List Int) (j : Nat) : (newR gd a b j).map Rep.plain = secs (a : Int) b j := by simp [newR, secs, Rep.plain, Function.comp_def]

def LayRel (w2 : World) (gd M k cb a : Nat) (R1 : List Rep) (b : List Int) (p i : Value) (wr : World) : Prop :=
  ∃ j g cp : Nat, j ≤ k ∧ i = .int .i64 (j : Int) ∧ p = .slice (some ⟨g, 0, none⟩) (M + j) cp ∧ wr.ownsRow w2.heap.size 57 2 (.slice (some ⟨g, 0, none⟩) (M + j) cp) (M + j) (wc (R1 ++ newR gd a b j)) ∧
    wr.ownsRow w2.heap.size 5 1 (.slice (some ⟨gd, 0, none⟩) (32 * k) cb) (32 * k) (b8 b) ∧ g ≠ gd ∧ gd < wr.heap.size ∧ Below w2.heap.size w2 wr

/-- What Lay and Put return: a disk and an error's number. -/
def LayPost (w : World) (D : (List Int × List (Int × List Int)) × Int) (e : Ending) (w' : World) : Prop :=
  ∃ ao n c base po m pc R, e = .returned (.tuple #[.agg #[.slice ao n c, .slice po m pc], .int .i64 D.2]) ∧ DP w' ao n c base po m pc R ∧ (base, R.map Rep.plain) = D.1 ∧ Below w.heap.size w w'

set_option maxHeartbeats 1000000 in
theorem lay_any (ao : Option Addr) (n c : Nat) (base : List Int) (po : Option Addr) (m pc : Nat) (R : List Rep) (at_ : Int) (qo : Option Addr) (qn qc : Nat) (b : List Int) (w : World) (h : DP w ao n c base po m pc R) (hq : Row w qo qn qc 1 (b8 b)) (hn : n ≤ 1000000) (hm : m ≤ 1000000) (hqn : qn ≤ 1000000)
    (hat : -9223372036854775808 ≤ at_ ∧ at_ ≤ 9223372036854775807) :
    Calls Try.prog 16 #[.agg #[.slice ao n c, .slice po m pc], .int .i64 at_, .slice qo qn qc] w (LayPost w (layD base (R.map Rep.plain) at_ b)) := by
  obtain ⟨B, L, hBL⟩ : ∃ B L, (B, L) = ownD base (R.map Rep.plain) := ⟨_, _, rfl⟩
  obtain ⟨N, hN⟩ : ∃ N, N = B.length := ⟨_, rfl⟩
  obtain ⟨M, hM⟩ : ∃ M, M = L.length := ⟨_, rfl⟩
  have hql := hq.len8
  have hok := ownD_sane base (R.map Rep.plain)
  rw [← hBL] at hok
  dsimp only at hok
  obtain ⟨hs1, hs2, hs3, hs4⟩ := saneD_parts hok
  obtain ⟨D, hD⟩ : ∃ D, layD base (R.map Rep.plain) at_ b = D := ⟨_, rfl⟩
  have HD := Lib.hid (show D = if qn % 32 ≠ 0 then ((B, L), 14) else if qn / 32 = 0 then ((B, L), 0) else if at_ < 0 ∨ (N : Int) / 32 - (qn : Int) / 32 < at_ ∨ (100000 : Int) - (qn : Int) / 32 < (M : Int) then ((B, L), 14) else ((B, L ++ secs at_ b (qn / 32)), 0) by
    rw [← hD, layD, ← hBL, ← hql, ← hN, ← hM])
  rw [hD]
  have HC := Lib.hid (fun w' hb' => own_any2 ao n c base po m pc R w w' h hb' hn hm B L hBL N M hN hM)
  have HQ := Lib.hid hq
  have HQL := Lib.hid hql
  have HN := Lib.hid hN
  have HM := Lib.hid hM
  have hN2 : N ≤ 131072 := by omega
  have hN3 : N % 32 = 0 := by omega
  have hM2 : M ≤ 100000 := by omega
  have HCN := Lib.hid (fun ao1 c1 po1 pc1 w' => count_any ao1 N c1 po1 M pc1 w' (by omega))
  clear hD hBL hN hM hql hok hs1 hs2 hs3 hs4 h hq
  have fin0 : ∀ (r : Int) (wz : World) (ao1 : Option Addr) (c1 : Nat) (po1 : Option Addr) (pc1 : Nat) (R1 : List Rep), D = ((B, L), r) → DS w ao1 N c1 B po1 M pc1 R1 → R1.map Rep.plain = L → Below w.heap.size w wz → LayPost w D (.returned (.tuple #[.agg #[.slice ao1 N c1, .slice po1 M pc1], .int .i64 r])) wz := by
    intro r wz ao1 c1 po1 pc1 R1 hd hds hl hb
    rw [hd]
    exact ⟨_, _, _, _, _, _, _, _, rfl, (hds.later hb).dp, by rw [hl], hb⟩
  have FIN0 := Lib.hid fin0
  clear fin0
  by_cases h32 : ¬ (qn : Int) % 32 = 0
  · have hd := Lib.hid (show D = ((B, L), 14) by rw [HD.out, if_pos (by omega)])
    go_enter Try.func16, Try.ntmps16
    go_wp2_with (go_at_call 30; (with_reducible refine (HC.out _ (by (repeat (first | exact Below.refl _ _ | refine Below.drew ?_ | refine bl_drewN ?_ _ | (refine Below.alloc ?_ (by first | exact Nat.le_refl _ | (simp; done) | (simp; omega)) _))))).mono ?_); rintro e w1 ⟨ao1, c1, po1, pc1, R1, rfl, hds, hown, hb1⟩; obtain ⟨hc1, hc2, hc3, hc4, hc5⟩ := box2 (bl_then (below_alloc _ _) hb1); obtain ⟨hd1, hd2, hd3, hd4, hd5⟩ := box2 hb1; simp only [World.size_alloc] at hd1 hd2 hd3 hd4 hd5; have hB1 := bl_then (show Below w.heap.size w _ by (repeat (first | exact Below.refl _ _ | refine Below.drew ?_ | refine bl_drewN ?_ _ | (refine Below.alloc ?_ (by first | exact Nat.le_refl _ | (simp; done) | (simp; omega)) _)))) hb1; clear hb1; replace hds := Lib.hid hds; replace hown := Lib.hid hown)
    refine bodyPost_ret (v := .tuple #[.agg #[.slice ao1 N c1, .slice po1 M pc1], .int .i64 14]) (by simp [results, Try.results16, go_sem, hd1, hd2, hd3, hd4, hd5]) rfl ?_
    exact FIN0.out _ _ _ _ _ _ _ hd.out hds.out hown.out (by refine Below.setCell (Below.setCell (Below.setCell (Below.setCell hB1 ?_ _) ?_ _) ?_ _) ?_ _ <;> first | exact Nat.le_refl _ | exact Nat.le_succ _)
  by_cases h0 : qn / 32 = 0
  · have hd := Lib.hid (show D = ((B, L), 0) by rw [HD.out, if_neg (by omega), if_pos h0])
    have h0' : (qn : Int) / 32 = 0 := by omega
    go_enter Try.func16, Try.ntmps16
    go_wp2_with (go_at_call 30; (with_reducible refine (HC.out _ (by (repeat (first | exact Below.refl _ _ | refine Below.drew ?_ | refine bl_drewN ?_ _ | (refine Below.alloc ?_ (by first | exact Nat.le_refl _ | (simp; done) | (simp; omega)) _))))).mono ?_); rintro e w1 ⟨ao1, c1, po1, pc1, R1, rfl, hds, hown, hb1⟩; obtain ⟨hc1, hc2, hc3, hc4, hc5⟩ := box2 (bl_then (below_alloc _ _) hb1); obtain ⟨hd1, hd2, hd3, hd4, hd5⟩ := box2 hb1; simp only [World.size_alloc] at hd1 hd2 hd3 hd4 hd5; have hB1 := bl_then (show Below w.heap.size w _ by (repeat (first | exact Below.refl _ _ | refine Below.drew ?_ | refine bl_drewN ?_ _ | (refine Below.alloc ?_ (by first | exact Nat.le_refl _ | (simp; done) | (simp; omega)) _)))) hb1; clear hb1; replace hds := Lib.hid hds; replace hown := Lib.hid hown)
    refine bodyPost_ret (v := .tuple #[.agg #[.slice ao1 N c1, .slice po1 M pc1], .int .i64 0]) (by simp [results, Try.results16, go_sem, hd1, hd2, hd3, hd4, hd5]) rfl ?_
    exact FIN0.out _ _ _ _ _ _ _ hd.out hds.out hown.out (by refine Below.setCell (Below.setCell (Below.setCell (Below.setCell hB1 ?_ _) ?_ _) ?_ _) ?_ _ <;> first | exact Nat.le_refl _ | exact Nat.le_succ _)
  by_cases hbad : at_ < 0 ∨ (N : Int) / 32 - (qn : Int) / 32 < at_ ∨ (100000 : Int) - (qn : Int) / 32 < (M : Int)
  · have hd := Lib.hid (show D = ((B, L), 14) by rw [HD.out, if_neg (by omega), if_neg h0, if_pos hbad])
    have h0' : ¬ (qn : Int) / 32 = 0 := by omega
    by_cases ha : at_ < 0
    · go_enter Try.func16, Try.ntmps16
      go_wp2_with (go_at_call 30; (with_reducible refine (HC.out _ (by (repeat (first | exact Below.refl _ _ | refine Below.drew ?_ | refine bl_drewN ?_ _ | (refine Below.alloc ?_ (by first | exact Nat.le_refl _ | (simp; done) | (simp; omega)) _))))).mono ?_); rintro e w1 ⟨ao1, c1, po1, pc1, R1, rfl, hds, hown, hb1⟩; obtain ⟨hc1, hc2, hc3, hc4, hc5⟩ := box2 (bl_then (below_alloc _ _) hb1); obtain ⟨hd1, hd2, hd3, hd4, hd5⟩ := box2 hb1; simp only [World.size_alloc] at hd1 hd2 hd3 hd4 hd5; have hB1 := bl_then (show Below w.heap.size w _ by (repeat (first | exact Below.refl _ _ | refine Below.drew ?_ | refine bl_drewN ?_ _ | (refine Below.alloc ?_ (by first | exact Nat.le_refl _ | (simp; done) | (simp; omega)) _)))) hb1; clear hb1; replace hds := Lib.hid hds; replace hown := Lib.hid hown)
      refine bodyPost_ret (v := .tuple #[.agg #[.slice ao1 N c1, .slice po1 M pc1], .int .i64 14]) (by simp [results, Try.results16, go_sem, hd1, hd2, hd3, hd4, hd5]) rfl ?_
      exact FIN0.out _ _ _ _ _ _ _ hd.out hds.out hown.out (by refine Below.setCell (Below.setCell (Below.setCell (Below.setCell (hB1) ?_ _) ?_ _) ?_ _) ?_ _ <;> first | exact Nat.le_refl _ | exact Nat.le_succ _)
    by_cases hb' : (N : Int) / 32 - (qn : Int) / 32 < at_
    · go_enter Try.func16, Try.ntmps16
      go_wp2_with (first | (go_at_call 30; (with_reducible refine (HC.out _ (by (repeat (first | exact Below.refl _ _ | refine Below.drew ?_ | refine bl_drewN ?_ _ | (refine Below.alloc ?_ (by first | exact Nat.le_refl _ | (simp; done) | (simp; omega)) _))))).mono ?_); rintro e w1 ⟨ao1, c1, po1, pc1, R1, rfl, hds, hown, hb1⟩; obtain ⟨hc1, hc2, hc3, hc4, hc5⟩ := box2 (bl_then (below_alloc _ _) hb1); obtain ⟨hd1, hd2, hd3, hd4, hd5⟩ := box2 hb1; simp only [World.size_alloc] at hd1 hd2 hd3 hd4 hd5; have hB1 := bl_then (show Below w.heap.size w _ by (repeat (first | exact Below.refl _ _ | refine Below.drew ?_ | refine bl_drewN ?_ _ | (refine Below.alloc ?_ (by first | exact Nat.le_refl _ | (simp; done) | (simp; omega)) _)))) hb1; clear hb1; replace hds := Lib.hid hds; replace hown := Lib.hid hown) | (go_at_call 31; (with_reducible refine (HCN.out _ _ _ _ _).mono ?_); rintro e w2 ⟨rfl, hb2⟩; have hB2 := bl_then ((hB1.setCell (Nat.le_refl _) _).setCell (Nat.le_refl _) _) hb2; obtain ⟨he1, he2, he3, he4, he5, hf1, hf2, hf3, hf4, hf5⟩ := after_both (Nat.succ_ne_self _).symm hc1 hc2 hc3 hc4 hc5 hd1 hd2 hd3 hd4 hd5 hb2; clear hb2))
      refine bodyPost_ret (v := .tuple #[.agg #[.slice ao1 N c1, .slice po1 M pc1], .int .i64 14]) (by simp [results, Try.results16, go_sem, hf1, hf2, hf3, hf4, hf5]) rfl ?_
      exact FIN0.out _ _ _ _ _ _ _ hd.out hds.out hown.out (by refine Below.setCell (Below.setCell (hB2) ?_ _) ?_ _ <;> first | exact Nat.le_refl _ | exact Nat.le_succ _)
    have hc' : (100000 : Int) - (qn : Int) / 32 < (M : Int) := by omega
    go_enter Try.func16, Try.ntmps16
    go_wp2_with (first | (go_at_call 30; (with_reducible refine (HC.out _ (by (repeat (first | exact Below.refl _ _ | refine Below.drew ?_ | refine bl_drewN ?_ _ | (refine Below.alloc ?_ (by first | exact Nat.le_refl _ | (simp; done) | (simp; omega)) _))))).mono ?_); rintro e w1 ⟨ao1, c1, po1, pc1, R1, rfl, hds, hown, hb1⟩; obtain ⟨hc1, hc2, hc3, hc4, hc5⟩ := box2 (bl_then (below_alloc _ _) hb1); obtain ⟨hd1, hd2, hd3, hd4, hd5⟩ := box2 hb1; simp only [World.size_alloc] at hd1 hd2 hd3 hd4 hd5; have hB1 := bl_then (show Below w.heap.size w _ by (repeat (first | exact Below.refl _ _ | refine Below.drew ?_ | refine bl_drewN ?_ _ | (refine Below.alloc ?_ (by first | exact Nat.le_refl _ | (simp; done) | (simp; omega)) _)))) hb1; clear hb1; replace hds := Lib.hid hds; replace hown := Lib.hid hown) | (go_at_call 31; (with_reducible refine (HCN.out _ _ _ _ _).mono ?_); rintro e w2 ⟨rfl, hb2⟩; have hB2 := bl_then ((hB1.setCell (Nat.le_refl _) _).setCell (Nat.le_refl _) _) hb2; obtain ⟨he1, he2, he3, he4, he5, hf1, hf2, hf3, hf4, hf5⟩ := after_both (Nat.succ_ne_self _).symm hc1 hc2 hc3 hc4 hc5 hd1 hd2 hd3 hd4 hd5 hb2; clear hb2))
    refine bodyPost_ret (v := .tuple #[.agg #[.slice ao1 N c1, .slice po1 M pc1], .int .i64 14]) (by simp [results, Try.results16, go_sem, hf1, hf2, hf3, hf4, hf5]) rfl ?_
    exact FIN0.out _ _ _ _ _ _ _ hd.out hds.out hown.out (by refine Below.setCell (Below.setCell (hB2) ?_ _) ?_ _ <;> first | exact Nat.le_refl _ | exact Nat.le_succ _)
  have hd := Lib.hid (show D = ((B, L ++ secs at_ b (qn / 32)), 0) by rw [HD.out, if_neg (by omega), if_neg h0, if_neg hbad])
  obtain ⟨k, hk⟩ : ∃ k, qn / 32 = k := ⟨_, rfl⟩
  rw [hk] at hd
  have hk' : (qn : Int) / 32 = (k : Int) := by omega
  obtain ⟨a, rfl⟩ := Int.eq_ofNat_of_zero_le (show 0 ≤ at_ by omega)
  have hk0 : ¬ (k : Int) = 0 := by omega
  have hk1 : k ≤ 31250 := by omega
  have hqk : qn = 32 * k := by omega
  have ha1 : (a : Int) ≤ (N : Int) / 32 - (k : Int) := by omega
  have ha2 : (M : Int) ≤ 100000 - (k : Int) := by omega
  clear hbad h0 hk h32 hk'
  subst hqk
  go_enter Try.func16, Try.ntmps16
  go_wp2_with (first | (go_at_call 30; (with_reducible refine (HC.out _ (by (repeat (first | exact Below.refl _ _ | refine Below.drew ?_ | refine bl_drewN ?_ _ | (refine Below.alloc ?_ (by first | exact Nat.le_refl _ | (simp; done) | (simp; omega)) _))))).mono ?_); rintro e w1 ⟨ao1, c1, po1, pc1, R1, rfl, hds, hown, hb1⟩; obtain ⟨hc1, hc2, hc3, hc4, hc5⟩ := box2 (bl_then (below_alloc _ _) hb1); obtain ⟨hd1, hd2, hd3, hd4, hd5⟩ := box2 hb1; simp only [World.size_alloc] at hd1 hd2 hd3 hd4 hd5; have hB1 := bl_then (show Below w.heap.size w _ by (repeat (first | exact Below.refl _ _ | refine Below.drew ?_ | refine bl_drewN ?_ _ | (refine Below.alloc ?_ (by first | exact Nat.le_refl _ | (simp; done) | (simp; omega)) _)))) hb1; clear hb1; replace hds := Lib.hid hds; replace hown := Lib.hid hown) | (go_at_call 31; (with_reducible refine (HCN.out _ _ _ _ _).mono ?_); rintro e w2 ⟨rfl, hb2⟩; have hB2 := bl_then ((hB1.setCell (Nat.le_refl _) _).setCell (Nat.le_refl _) _) hb2; obtain ⟨he1, he2, he3, he4, he5, hf1, hf2, hf3, hf4, hf5⟩ := after_both (Nat.succ_ne_self _).symm hc1 hc2 hc3 hc4 hc5 hd1 hd2 hd3 hd4 hd5 hb2; clear hb2) | (refine wpList_makeC eltW _ rfl (.tmp 46) (.tmp 51) rfl M (M + k) rfl rfl (by omega) (by decide) (by omega) ?_; intro w3 xs3 hown3 hb3 hsz3; obtain ⟨hg1, hg2, hg3, hg4, hg5, hh1, hh2, hh3, hh4, hh5⟩ := keep10 he1 he2 he3 he4 he5 hf1 hf2 hf3 hf4 hf5 hb3; replace hown3 := Lib.hid hown3) | (refine wpList_copyW eltW w2 _ hb3 rfl (.tmp 53) (.tmp 55) rfl w2.heap.size M (M + k) xs3 hown3.out rfl po1 pc1 (wc R1) rfl (hds.out.later (bl_then hB2 hb3)).dp.pend ?_; intro w4 hown4 hb4 _ hsz4; replace hown4 := Lib.hid hown4) | (go_at_call 34; (with_reducible refine (clone_any qo _ qc _ _ (HQ.out.later (bl_then hB2 hb4)) (by omega)).mono ?_); rintro e w5 ⟨bo, cb, rfl, hbo, hb5⟩; replace hbo := Lib.hid hbo))
  obtain ⟨gd, hbo1, hdat⟩ : ∃ g, bo = some ⟨g, 0, none⟩ ∧ w5.ownsRow w4.heap.size 5 1 (.slice (some ⟨g, 0, none⟩) (32 * k) cb) (32 * k) (b8 b) := by
    rcases hbo.out with ⟨_, h0, _⟩ | h
    · omega
    · exact h
  subst hbo1
  have hgd := hdat.lt gd rfl
  have hcb : 32 * k ≤ cb := (hbo.out.row (b8_one _)).le
  have hb25 := bl_then hb4 hb5
  have HDT := Lib.hid hdat
  have HP5 := Lib.hid (ownsRow_later hown4.out hb5)
  have hlt25 := hb4.size
  clear hdat hown3 hb3 hg1 hg2 hg3 hg4 hg5 hh1 hh2 hh3 hh4 hh5 hc1 hc2 hc3 hc4 hc5 hd1 hd2 hd3 hd4 hd5
  go_loopw [9, 60] (fun p i wr => LayRel w2 gd M k cb a R1 b p i wr) (fun _ i _ => k - (intOf i).toNat)
  case atStart => exact ⟨0, w2.heap.size, M + k, by omega, rfl, rfl, by simpa [newR] using HP5.out, ownsRow_base HDT.out (by omega), by omega, hgd.2, hb25⟩
  case round =>
    clear HP5 hbo
    obtain ⟨j, g, cp, hj, rfl, rfl, hp, hdt, hgg, hgl, hbr⟩ := hrel
    have HP := Lib.hid hp
    have HDT := Lib.hid hdt
    have hgB := (hp.lt g rfl)
    clear hp hdt
    by_cases hlt : j < k
    · have hjk : (j : Int) < (k : Int) := by omega
      have HX := Lib.hid (row_new wr #[.int .i64 ((a : Int) + (j : Int)), .slice (some ⟨gd, j * 32, none⟩) 32 32] 57 1 1 2 rfl (by omega) (by simp [Value.oneCell']))
      have HN := Lib.hid (HP.out.alloc (.cells #[.int .i64 ((a : Int) + (j : Int)), .slice (some ⟨gd, j * 32, none⟩) 32 32] 57))
      go_wp2_with (first | (go_at_call 32; (with_reducible refine (sector_any gd 0 (32 * k) cb j _ (by omega) hcb (by omega)).mono ?_); rintro e w6 ⟨rfl, hw6⟩; subst hw6) | (at_builtin; refine wpList_appO eltW _ rfl _ _ rfl w2.heap.size g (M + j) cp _ rfl HN.out _ 1 1 _ rfl HX.out (by omega) (by have := hbr.size; simp; omega) ?_; intro g2 cp2 w7 hown7 hgrow7 hor7 hB7 hlt7; replace hown7 := Lib.hid hown7; have hsz7 := hgrow7.size))
      have hD7 := Lib.hid ((HDT.out.alloc (.cells #[.int .i64 ((a : Int) + (j : Int)), .slice (some ⟨gd, j * 32, none⟩) 32 32] 57)).kept hgrow7 (.inr (by show some gd ≠ some g; intro h; cases h; exact hgg rfl)))
      have hb7 := below_grown (hbr.alloc hbr.size _) hgrow7 (fun k hk => by cases hk; exact hgB.1)
      simp only [World.size_alloc] at hsz7 hor7
      clear hgrow7
      go_roundw
      case rel => exact ⟨j + 1, g2, cp2, by omega, by go_num, rfl, by rw [newR_succ, ← List.append_assoc, wc_app]; exact hown7.out, hD7.out, by omega, by omega, hb7⟩
      case measure => simp [intOf]; omega
    · have hjk : j = k := by omega
      subst hjk
      obtain ⟨hg1, hg2, hg3, hg4, hg5, hh1, hh2, hh3, hh4, hh5⟩ := keep10 he1 he2 he3 he4 he5 hf1 hf2 hf3 hf4 hf5 hbr
      have hBz := bl_then hB2 hbr
      go_wp2
      refine bodyPost_ret (v := .tuple #[.agg #[.slice ao1 N c1, .slice (some ⟨g, 0, none⟩) (M + j) cp], .int .i64 0]) (by simp [results, Try.results16, go_sem, hg1, hg2, hg3, hg4, hg5, hh1, hh2, hh3, hh4, hh5]) rfl ?_
      rw [hd.out]
      refine ⟨ao1, N, c1, B, some ⟨g, 0, none⟩, M + j, cp, R1 ++ newR gd a b j, rfl, ?_, ?_, (hBz.setCell (Nat.le_succ _) _).setCell (Nat.le_succ _) _⟩
      · have hBf : Below w.heap.size w ((wr.setCell ⟨w.heap.size + 1, 0, none⟩ (.slice ao1 N c1)).setCell ⟨w.heap.size + 1, 1, none⟩ (.slice (some ⟨g, 0, none⟩) (M + j) cp)) := (hBz.setCell (Nat.le_succ _) _).setCell (Nat.le_succ _) _
        have hne : w.heap.size + 1 ≠ g := by omega
        have hne2 : w.heap.size + 1 ≠ gd := by omega
        refine ⟨(hds.out.later hBf).dp.row, ((row_own HP.out (wc_one _)).far (fun ad ha => by cases ha; exact hne)).far (fun ad ha => by cases ha; exact hne), fun r hr => ?_⟩
        rcases List.mem_append.1 hr with hr | hr
        · exact (hds.out.later hBf).dp.data r hr
        · simp only [newR, List.mem_map, List.mem_range] at hr
          obtain ⟨i, hi, rfl⟩ := hr
          have h1 := ((row_own HDT.out (b8_one _)).far (b := w.heap.size + 1) (k := 0) (v := .slice ao1 N c1) (fun ad ha => by cases ha; exact hne2)).far (b := w.heap.size + 1) (k := 1) (v := .slice (some ⟨g, 0, none⟩) (M + j) cp) (fun ad ha => by cases ha; exact hne2)
          have h2 := (h1.drop (i * 32) (by omega)).pre 32 (by omega)
          rw [Nat.zero_add, Nat.mul_one, b8_drop, b8_take, show List.drop (i * 32) b = List.drop (32 * i) b by rw [Nat.mul_comm]] at h2
          have h3 := h2.full
          exact h3
      · rw [List.map_append, hown.out, newR_plain]
end Go.Proofs.Ytoihponjnhhgbaa
