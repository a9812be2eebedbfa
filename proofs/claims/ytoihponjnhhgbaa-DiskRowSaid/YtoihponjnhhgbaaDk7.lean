/- Disk: Put, Read. -/
import Derived.Test.YtoihponjnhhgbaaDk6
namespace Go.Proofs.Ytoihponjnhhgbaa
set_option linter.unusedVariables false
set_option linter.unusedSimpArgs false
open Go.RowKit

/-- a block that holds no number -/
def NI (w : World) (B : Nat) : Prop := ∀ i k z, w.cell? ⟨B, i, none⟩ ≠ some (.int k z)
theorem ni_box {w w1 : World} {u v : Value} {T : TypeId} (hu : ∀ k z, u ≠ .int k z) (hv : ∀ k z, v ≠ .int k z) (hb : Below (w.alloc (.cells #[u, v] T)).heap.size (w.alloc (.cells #[u, v] T)) w1) : NI w1 w.heap.size := by
  intro i k z h
  rw [hb.cell (p := ⟨w.heap.size, i, none⟩) (by simp), World.cell?_alloc_new] at h
  match i, h with
  | 0, h => simp at h; exact hu _ _ h
  | 1, h => simp at h; exact hv _ _ h
  | i + 2, h => simp at h
theorem NI.set {w : World} {B k : Nat} {u v : Value} (h : NI w B) (hs : w.cell? ⟨B, k, none⟩ = some u) (hv : ∀ k z, v ≠ .int k z) : NI (w.setCell ⟨B, k, none⟩ v) B := by
  intro i k' z hc
  by_cases hi : i = k
  · subst hi
    rw [World.cell?_setCell_same _ _ _ hs] at hc
    exact hv _ _ (Option.some.inj hc)
  · rw [World.cell?_setCell_other _ _ _ _ (by intro e; injection e with _ e2; exact hi e2.symm)] at hc
    exact h i k' z hc
theorem Row.farNI {w : World} {ao : Option Addr} {n c sz : Nat} {xs : List Value} (h : Row w ao n c sz xs) {B k : Nat} {v : Value} (hB : NI w B) (hx : ∀ u, xs[0]? = some u → ∃ k z, u = .int k z) : Row (w.setCell ⟨B, k, none⟩ v) ao n c sz xs := by
  by_cases hne : xs = []
  · subst hne
    exact ⟨h.len, h.le, h.nil, fun _ _ i u hu => by simp at hu, h.one⟩
  · refine h.far (fun ad ha => ?_)
    obtain ⟨u, r, rfl⟩ := List.exists_cons_of_ne_nil hne
    obtain ⟨k', z, rfl⟩ := hx u rfl
    intro e
    have := (h.cells ad ha 0 _ rfl).2
    rw [← e] at this
    exact hB _ _ _ this
theorem b8_int (l : List Int) : ∀ u, (b8 l)[0]? = some u → ∃ k z, u = .int k z := by
  intro u hu
  cases l with
  | nil => simp [b8] at hu
  | cons x r => simp [b8] at hu; exact ⟨_, _, hu.symm⟩
theorem wc_int (R : List Rep) : ∀ u, (wc R)[0]? = some u → ∃ k z, u = .int k z := by
  intro u hu
  cases R with
  | nil => simp [wc] at hu
  | cons x r => simp [wc] at hu; exact ⟨_, _, hu.symm⟩
theorem DP.farNI {w : World} {ao : Option Addr} {n c : Nat} {base : List Int} {po : Option Addr} {m pc : Nat} {R : List Rep} (h : DP w ao n c base po m pc R) {B k : Nat} {v : Value} (hB : NI w B) : DP (w.setCell ⟨B, k, none⟩ v) ao n c base po m pc R :=
  ⟨h.row.farNI hB (b8_int _), h.pend.farNI hB (wc_int _), fun r hr => (h.data r hr).farNI hB (b8_int _)⟩
theorem DP.far2 {w : World} {ao : Option Addr} {n c : Nat} {base : List Int} {po : Option Addr} {m pc : Nat} {R : List Rep} (h : DP w ao n c base po m pc R) {B : Nat} {v u x : Value} (hB : NI w B) (hs : w.cell? ⟨B, 0, none⟩ = some x) (hv : ∀ k z, v ≠ .int k z) : DP ((w.setCell ⟨B, 0, none⟩ v).setCell ⟨B, 1, none⟩ u) ao n c base po m pc R :=
  (h.farNI hB).farNI (hB.set hs hv)

def putD (base : List Int) (pend : List (Int × List Int)) (at_ : Int) (b : List Int) : (List Int × List (Int × List Int)) × Int := if b.length ≠ 32 then (ownD base pend, 14) else layD base pend at_ b

set_option maxHeartbeats 1000000 in
theorem put_any (ao : Option Addr) (n c : Nat) (base : List Int) (po : Option Addr) (m pc : Nat) (R : List Rep) (at_ : Int) (qo : Option Addr) (qn qc : Nat) (b : List Int) (w : World) (h : DP w ao n c base po m pc R) (hq : Row w qo qn qc 1 (b8 b)) (hn : n ≤ 1000000) (hm : m ≤ 1000000) (hqn : qn ≤ 1000000)
    (hat : -9223372036854775808 ≤ at_ ∧ at_ ≤ 9223372036854775807) :
    Calls Try.prog 14 #[.agg #[.slice ao n c, .slice po m pc], .int .i64 at_, .slice qo qn qc] w (LayPost w (putD base (R.map Rep.plain) at_ b)) := by
  have hql := hq.len8
  have HL := Lib.hid (fun w' (hb : Below w.heap.size w w') => lay_any ao n c base po m pc R at_ qo qn qc b w' (h.later hb) (hq.later hb) hn hm hqn hat)
  have HC := Lib.hid (fun w' hb' => own_any ao n c base po m pc R w w' h hb' hn hm)
  by_cases h32 : (qn : Int) = 32
  · have hd := Lib.hid (show putD base (R.map Rep.plain) at_ b = layD base (R.map Rep.plain) at_ b by unfold putD; rw [if_neg (by omega)])
    rw [hd.out]
    clear h hq hql
    go_enter Try.func14, Try.ntmps14
    go_wp2_with (go_at_call 16; (with_reducible refine (HL.out _ (by (repeat (first | exact Below.refl _ _ | refine Below.drew ?_ | refine bl_drewN ?_ _ | (refine Below.alloc ?_ (by first | exact Nat.le_refl _ | (simp; done) | (simp; omega)) _))))).mono ?_); rintro e w1 ⟨ao1, n1, c1, base1, po1, m1, pc1, R1, rfl, hdp, heq, hb1⟩; obtain ⟨hd1, hd2, hd3, hd4, hd5⟩ := box2 hb1; simp only [World.size_alloc] at hd1 hd2 hd3 hd4 hd5; have hni := ni_box (fun _ _ h => by cases h) (fun _ _ h => by cases h) hb1; simp only [World.size_alloc] at hni; replace hni := Lib.hid hni; have hB1 := bl_then (show Below w.heap.size w _ by (repeat (first | exact Below.refl _ _ | refine Below.drew ?_ | refine bl_drewN ?_ _ | (refine Below.alloc ?_ (by first | exact Nat.le_refl _ | (simp; done) | (simp; omega)) _)))) hb1; replace hdp := Lib.hid hdp; replace heq := Lib.hid heq)
    refine bodyPost_ret (v := .tuple #[.agg #[.slice ao1 n1 c1, .slice po1 m1 pc1], .int .i64 (layD base (R.map Rep.plain) at_ b).2]) (by simp [results, Try.results14, go_sem, hd1, hd2, hd3, hd4, hd5]) rfl ?_
    exact ⟨_, _, _, _, _, _, _, _, rfl, hdp.out.far2 hni.out hd1 (fun _ _ h => by cases h), heq.out, (hB1.setCell (Nat.le_succ _) _).setCell (Nat.le_succ _) _⟩
  · have hd := Lib.hid (show putD base (R.map Rep.plain) at_ b = (ownD base (R.map Rep.plain), 14) by unfold putD; rw [if_pos (by omega)])
    rw [hd.out]
    clear h hq hql
    go_enter Try.func14, Try.ntmps14
    go_wp2_with (go_at_call 30; (with_reducible refine (HC.out _ (by (repeat (first | exact Below.refl _ _ | refine Below.drew ?_ | refine bl_drewN ?_ _ | (refine Below.alloc ?_ (by first | exact Nat.le_refl _ | (simp; done) | (simp; omega)) _))))).mono ?_); rintro e w1 ⟨ao1, n1, c1, base1, po1, m1, pc1, R1, rfl, hds, hown, hb1⟩; obtain ⟨hd1, hd2, hd3, hd4, hd5⟩ := box2 hb1; simp only [World.size_alloc] at hd1 hd2 hd3 hd4 hd5; have hB1 := bl_then (show Below w.heap.size w _ by (repeat (first | exact Below.refl _ _ | refine Below.drew ?_ | refine bl_drewN ?_ _ | (refine Below.alloc ?_ (by first | exact Nat.le_refl _ | (simp; done) | (simp; omega)) _)))) hb1; replace hds := Lib.hid hds; replace hown := Lib.hid hown)
    refine bodyPost_ret (v := .tuple #[.agg #[.slice ao1 n1 c1, .slice po1 m1 pc1], .int .i64 14]) (by simp [results, Try.results14, go_sem, hd1, hd2, hd3, hd4, hd5]) rfl ?_
    have hBf := (hB1.setCell (Nat.le_succ _) (.slice ao1 n1 c1) (p := ⟨w.heap.size + 1, 0, none⟩)).setCell (Nat.le_succ _) (.slice po1 m1 pc1) (p := ⟨w.heap.size + 1, 1, none⟩)
    exact ⟨_, _, _, _, _, _, _, _, rfl, (hds.out.later hBf).dp, hown.out, hBf⟩
end Go.Proofs.Ytoihponjnhhgbaa
