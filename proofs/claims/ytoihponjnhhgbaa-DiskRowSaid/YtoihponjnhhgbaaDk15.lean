/- Disk: Read. -/
import Derived.Test.YtoihponjnhhgbaaDk14
namespace Go.Proofs.Ytoihponjnhhgbaa
set_option linter.unusedVariables false
set_option linter.unusedSimpArgs false
open Go.RowKit

def rdL (L : List (Int × List Int)) (at_ : Int) (x : List Int) : List Int := L.foldl (fun x p => if p.1 = at_ then p.2 else x) x
def readD (base : List Int) (pend : List (Int × List Int)) (at_ : Int) : List Int × Int :=
  if at_ < 0 ∨ ((ownD base pend).1.length : Int) / 32 ≤ at_ then ([], 14) else (rdL (ownD base pend).2 at_ (((ownD base pend).1.drop (32 * at_.toNat)).take 32), 0)
def ReadPost (w : World) (D : List Int × Int) (e : Ending) (w' : World) : Prop :=
  ∃ bo N c, e = .returned (.tuple #[.slice bo N c, .int .i64 D.2]) ∧ Row w' bo N c 1 (b8 D.1) ∧ Below w.heap.size w w'
def RdRel (w : World) (at_ : Int) (m : Nat) (L : List (Int × List Int)) (x0 : List Int) (data i : Value) (wr : World) : Prop :=
  ∃ (j xc : Nat) (xo : Option Addr), j ≤ m ∧ i = .int .i64 (j : Int) ∧ data = .slice xo 32 xc ∧ Row w xo 32 xc 1 (b8 (rdL (L.take j) at_ x0)) ∧ Below w.heap.size w wr

set_option maxHeartbeats 1000000 in
theorem read_any (ao : Option Addr) (n c : Nat) (base : List Int) (po : Option Addr) (m pc : Nat) (R : List Rep) (at_ : Int) (w : World) (h : DP w ao n c base po m pc R) (hn : n ≤ 1000000) (hm : m ≤ 1000000)
    (hat : -9223372036854775808 ≤ at_ ∧ at_ ≤ 9223372036854775807) :
    Calls Try.prog 12 #[.agg #[.slice ao n c, .slice po m pc], .int .i64 at_] w (ReadPost w (readD base (R.map Rep.plain) at_)) := by
  obtain ⟨B, L, hBL⟩ : ∃ B L, (B, L) = ownD base (R.map Rep.plain) := ⟨_, _, rfl⟩
  obtain ⟨N, hN⟩ : ∃ N, N = B.length := ⟨_, rfl⟩
  obtain ⟨M, hM⟩ : ∃ M, M = L.length := ⟨_, rfl⟩
  have hok := ownD_sane base (R.map Rep.plain)
  rw [← hBL] at hok
  dsimp only at hok
  obtain ⟨hs1, hs2, hs3, hs4⟩ := saneD_parts hok
  obtain ⟨D, hD⟩ : ∃ D, readD base (R.map Rep.plain) at_ = D := ⟨_, rfl⟩
  have HD := Lib.hid (show D = if at_ < 0 ∨ (N : Int) / 32 ≤ at_ then ([], 14) else (rdL L at_ ((B.drop (32 * at_.toNat)).take 32), 0) by
    rw [← hD, readD, ← hBL, ← hN])
  rw [hD]
  have HC := Lib.hid (fun w' hb' => own_any2 ao n c base po m pc R w w' h hb' hn hm B L hBL N M hN hM)
  have HN := Lib.hid hN
  have HM := Lib.hid hM
  have hN2 : N ≤ 131072 := by omega
  have hM2 : M ≤ 100000 := by omega
  have HCN := Lib.hid (fun ao1 c1 po1 pc1 w' => count_any ao1 N c1 po1 M pc1 w' (by omega))
  clear hD hBL hN hM hok hs1 hs2 hs3 hs4 h
  by_cases ha : at_ < 0
  · have hd := Lib.hid (show D = ([], 14) by rw [HD.out, if_pos (.inl ha)])
    go_enter Try.func12, Try.ntmps12
    go_wp2_with (go_at_call 30; (with_reducible refine (HC.out _ (by (repeat (first | exact Below.refl _ _ | refine Below.drew ?_ | refine bl_drewN ?_ _ | (refine Below.alloc ?_ (by first | exact Nat.le_refl _ | (simp; done) | (simp; omega)) _))))).mono ?_); rintro e w1 ⟨ao1, c1, po1, pc1, R1, rfl, hds, hown, hb1⟩; obtain ⟨hc1, hc2, hc3, hc4, hc5⟩ := box2 hb1; have hB1 := bl_then (show Below w.heap.size w _ by (repeat (first | exact Below.refl _ _ | refine Below.drew ?_ | refine bl_drewN ?_ _ | (refine Below.alloc ?_ (by first | exact Nat.le_refl _ | (simp; done) | (simp; omega)) _)))) hb1; clear hb1; have hle := hds.dp.row.le; replace hds := Lib.hid hds; replace hown := Lib.hid hown)
    go_ret2
    rw [hd.out]
    exact ⟨none, 0, 0, rfl, row_nil _ 1, by refine Below.setCell (Below.setCell hB1 ?_ _) ?_ _ <;> exact Nat.le_refl _⟩
  obtain ⟨a, rfl⟩ := Int.eq_ofNat_of_zero_le (show 0 ≤ at_ by omega)
  by_cases hb' : (N : Int) / 32 ≤ (a : Int)
  · have hd := Lib.hid (show D = ([], 14) by rw [HD.out, if_pos (.inr hb')])
    go_enter Try.func12, Try.ntmps12
    go_wp2_with (first | (go_at_call 30; (with_reducible refine (HC.out _ (by (repeat (first | exact Below.refl _ _ | refine Below.drew ?_ | refine bl_drewN ?_ _ | (refine Below.alloc ?_ (by first | exact Nat.le_refl _ | (simp; done) | (simp; omega)) _))))).mono ?_); rintro e w1 ⟨ao1, c1, po1, pc1, R1, rfl, hds, hown, hb1⟩; obtain ⟨hc1, hc2, hc3, hc4, hc5⟩ := box2 hb1; have hB1 := bl_then (show Below w.heap.size w _ by (repeat (first | exact Below.refl _ _ | refine Below.drew ?_ | refine bl_drewN ?_ _ | (refine Below.alloc ?_ (by first | exact Nat.le_refl _ | (simp; done) | (simp; omega)) _)))) hb1; clear hb1; have hle := hds.dp.row.le; replace hds := Lib.hid hds; replace hown := Lib.hid hown) | (go_at_call 31; (with_reducible refine (HCN.out _ _ _ _ _).mono ?_); rintro e w2 ⟨rfl, hb2⟩; have hB2 := bl_then ((hB1.setCell (Nat.le_refl _) _).setCell (Nat.le_refl _) _) hb2; obtain ⟨he1, he2, he3, he4, he5⟩ := after_set hc1 hc2 hc3 hc4 hc5 hb2; clear hb2))
    go_ret2
    rw [hd.out]
    exact ⟨none, 0, 0, rfl, row_nil _ 1, hB2⟩
  have haN : 32 * a + 32 ≤ N := by omega
  have hd := Lib.hid (show D = (rdL L (a : Int) ((B.drop (32 * a)).take 32), 0) by rw [HD.out, if_neg (by omega)]; rfl)
  go_enter Try.func12, Try.ntmps12
  go_wp2_with (first | (go_at_call 30; (with_reducible refine (HC.out _ (by (repeat (first | exact Below.refl _ _ | refine Below.drew ?_ | refine bl_drewN ?_ _ | (refine Below.alloc ?_ (by first | exact Nat.le_refl _ | (simp; done) | (simp; omega)) _))))).mono ?_); rintro e w1 ⟨ao1, c1, po1, pc1, R1, rfl, hds, hown, hb1⟩; obtain ⟨hc1, hc2, hc3, hc4, hc5⟩ := box2 hb1; have hB1 := bl_then (show Below w.heap.size w _ by (repeat (first | exact Below.refl _ _ | refine Below.drew ?_ | refine bl_drewN ?_ _ | (refine Below.alloc ?_ (by first | exact Nat.le_refl _ | (simp; done) | (simp; omega)) _)))) hb1; clear hb1; have hle := hds.dp.row.le; replace hds := Lib.hid hds; replace hown := Lib.hid hown) | (go_at_call 31; (with_reducible refine (HCN.out _ _ _ _ _).mono ?_); rintro e w2 ⟨rfl, hb2⟩; have hB2 := bl_then ((hB1.setCell (Nat.le_refl _) _).setCell (Nat.le_refl _) _) hb2; obtain ⟨he1, he2, he3, he4, he5⟩ := after_set hc1 hc2 hc3 hc4 hc5 hb2; clear hb2) | (go_at_call 32; obtain ⟨bb, ob, hao⟩ := row_addr hds.out.dp.row (by intro e; have := hds.out.dp.row.len; rw [e] at this; simp at this; omega); subst hao; (with_reducible refine (sector_any bb ob N c1 a _ haN hle (by omega)).mono ?_); rintro e w3 ⟨rfl, hw3⟩; subst hw3))
  have HL := Lib.hid hown.out
  have HR0 := Lib.hid (show Row w (some ⟨bb, ob + a * 32, none⟩) 32 32 1 (b8 ((B.drop (32 * a)).take 32)) by
    have h2 := ((hds.out.dp.row.drop (a * 32) (by omega)).pre 32 (by omega)).full
    rw [Nat.mul_one, b8_drop, b8_take] at h2
    rw [show List.drop (32 * a) B = List.drop (a * 32) B by rw [Nat.mul_comm]]
    exact h2)
  go_loopw [6, 26] (fun data i wr => RdRel w (a : Int) M L ((B.drop (32 * a)).take 32) data i wr) (fun _ i _ => M - (intOf i).toNat)
  case atStart => exact ⟨0, 32, some ⟨bb, ob + a * 32, none⟩, by omega, rfl, rfl, by simpa [rdL] using HR0.out, hB2⟩
  case round =>
    obtain ⟨j, xc, xo, hj, rfl, rfl, hrx, hbr⟩ := hrel
    have HRX := Lib.hid hrx
    clear hrx
    by_cases hlt : j < M
    · have hd3 := hds.out.later hbr
      have hlm := hd3.dp.pend.lenw
      obtain ⟨b, off, rfl⟩ := row_addr hd3.dp.pend (by intro e; have := wc_len R1; rw [e] at this; simp at this; omega)
      obtain ⟨r, hr⟩ : ∃ r, R1[j]? = some r := ⟨_, List.getElem?_eq_getElem (by omega)⟩
      obtain ⟨hw1, hw2⟩ := hd3.dp.pend.wcell j r hr
      obtain ⟨k, hrk, hkn, hrn, _⟩ := hd3.at (List.mem_of_getElem? hr)
      have hr0 := hds.out.dp.data r (List.mem_of_getElem? hr)
      rw [hrn] at hr0
      rw [hrk] at hw1
      rw [hrn] at hw2
      have HR1 := Lib.hid hr0
      have hLj : L[j]? = some r.plain := by rw [← HL.out, List.getElem?_map, hr]; rfl
      have HS := Lib.hid (show rdL (L.take (j + 1)) (a : Int) ((B.drop (32 * a)).take 32) = if (k : Int) = (a : Int) then r.data else rdL (L.take j) (a : Int) ((B.drop (32 * a)).take 32) by
        rw [List.take_add_one, hLj, rdL, List.foldl_append]
        show (if r.plain.1 = (a : Int) then r.plain.2 else _) = _
        rw [show r.plain.1 = (k : Int) from hrk]
        rfl)
      clear hr hrk hrn hr0 hLj hlm hd3
      have hjm : (j : Int) < (M : Int) := by omega
      by_cases hka : k = a
      · subst hka
        go_wp2
        go_roundw
        case rel => exact ⟨j + 1, r.c, r.ao, by omega, by go_num, rfl, by rw [HS.out, if_pos rfl]; exact HR1.out, bl_al hbr _⟩
        case measure => simp [intOf]; omega
      · have hka2 : ¬ (k : Int) = (a : Int) := by omega
        go_wp2
        go_roundw
        case rel => exact ⟨j + 1, xc, xo, by omega, by go_num, rfl, by rw [HS.out, if_neg hka2]; exact HRX.out, bl_al hbr _⟩
        case measure => simp [intOf]; omega
    · have hjm : j = M := by omega
      subst hjm
      go_wp2
      go_ret2
      rw [hd.out]
      exact ⟨_, _, _, rfl, by have := HRX.out.later hbr; rwa [List.take_of_length_le (by rw [HM.out]; exact Nat.le_refl _)] at this, hbr⟩
end Go.Proofs.Ytoihponjnhhgbaa
