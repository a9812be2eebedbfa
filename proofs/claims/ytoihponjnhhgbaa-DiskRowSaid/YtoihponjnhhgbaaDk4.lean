/- Disk: Bytes, Sync. -/
import Derived.Test.YtoihponjnhhgbaaDk3
namespace Go.Proofs.Ytoihponjnhhgbaa
set_option linter.unusedVariables false
set_option linter.unusedSimpArgs false
open Go.RowKit

def ovl (base : List Int) (pend : List (Int × List Int)) : List Int := pend.foldl (fun b p => spl b (32 * p.1.toNat) p.2) base
def bytesD (base : List Int) (pend : List (Int × List Int)) : List Int := ovl (ownD base pend).1 (ownD base pend).2
theorem ovl_snoc (base : List Int) (l : List (Int × List Int)) (p : Int × List Int) : ovl base (l ++ [p]) = spl (ovl base l) (32 * p.1.toNat) p.2 := by simp [ovl]
theorem ovl_len (base : List Int) (l : List (Int × List Int)) (h : ∀ p ∈ l, 0 ≤ p.1 ∧ p.1 < (base.length : Int) / 32 ∧ p.2.length = 32) : (ovl base l).length = base.length := by
  induction l generalizing base with
  | nil => rfl
  | cons p l ih =>
    have hp := h p (by simp)
    have hs : (spl base (32 * p.1.toNat) p.2).length = base.length := spl_len _ _ _ (by omega)
    have := ih (spl base (32 * p.1.toNat) p.2) (fun q hq => by rw [hs]; exact h q (by simp [hq]))
    rw [hs] at this
    exact this

def BytRel (w : World) (bo : Option Addr) (n m cb : Nat) (base : List Int) (R : List Rep) (i : Value) (wr : World) : Prop :=
  ∃ j : Nat, j ≤ m ∧ i = .int .i64 (j : Int) ∧ OwnN w.heap.size 5 1 wr bo n cb (b8 (ovl base ((R.take j).map Rep.plain))) ∧ Below w.heap.size w wr

set_option maxHeartbeats 1000000 in
theorem bytes_any (ao : Option Addr) (n c : Nat) (base : List Int) (po : Option Addr) (m pc : Nat) (R : List Rep) (w : World) (h : DP w ao n c base po m pc R) (hn : n ≤ 1000000) (hm : m ≤ 1000000) :
    Calls Try.prog 22 #[.agg #[.slice ao n c, .slice po m pc]] w fun e w' => ∃ bo N c', e = .returned (.slice bo N c') ∧ Row w' bo N c' 1 (b8 (bytesD base (R.map Rep.plain))) ∧ OwnN w.heap.size 5 1 w' bo N c' (b8 (bytesD base (R.map Rep.plain))) ∧ Below w.heap.size w w' := by
  have HC := Lib.hid (fun w' hb => own_any ao n c base po m pc R w w' h hb hn hm)
  clear h
  obtain ⟨D, hD⟩ : ∃ D, bytesD base (R.map Rep.plain) = D := ⟨_, rfl⟩
  have HD := Lib.hid hD
  rw [hD]
  clear hD
  go_enter Try.func22, Try.ntmps22
  go_wp2_with (first | (go_at_call 30; (with_reducible refine (HC.out _ (by (repeat (first | exact Below.refl _ _ | refine Below.drew ?_ | refine bl_drewN ?_ _ | (refine Below.alloc ?_ (by first | exact Nat.le_refl _ | (simp; done) | (simp; omega)) _))))).mono ?_); rintro e w1 ⟨ao1, n1, c1, base1, po1, m1, pc1, R1, rfl, hds, hown, hb1⟩; obtain ⟨hc1, hc2, hc3, hc4, hc5⟩ := box2 hb1; have hB1 := bl_then (show Below w.heap.size w _ by (repeat (first | exact Below.refl _ _ | refine Below.drew ?_ | refine bl_drewN ?_ _ | (refine Below.alloc ?_ (by first | exact Nat.le_refl _ | (simp; done) | (simp; omega)) _)))) hb1; have hsm := hds.small; replace hds := Lib.hid hds; replace hown := Lib.hid hown) | (go_at_call 34; (with_reducible refine (clone_any ao1 n1 c1 _ _ (hds.out.dp.row.later ((hB1.setCell (Nat.le_refl _) _).setCell (Nat.le_refl _) _)) (by omega)).mono ?_); rintro e w2 ⟨bo, cb, rfl, hbo, hb2⟩; obtain ⟨he1, he2, he3, he4, he5⟩ := after_set hc1 hc2 hc3 hc4 hc5 hb2; clear hc1 hc2 hc3 hc4 hc5; have hB2 := bl_then ((hB1.setCell (Nat.le_refl _) _).setCell (Nat.le_refl _) _) hb2; replace hbo := Lib.hid (hbo.base ((hB1.setCell (Nat.le_refl _) _).setCell (Nat.le_refl _) _).size); clear hb2 hb1))
  go_loopw [14] (fun i wr => BytRel w bo n1 m1 cb base1 R1 i wr) (fun i _ => m1 - (intOf i).toNat)
  case atStart => exact ⟨0, by omega, rfl, by simpa [ovl] using hbo.out, hB2⟩
  case round =>
    obtain ⟨j, hj, rfl, hob, hB3⟩ := hrel
    have HOB := Lib.hid hob
    clear hob
    by_cases hlt : j < m1
    · have hd3 := hds.out.later hB3
      have hlm := hd3.dp.pend.lenw
      obtain ⟨b, off, rfl⟩ := row_addr hd3.dp.pend (by intro e; have := wc_len R1; rw [e] at this; simp at this; omega)
      obtain ⟨r, hr⟩ : ∃ r, R1[j]? = some r := ⟨_, List.getElem?_eq_getElem (by omega)⟩
      obtain ⟨hw1, hw2⟩ := hd3.dp.pend.wcell j r hr
      obtain ⟨k, hrk, hkn, hrn, hrow⟩ := hd3.at (List.mem_of_getElem? hr)
      rw [hrk] at hw1
      rw [hrn] at hw2
      have HR := Lib.hid hr
      have HRK := Lib.hid hrk
      have HROW := Lib.hid hrow
      obtain ⟨g, hbo1, hown1⟩ : ∃ g, bo = some ⟨g, 0, none⟩ ∧ wr.ownsRow w.heap.size 5 1 (.slice (some ⟨g, 0, none⟩) n1 cb) n1 (b8 (ovl base1 ((R1.take j).map Rep.plain))) := by
        rcases HOB.out with ⟨_, h0, _⟩ | h
        · omega
        · exact h
      subst hbo1
      have HOW := Lib.hid hown1
      clear hr hrk hrow hd3 hrn hlm hown1
      have hjn : (j : Int) < (m1 : Int) := by omega
      have hcb := HOB.out.row (b8_one _) |>.le
      go_wp2
      have hbW := bl_al hB3 (.cells #[.int .i64 (k : Int), .slice r.ao 32 r.c] 57)
      obtain ⟨hx1, hx2, _⟩ := box2 (Below.refl (wr.alloc (.cells #[.int .i64 (k : Int), .slice r.ao 32 r.c] 57)).heap.size (wr.alloc (.cells #[.int .i64 (k : Int), .slice r.ao 32 r.c] 57))).drew
      have hgl := (HOW.out.lt g rfl)
      refine wp_plan (fun x => x.cell? ⟨wr.heap.size, 0, none⟩ = some (.int .i64 (k : Int)) ∧ x.cell? ⟨wr.heap.size, 1, none⟩ = some (.slice r.ao 32 r.c)) [3, 6] [0, 1, 2, 4, 5, 3, 6] (by kernel_rfl) (by kernel_rfl) ⟨hx1, hx2⟩ (fun hHeld => ?_)
      iterate 5 (refine wpT_take rfl (by rfl) (by rfl) (by intro w' hSw; (try dsimp only at hSw); go_simp; (try with_reducible rfl)) (by assumption) ?_; (try simp only [Act.put, List.setIfInBounds_toArray, List.set_cons_zero, List.set_cons_succ]))
      (refine wpT_step rfl (by rfl) (fun K hK => ?_); go_simp)
      refine (sector_any g 0 n1 cb k _ hkn hcb (by omega)).mono ?_
      rintro e w4 ⟨rfl, hw4⟩
      subst hw4
      (refine hK.out _ _ _ (fun _ h => h) (hHeld) (fun hHeld => ?_); clear hK; clear K; (try simp only [Act.put, List.setIfInBounds_toArray, List.set_cons_zero, List.set_cons_succ]))
      (refine wpT_step rfl (by rfl) (fun K hK => ?_))
      refine step_copyN eltU8 w _ hbW.drew rfl _ _ rfl g n1 cb _ (ownsRow_later HOW.out (below_alloc _ _).drew) (0 + k * 32) 32 32 rfl r.ao 32 r.c _ rfl (HROW.out.later (below_alloc _ _).drew) (Nat.le_refl _) (by omega) ?_
      intro w5 hown5 hb5 hfar5 hsz5
      replace hown5 := Lib.hid hown5
      replace hfar5 := Lib.hid hfar5
      (refine hK.out _ _ _ (fun _ h => h) (⟨(World.cell?_of_block (a := ⟨wr.heap.size, 0, none⟩) (hfar5.out _ (by show wr.heap.size ≠ g; omega))).trans hHeld.1, (World.cell?_of_block (a := ⟨wr.heap.size, 1, none⟩) (hfar5.out _ (by show wr.heap.size ≠ g; omega))).trans hHeld.2⟩) (fun hHeld => ?_); clear hK; clear K; (try simp only [Act.put, List.setIfInBounds_toArray, List.set_cons_zero, List.set_cons_succ]))
      (refine wpT_nil ?_)
      go_wp2
      go_roundw
      case rel =>
        refine ⟨j + 1, by omega, by go_num, .inr ⟨g, rfl, ?_⟩, hb5⟩
        have e1 : (R1.take (j + 1)).map Rep.plain = (R1.take j).map Rep.plain ++ [r.plain] := by rw [List.take_add_one, HR.out]; simp
        have e2 : 32 * r.plain.1.toNat = 0 + k * 32 := by show 32 * r.at_.toNat = _; rw [HRK.out]; omega
        rw [e1, ovl_snoc, e2, show r.plain.2 = r.data from rfl, b8, ← spl_map]
        exact hown5.out
      case measure => simp [intOf]; omega
    · have hjm : j = m1 := by omega
      have hE := Lib.hid (show D = ovl base1 ((R1.take j).map Rep.plain) by
        have hlm := hds.out.dp.pend.lenw
        rw [← HD.out, bytesD, ← hown.out, List.take_of_length_le (by omega)])
      subst hjm
      go_wp2
      go_ret
      rw [hE.out]
      exact ⟨_, _, _, rfl, HOB.out.row (b8_one _), HOB.out, hB3⟩
end Go.Proofs.Ytoihponjnhhgbaa
