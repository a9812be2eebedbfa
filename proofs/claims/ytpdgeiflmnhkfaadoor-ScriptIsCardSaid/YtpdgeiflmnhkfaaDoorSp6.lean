/- florinlaw23: awake. (hM) -/
import Derived.Test.YtpdgeiflmnhkfaaDoorSp5
namespace Go.Proofs.YtpdgeiflmnhkfaaDoor
set_option linter.unusedVariables false
set_option linter.unusedSimpArgs false
open Go.RowKit

theorem row7 (w : World) : Row (w.alloc (.cells #[.int .u8 7] 5)) (some ⟨w.heap.size, 0, none⟩) 1 1 1 [.int .u8 7] := row_new w #[.int .u8 7] 5 1 1 1 rfl (Nat.le_refl _) (by intro u hu; simp at hu; subst hu; rfl)
theorem get7 (b : Nat) (w : World) (h : Row w (some ⟨b, 0, none⟩) 1 1 1 [.int .u8 7]) :
    Calls Tryd.prog 99 #[.slice (some ⟨b, 0, none⟩) 1 1] w fun e w' => ∃ (g of1 cap : Nat) (s : Stp), e = .returned (.slice (some ⟨g, of1, none⟩) 1 cap) ∧ Sts w' (some ⟨g, of1, none⟩) 1 cap [s] ∧ psOf s = ⟨7, 0, 0, []⟩ ∧ Below w.heap.size w w' := by
  refine (get_any _ 1 1 [7] w h (by intro x hx; simp at hx; subst hx; decide) (by omega)).mono ?_
  rintro e w' ⟨lo, cap, L, rfl, hS, hP, _, _, hb⟩
  have hp : getP 400 [7] = [⟨7, 0, 0, []⟩] := by
    show getP (399 + 1) [7] = _
    rw [getP_cons, show ([7] : List Int).drop (6 + szP [7]) = [] from rfl, getP_nil]
    rfl
  rw [hp] at hP
  obtain ⟨s, rfl⟩ : ∃ s, L = [s] := by
    cases L with
    | nil => simp at hP
    | cons s L =>
      cases L with
      | nil => exact ⟨s, rfl⟩
      | cons t L => simp at hP
  simp only [List.map_cons, List.map_nil, List.cons.injEq, and_true] at hP
  obtain ⟨g, o, rfl⟩ := hS.addr (by simp)
  exact ⟨g, o, cap, s, rfl, hS, hP, hb⟩
theorem put7 (g of1 cap : Nat) (s : Stp) (w : World) (h : Sts w (some ⟨g, of1, none⟩) 1 cap [s]) (hp : psOf s = ⟨7, 0, 0, []⟩) :
    Calls Tryd.prog 95 #[.slice (some ⟨g, of1, none⟩) 1 cap] w fun e w' => ∃ (bo : Option Addr) (cp : Nat), e = .returned (.slice bo 6 cp) ∧ Below w.heap.size w w' := by
  refine (put_any _ 1 cap [s] w h (by omega)).mono ?_
  rintro e w' ⟨bo, cp, rfl, _, hb⟩
  rw [List.map_cons, List.map_nil, hp]
  exact ⟨bo, cp, rfl, hb⟩
theorem name7 (w : World) (hT : TabN w) : Calls Tryd.prog 101 #[.int .i64 7] w fun e w' => e = .returned (.string ⟨#[115, 121, 110, 99]⟩) ∧ w = w' := name_any 7 (by decide) w hT
set_option maxHeartbeats 2000000 in
theorem awake23_any (w : World) (hT : TabN w) : Calls Tryd.prog 91 #[] w fun e w' => e = .returned (.bool true) ∧ Below w.heap.size w w' := by
  have HG := Lib.hid (fun (b : Nat) (x : World) h => get7 b x h)
  have HNm := Lib.hid (fun (x : World) (hb : Below w.heap.size w x) => name7 x (hT.later hb))
  clear hT
  have hB := Below.refl w.heap.size w
  have hF : True := trivial
  go_enter Tryd.func91, Tryd.ntmps91
  go_wp2_with (first |
    (go_at_call 99; (with_reducible refine (HG.out _ _ (row7 w)).mono ?_); rintro e w1 ⟨g, of1, cap, ⟨sk, sp, sn, sa, sm, sc, sd⟩, rfl, hS, hP, hb⟩; (obtain rfl : sk = 7 := congrArg PS.k hP); have hB1 := bl_then (bl_al hB _) hb; have HS := Lib.hid hS; have HP := Lib.hid hP; have hc := hS.cells (i := 0) rfl; have HF := Lib.hid (fun (x : World) (hb : Below w1.heap.size w1 x) => (congrArg fitsP hP).trans (show fitsP ⟨7, 0, 0, []⟩ = true by decide) ▸ fits_any ⟨7, sp, sn, sa, sm, sc, sd⟩ x ((hS.ok _ (List.mem_singleton.2 rfl)).later hb)); have HPt := Lib.hid (fun (x : World) (hb : Below w1.heap.size w1 x) => put7 g of1 cap ⟨7, sp, sn, sa, sm, sc, sd⟩ x (hS.later hb) hP); clear hS hP hb hB; have hB := hB1; (simp only [Nat.zero_mul, Nat.add_zero] at hc); clear hF; have hF := hc; clear hB1 hc) |
    (go_at_call 101; (with_reducible refine (HNm.out _ hB).mono ?_); rintro e w2 ⟨rfl, rfl⟩) |
    (go_at_call 92; (with_reducible refine (HF.out _ (Below.refl _ _)).mono ?_); rintro e w2 ⟨rfl, hb⟩; have HB2 := Lib.hid hb; have hB2 := bl_then hB hb; clear hB hF hb; have hB := hB2; clear hB2) |
    (go_at_call 95; (with_reducible refine (HPt.out _ HB2.out).mono ?_); rintro e w3 ⟨bo, cp, rfl, hb⟩; have hB3 := bl_then hB hb; clear hb))
  go_ret
  exact ⟨rfl, hB3⟩
end Go.Proofs.YtpdgeiflmnhkfaaDoor
