/- Disk: awake. -/
import Derived.Test.YtoihponjnhhgbaaDk9
namespace Go.Proofs.Ytoihponjnhhgbaa
set_option linter.unusedVariables false
set_option linter.unusedSimpArgs false
open Go.RowKit

def AwRel (w : World) (b i : Value) (wr : World) : Prop :=
  ∃ (j c : Nat) (ao : Option Addr), j ≤ 32 ∧ i = .int .i64 (j : Int) ∧ b = .slice ao j c ∧ OwnN w.heap.size 5 1 wr ao j c (b8 (List.replicate j 7)) ∧ Below w.heap.size w wr

theorem aw_put : putD (List.replicate 64 0) [] 1 (List.replicate 32 7) = ((List.replicate 64 0, [(1, List.replicate 32 7)]), 0) := by decide +kernel
theorem aw_crash : crashD (List.replicate 64 0) [(1, List.replicate 32 7)] [3] = List.replicate 32 0 ++ [7, 7, 7] ++ List.replicate 29 0 := by decide +kernel
theorem aw_bytes : (bytesD (List.replicate 64 0) [(1, List.replicate 32 7)]).length = 64 := by decide +kernel
theorem aw_bytes2 : bytesD (List.replicate 32 0 ++ [7, 7, 7] ++ List.replicate 29 0) [] = List.replicate 32 0 ++ [7, 7, 7] ++ List.replicate 29 0 := by decide +kernel
theorem aw_sane : saneD (List.replicate 64 0) [(1, List.replicate 32 7)] = true := by decide +kernel

theorem aw_after {w2 : World} {ao2 : Option Addr} {n2 c2 : Nat} {base2 : List Int} {po2 : Option Addr} {m2 pc2 : Nat} {R2 : List Rep} (h : DP w2 ao2 n2 c2 base2 po2 m2 pc2 R2) (heq : (base2, R2.map Rep.plain) = (List.replicate 64 0, [((1 : Int), List.replicate 32 7)])) :
    (Hid (∀ w' qo qc, Below w2.heap.size w2 w' → Row w' qo 1 qc 1 [.int .u8 3] → Calls Try.prog 26 #[.agg #[.slice ao2 n2 c2, .slice po2 m2 pc2], .slice qo 1 qc] w' fun e w3 => ∃ ao3 c3, e = .returned (.agg #[.slice ao3 64 c3, .slice none 0 0]) ∧ Row w3 ao3 64 c3 1 (b8 (List.replicate 32 0 ++ [7, 7, 7] ++ List.replicate 29 0)) ∧ Below w'.heap.size w' w3)) ∧
    (Hid (∀ w', Below w2.heap.size w2 w' → Calls Try.prog 22 #[.agg #[.slice ao2 n2 c2, .slice po2 m2 pc2]] w' fun e w3 => ∃ bo cb, e = .returned (.slice bo 64 cb) ∧ Below w'.heap.size w' w3)) ∧
    (Hid (∀ w', Below w2.heap.size w2 w' → Calls Try.prog 20 #[.agg #[.slice ao2 n2 c2, .slice po2 m2 pc2]] w' fun e w3 => e = .returned (.bool true) ∧ Below w'.heap.size w' w3)) := by
  injection heq with h1 h2
  subst h1
  have hn := h.row.len8
  have hm := h.pend.lenw
  have hm2 := congrArg List.length h2
  simp at hn hm2
  refine ⟨fun w' qo qc hb hq => ?_, fun w' hb => ?_, fun w' hb => ?_⟩
  · have := crash_any ao2 n2 c2 _ po2 m2 pc2 R2 qo 1 qc [3] w' w' (h.later hb) hq (Below.refl _ _) (by omega) (by omega) (by omega) (by simp)
    rw [h2, aw_crash] at this
    refine this.mono ?_
    rintro e w3 ⟨bo, N, c', rfl, hdp, hb'⟩
    have hN := hdp.row.len8
    simp at hN
    subst hN
    exact ⟨_, _, rfl, hdp.row, hb'⟩
  · have := bytes_any ao2 n2 c2 _ po2 m2 pc2 R2 w' (h.later hb) (by omega) (by omega)
    rw [h2] at this
    refine this.mono ?_
    rintro e w3 ⟨bo, N, c', rfl, hrow, _, hb'⟩
    have hN := hrow.len8
    rw [aw_bytes] at hN
    subst hN
    exact ⟨_, _, rfl, hb'⟩
  · have := sane_any ao2 n2 c2 _ po2 m2 pc2 R2 w' (h.later hb) (by omega) (by omega)
    rwa [h2, aw_sane] at this

theorem aw_bytes3 {w3 : World} {ao3 : Option Addr} {c3 : Nat} (h : Row w3 ao3 64 c3 1 (b8 (List.replicate 32 0 ++ [7, 7, 7] ++ List.replicate 29 0))) (w' : World) (hb : Below w3.heap.size w3 w') :
    Calls Try.prog 22 #[.agg #[.slice ao3 64 c3, .slice none 0 0]] w' fun e w4 => ∃ b off cb, e = .returned (.slice (some ⟨b, off, none⟩) 64 cb) ∧ w4.cell? ⟨b, off + 34, none⟩ = some (.int .u8 7) ∧ w4.cell? ⟨b, off + 35, none⟩ = some (.int .u8 0) ∧ 64 ≤ cb ∧ Below w'.heap.size w' w4 := by
  have := bytes_any ao3 64 c3 _ none 0 0 [] w' ⟨h.later hb, row_mt _ _ _ _ (fun _ => rfl), fun _ h => by cases h⟩ (by omega) (by omega)
  rw [List.map_nil, aw_bytes2] at this
  refine this.mono ?_
  rintro e w4 ⟨bo, N, c', rfl, hrow, _, hb'⟩
  have hN := hrow.len8
  simp at hN
  subst hN
  obtain ⟨b, off, rfl⟩ := row_addr hrow (by simp [b8])
  exact ⟨b, off, c', rfl, by rw [hrow.cell8 34 (by omega)]; rfl, by rw [hrow.cell8 35 (by omega)]; rfl, hrow.le, hb'⟩

set_option maxHeartbeats 1000000 in
theorem awake_any (w : World) : Calls Try.prog 9 #[] w fun e w' => e = .returned (.bool true) ∧ Below w.heap.size w w' := by
  go_enter Try.func9, Try.ntmps9
  go_wp2
  go_loopw [1, 2] (fun b i wr => AwRel w b i wr) (fun _ i _ => 32 - (intOf i).toNat)
  case atStart => exact ⟨0, 0, none, by omega, rfl, rfl, by simpa [b8] using ownN_nil w.heap.size 5 1 w, Below.refl _ _⟩
  case round =>
    obtain ⟨j, c, ao, hj, rfl, rfl, hown, hbr⟩ := hrel
    have HO := Lib.hid hown
    clear hown
    by_cases hlt : j < 32
    · have HN := Lib.hid (HO.out.alloc (.cells #[.int .u8 7] 5))
      have HX := Lib.hid (row_new wr #[.int .u8 7] 5 1 1 1 rfl (by omega) (by simp [Value.oneCell']))
      go_wp2_with (at_builtin; refine wpList_appN eltU8 w _ (hbr.alloc hbr.size _) rfl _ _ rfl _ j c _ rfl HN.out _ 1 1 _ rfl HX.out (fun _ => by decide) (by omega) ?_; intro g3 cap3 w3 hown3 hb3; replace hown3 := Lib.hid hown3)
      go_roundw
      case rel => exact ⟨j + 1, cap3, some ⟨g3, 0, none⟩, by omega, by go_num, rfl, .inr ⟨g3, rfl, by rw [List.replicate_succ', b8_app]; exact hown3.out⟩, hb3⟩
      case measure => simp [intOf]; omega
    · have hj32 : j = 32 := by omega
      subst hj32
      have hn2 : secN 2 * 32 = 64 := by decide
      have HB := Lib.hid (HO.out.row (b8_one _))
      have HNew := Lib.hid (fun w' => by have := new_any 2 w'; rwa [hn2] at this)
      clear hn2
      have HPut := Lib.hid (fun w1 ao1 c1 bo c2 (h : DP w1 ao1 64 c1 (List.replicate 64 0) none 0 0 []) (hq : Row w1 bo 32 c2 1 (b8 (List.replicate 32 7))) => by have := put_any ao1 64 c1 _ none 0 0 [] 1 bo 32 c2 _ w1 h hq (by omega) (by omega) (by omega) (by omega); rwa [List.map_nil, aw_put] at this)
      go_wp2_with (first | (go_at_call 28; (with_reducible refine (HNew.out _).mono ?_); rintro e w1 ⟨ao1, c1, rfl, hr1, hb1⟩; have hdp1 := Lib.hid (show DP w1 ao1 64 c1 (List.replicate 64 0) none 0 0 [] from ⟨hr1, row_mt _ _ _ _ (fun _ => rfl), fun _ h => by cases h⟩); clear hr1) | (go_at_call 14; (with_reducible refine (HPut.out _ _ _ _ _ hdp1.out (HB.out.later hb1)).mono ?_); rintro e w2 ⟨ao2, n2, c2, base2, po2, m2, pc2, R2, rfl, hdp2, heq, hb2⟩; obtain ⟨HCr, HBy, HSa⟩ := aw_after hdp2 heq; clear hdp2 heq) | (go_at_call 26; (with_reducible refine (HCr.out _ _ _ (by (repeat (first | exact Below.refl _ _ | refine Below.drew ?_ | refine bl_drewN ?_ _ | (refine Below.alloc ?_ (by first | exact Nat.le_refl _ | (simp; done) | (simp; omega)) _)))) (by have h := row_new (w2.alloc (.cells #[.slice ao2 n2 c2, .slice po2 m2 pc2] 30)) #[.int .u8 3] 5 1 1 1 rfl (by omega) (by simp [Value.oneCell']); simp only [World.size_alloc] at h; exact h)).mono ?_); rintro e w3 ⟨ao3, c3, rfl, hr3, hb3⟩; have HB3 := Lib.hid (aw_bytes3 hr3); clear hr3) | (go_at_call 22; (with_reducible refine (HB3.out _ (Below.refl _ _)).mono ?_); rintro e w4 ⟨bo, boff, cb, rfl, hc34, hc35, hcb, hb4⟩; have hbx := bl_then (bl_then (below_alloc _ _) hb3) hb4; obtain ⟨hx1, hx2, _, _, _⟩ := box2 hbx; clear hb3 hb4 HB3) | (go_at_call 22; (with_reducible refine (HBy.out _ (bl_then (below_alloc _ _) hbx)).mono ?_); rintro e w5 ⟨bo5, cb5, rfl, hb5⟩; replace hbx := bl_then hbx hb5; clear hx1 hx2 hb5; obtain ⟨hx1, hx2, _, _, _⟩ := box2 hbx) | (go_at_call 20; (with_reducible refine (HSa.out _ (bl_then (below_alloc _ _) hbx)).mono ?_); rintro e w6 ⟨rfl, hb6⟩; replace hbx := bl_then hbx hb6; clear hb6))
      go_ret
      exact ⟨rfl, bl_then (bl_then (bl_then hbr hb1) hb2) (bl_then (below_alloc _ _) hbx)⟩
end Go.Proofs.Ytoihponjnhhgbaa
