/- Disk: the law's helpers: drive, flat (made by gen_drv.py). -/
import Derived.Test.YtoihponjnhhgbaaDk7
import Derived.Test.YtoihponjnhhgbaaApp2
import Derived.Test.YtoihponjnhhgbaaFork
namespace Go.Proofs.Ytoihponjnhhgbaa
set_option linter.unusedVariables false
set_option linter.unusedSimpArgs false
open Go.RowKit

theorem eltW2 : Elt Try.prog 23 54 (.agg #[.int .i64 0, .slice none 0 0]) 2 32 := ⟨Try.underlying23, by kernel_rfl, rfl, by decide, by decide⟩
theorem size_drew' (w : World) : w.drew.heap.size = w.heap.size := rfl

def DrvRel (E : TypeId) (w : World) (ao : Option Addr) (n c : Nat) (po : Option Addr) (m pc : Nat) (R : List Rep) (i : Value) (wr : World) : Prop :=
  ∃ (j : Nat) (p : Option Addr) (cp : Nat), j ≤ m ∧ i = .int .i64 (j : Int) ∧ OwnN (w.heap.size + 1 + 1 + 1) E 2 wr p j cp (wc (R.take j)) ∧ Below w.heap.size w wr ∧ w.heap.size + 1 + 1 + 1 ≤ wr.heap.size ∧
    wr.cell? ⟨w.heap.size, 0, none⟩ = some (.slice ao n c) ∧ wr.cell? ⟨w.heap.size, 1, none⟩ = some (.slice po m pc) ∧ wr.cell? ⟨w.heap.size + 1, 0, none⟩ = some (.slice none 0 0) ∧ wr.cell? ⟨w.heap.size + 1, 1, none⟩ = some (.slice none 0 0) ∧
    wr.cell? ⟨w.heap.size + 1 + 1, 0, none⟩ = some (.slice ao n c) ∧ wr.cell? ⟨w.heap.size + 1 + 1, 1, none⟩ = some (.slice p j cp) ∧
    wr.frozen? ⟨w.heap.size + 1, 0, none⟩ = false ∧ wr.frozen? ⟨w.heap.size + 1, 1, none⟩ = false ∧ wr.frozen? ⟨w.heap.size + 1 + 1, 1, none⟩ = false

theorem al_cell {wr : World} {B i : Nat} {u : Value} (h : wr.cell? ⟨B, i, none⟩ = some u) (o : Obj) : (wr.drew.alloc o).cell? ⟨B, i, none⟩ = some u :=
  ((below_alloc wr.drew o).cell (p := ⟨B, i, none⟩) (World.block_lt_of_cell? wr ⟨B, i, none⟩ h)).trans h
theorem al_frz {wr : World} {B i : Nat} (hlt : B < wr.heap.size) (h : wr.frozen? ⟨B, i, none⟩ = false) (o : Obj) : (wr.drew.alloc o).frozen? ⟨B, i, none⟩ = false :=
  ((below_alloc wr.drew o).frozen (p := ⟨B, i, none⟩) hlt).trans h
theorem start3 (w : World) (a b c d e f : Value) (T1 T2 T3 : TypeId) :
    let W := ((w.alloc (.cells #[a, b] T1)).alloc (.cells #[c, d] T2)).alloc (.cells #[e, f] T3)
    W.cell? ⟨w.heap.size, 0, none⟩ = some a ∧ W.cell? ⟨w.heap.size, 1, none⟩ = some b ∧ W.cell? ⟨w.heap.size + 1, 0, none⟩ = some c ∧ W.cell? ⟨w.heap.size + 1, 1, none⟩ = some d ∧ W.cell? ⟨w.heap.size + 1 + 1, 0, none⟩ = some e ∧ W.cell? ⟨w.heap.size + 1 + 1, 1, none⟩ = some f ∧
    W.frozen? ⟨w.heap.size + 1, 0, none⟩ = false ∧ W.frozen? ⟨w.heap.size + 1, 1, none⟩ = false ∧ W.frozen? ⟨w.heap.size + 1 + 1, 1, none⟩ = false := by
  intro W
  obtain ⟨h1, h2, _, _, _⟩ := box2 (w1 := W) (show Below (w.alloc (.cells #[a, b] T1)).heap.size (w.alloc (.cells #[a, b] T1)) W from bl_al (below_alloc _ _) _)
  obtain ⟨h3, h4, h5, h6, _⟩ := box2 (w := w.alloc (.cells #[a, b] T1)) (u := c) (v := d) (T := T2) (w1 := W) (below_alloc _ _)
  obtain ⟨h7, h8, _, h10, _⟩ := box2 (w := (w.alloc (.cells #[a, b] T1)).alloc (.cells #[c, d] T2)) (u := e) (v := f) (T := T3) (w1 := W) (Below.refl _ _)
  simp only [World.size_alloc] at h3 h4 h5 h6 h7 h8 h10
  exact ⟨h1, h2, h3, h4, h7, h8, h5, h6, h10⟩
theorem S3a {x : World} {B b i1 i2 : Nat} {u v y : Value} (h : x.cell? ⟨B, 1, none⟩ = some u ∧ x.cell? ⟨b, i1, none⟩ = some v ∧ x.cell? ⟨b, i2, none⟩ = some y) (o : Obj) : (x.alloc o).cell? ⟨B, 1, none⟩ = some u ∧ (x.alloc o).cell? ⟨b, i1, none⟩ = some v ∧ (x.alloc o).cell? ⟨b, i2, none⟩ = some y :=
  have hb := below_alloc x o
  ⟨(hb.cell (p := ⟨B, 1, none⟩) (World.block_lt_of_cell? x ⟨B, 1, none⟩ h.1)).trans h.1, (hb.cell (p := ⟨b, i1, none⟩) (World.block_lt_of_cell? x ⟨b, i1, none⟩ h.2.1)).trans h.2.1, (hb.cell (p := ⟨b, i2, none⟩) (World.block_lt_of_cell? x ⟨b, i2, none⟩ h.2.2)).trans h.2.2⟩
theorem ni_two {w : World} {B : Nat} {u v : Value} (h1 : w.cell? ⟨B, 0, none⟩ = some u) (h2 : w.cell? ⟨B, 1, none⟩ = some v) (h3 : w.frozen? ⟨B, 0, none⟩ = false) : True := trivial
theorem ownsRow_set {w : World} {B : Nat} {E : TypeId} {sz g n cap Bx k : Nat} {xs : List Value} {v : Value} (h : w.ownsRow B E sz (.slice (some ⟨g, 0, none⟩) n cap) n xs) (hne : Bx < B) : (w.setCell ⟨Bx, k, none⟩ v).ownsRow B E sz (.slice (some ⟨g, 0, none⟩) n cap) n xs := by
  refine ⟨h.1, ?_⟩
  rcases h.2 with h0 | ⟨g', cap', cur, hv, hB, hg, hrest⟩
  · exact .inl h0
  · refine .inr ⟨g', cap', cur, hv, hB, ?_, hrest⟩
    rw [← hg]
    exact Below.heap_setCell _ _ _ _ (by show g' ≠ Bx; omega)

set_option maxHeartbeats 2000000 in
theorem drive_any (ao : Option Addr) (n c : Nat) (base : List Int) (po : Option Addr) (m pc : Nat) (R : List Rep) (w : World) (h : DP w ao n c base po m pc R) (hm : m ≤ 1000000) :
    Calls Try.prog 11 #[.agg #[.slice ao n c, .slice po m pc]] w fun e w' => ∃ po' pc', e = .returned (.agg #[.slice ao n c, .slice po' m pc']) ∧ DP w' ao n c base po' m pc' R ∧ Below w.heap.size w w' := by
  have hmp := h.pend.le
  have hlm := h.pend.lenw
  have H := Lib.hid h
  have HLM := Lib.hid hlm
  clear h hlm
  go_enter Try.func11, Try.ntmps11
  go_wp2
  go_loopw [4] (fun i wr => DrvRel 57 w ao n c po m pc R i wr) (fun i _ => m - (intOf i).toNat)
  case atStart => exact ⟨0, none, 0, by omega, rfl, by simpa [wc] using ownN_nil _ _ _ _, by (repeat (first | exact Below.refl _ _ | refine Below.drew ?_ | refine bl_drewN ?_ _ | (refine Below.alloc ?_ (by first | exact Nat.le_refl _ | (simp; done) | (simp; omega)) _))), by simp, start3 w _ _ _ _ _ _ _ _ _⟩
  case round =>
    obtain ⟨j, p, cp, hj, rfl, hown, hbr, hsz, hx1, hx2, hx3, hx4, hx5, hx6, hx7, hx8, hx9⟩ := hrel
    have HO := Lib.hid hown
    clear hown
    by_cases hlt : j < m
    · have hd3 := H.out.later hbr
      obtain ⟨b, off, rfl⟩ := row_addr hd3.pend (by intro e; have := wc_len R; rw [e] at this; simp at this; have := HLM.out; omega)
      obtain ⟨r, hr⟩ : ∃ r, R[j]? = some r := ⟨_, List.getElem?_eq_getElem (by have := HLM.out; omega)⟩
      obtain ⟨hw1, hw2⟩ := hd3.pend.wcell j r hr
      have hbl : b < w.heap.size := H.out.pend.lt _ rfl (by intro e; have := wc_len R; rw [e] at this; simp at this; have := HLM.out; omega)
      have HR := Lib.hid hr
      have hcp := HO.out.row (wc_one _) |>.le
      have hjm : (j : Int) < (m : Int) := by omega
      clear hr hd3
      have hlt1 : w.heap.size + 1 + 1 < wr.heap.size := by omega
      have HX := Lib.hid (row_new wr.drew #[.int .i64 r.at_, .slice r.ao r.n r.c] 57 1 1 2 rfl (by omega) (by simp [Value.oneCell']))
      go_wp2
      refine wp_fork (fun x => x.cell? ⟨w.heap.size, 1, none⟩ = some (.slice (some ⟨b, off, none⟩) m pc) ∧ x.cell? ⟨b, off + j * 2, none⟩ = some (.int .i64 r.at_) ∧ x.cell? ⟨b, off + j * 2 + 1, none⟩ = some (.slice r.ao r.n r.c)) [1, 15, 16, 18] (nodes [0, 2, 3, 4, 5, 6, 7, 8, 9, 10, 11, 12, 13, 14] (.fork 1 15 (nodes [15, 16, 17, 18] .leaf) (nodes [1, 16, 17, 18] .leaf))) (by kernel_rfl) (by kernel_rfl) ⟨hx2, hw1, hw2⟩ (fun hHeld => ?_)
      iterate 14 (refine wpF_take rfl (by rfl) (by rfl) (by intro w' hSw; (try dsimp only at hSw); go_simp; (try with_reducible rfl)) (by assumption) ?_; (try simp only [Act.put, List.setIfInBounds_toArray, List.set_cons_zero, List.set_cons_succ]))
      (refine wpF_fork rfl rfl (fun K hK => ?_) (fun K hK => ?_) <;> go_simp)
      · (refine hK.out _ _ _ (fun _ h => h) (hHeld) (fun hHeld => ?_); clear hK; clear K; (try simp only [Act.put, List.setIfInBounds_toArray, List.set_cons_zero, List.set_cons_succ]))
        (refine wpF_step rfl (by rfl) (fun K hK => ?_); go_simp)
        (refine hK.out _ _ _ (fun _ h => h) (S3a hHeld _) (fun hHeld => ?_); clear hK; clear K; (try simp only [Act.put, List.setIfInBounds_toArray, List.set_cons_zero, List.set_cons_succ]))
        (refine wpF_step rfl (by rfl) (fun K hK => ?_))
        refine step_appN eltW _ rfl _ _ rfl (w.heap.size + 1 + 1 + 1) (by simp; omega) p j cp _ rfl (HO.out.later (by (repeat (first | exact Below.refl _ _ | refine Below.drew ?_ | refine bl_drewN ?_ _ | (refine Below.alloc ?_ (by first | exact Nat.le_refl _ | (simp; done) | (simp; omega)) _))))) _ 1 1 _ rfl HX.out (fun _ => by decide) (by omega) ?_
        intro g2 cp2 w7 row hown7 hgrow7 hrow7
        have hrne : ∀ k, row = some k → w.heap.size + 1 + 1 + 1 ≤ k := by
          intro k hk
          rcases HO.out with ⟨h0, _⟩ | ⟨g, h1, h2⟩
          · rw [h0] at hrow7; cases hrow7 k hk
          · have := hrow7 k hk
            rw [h1] at this
            cases this
            exact (h2.lt _ rfl).1
        have hB7 := below_grown (show Below w.heap.size w _ from by exact (hbr.drew).alloc (by have := hbr.size; exact this) _) hgrow7 (fun k hk => by have := hrne k hk; omega)
        have ho1 := grown_cell hgrow7 (b := w.heap.size + 1 + 1) (i := 1) (u := .slice p j cp) (al_cell hx6 _) (fun k hk => by have := hrne k hk; omega)
        have ho0 := grown_cell hgrow7 (b := w.heap.size + 1 + 1) (i := 0) (u := .slice ao n c) (al_cell hx5 _) (fun k hk => by have := hrne k hk; omega)
        have hof := grown_frozen hgrow7 (b := w.heap.size + 1 + 1) (i := 1) (by simp; omega) (al_frz (by omega) hx9 _) (fun k hk => by have := hrne k hk; omega)
        have hr0 := grown_cell hgrow7 (b := w.heap.size + 1) (i := 0) (u := .slice none 0 0) (al_cell hx3 _) (fun k hk => by have := hrne k hk; omega)
        have hr1 := grown_cell hgrow7 (b := w.heap.size + 1) (i := 1) (u := .slice none 0 0) (al_cell hx4 _) (fun k hk => by have := hrne k hk; omega)
        have hrf0 := grown_frozen hgrow7 (b := w.heap.size + 1) (i := 0) (by simp; omega) (al_frz (by omega) hx7 _) (fun k hk => by have := hrne k hk; omega)
        have hrf1 := grown_frozen hgrow7 (b := w.heap.size + 1) (i := 1) (by simp; omega) (al_frz (by omega) hx8 _) (fun k hk => by have := hrne k hk; omega)
        have hd0 := grown_cell hgrow7 (b := w.heap.size) (i := 0) (u := .slice ao n c) (al_cell hx1 _) (fun k hk => by have := hrne k hk; omega)
        have hg2 := (hown7.lt g2 rfl)
        have hsz7 := hgrow7.size
        simp only [World.size_alloc, size_drew'] at hsz7
        replace hown7 := Lib.hid hown7
        (refine hK.out _ _ _ (fun _ h => h) (⟨grown_cell hgrow7 hHeld.1 (fun k hk => by have := hrne k hk; omega), grown_cell hgrow7 hHeld.2.1 (fun k hk => by have := hrne k hk; omega), grown_cell hgrow7 hHeld.2.2 (fun k hk => by have := hrne k hk; omega)⟩) (fun hHeld => ?_); clear hK; clear K; (try simp only [Act.put, List.setIfInBounds_toArray, List.set_cons_zero, List.set_cons_succ]))
        clear hgrow7 hrow7 hrne
        iterate 1 (refine wpF_take rfl (by rfl) (by rfl) (by intro w' hSw; (try dsimp only at hSw); go_simp; (try with_reducible rfl)) (by assumption) ?_; (try simp only [Act.put, List.setIfInBounds_toArray, List.set_cons_zero, List.set_cons_succ]))
        (refine wpF_step rfl (by rfl) (fun K hK => ?_); go_simp)
        have hHeld' := hHeld
        (refine hK.out _ _ _ (fun _ h => h) (⟨(World.cell?_setCell_far _ _ _ _ (by show w.heap.size + 1 + 1 ≠ w.heap.size; omega)).trans hHeld.1, (World.cell?_setCell_far _ _ _ _ (by show w.heap.size + 1 + 1 ≠ b; omega)).trans hHeld.2.1, (World.cell?_setCell_far _ _ _ _ (by show w.heap.size + 1 + 1 ≠ b; omega)).trans hHeld.2.2⟩) (fun hHeld => ?_); clear hK; clear K; (try simp only [Act.put, List.setIfInBounds_toArray, List.set_cons_zero, List.set_cons_succ]))
        (refine wpF_nil ?_)
        go_wp2
        go_roundw
        case rel =>
          have hfar (i : Nat) (B : Nat) (hB : w.heap.size + 1 + 1 ≠ B) : (w7.setCell ⟨w.heap.size + 1 + 1, 1, none⟩ (.slice (some ⟨g2, 0, none⟩) (j + 1) cp2)).cell? ⟨B, i, none⟩ = w7.cell? ⟨B, i, none⟩ := World.cell?_setCell_far _ _ _ _ hB
          refine ⟨j + 1, some ⟨g2, 0, none⟩, cp2, by omega, by go_num, .inr ⟨g2, rfl, ?_⟩, (hB7.setCell (by show w.heap.size ≤ w.heap.size + 1 + 1; omega) _), by simp; omega, ?_, ?_, ?_, ?_, ?_, ?_, ?_, ?_, ?_⟩
          · have e1 : wc (R.take (j + 1)) = wc (R.take j) ++ [.int .i64 r.at_, .slice r.ao r.n r.c] := by rw [List.take_add_one, HR.out, wc_app]; rfl
            rw [e1]
            exact ownsRow_set hown7.out (by omega)
          · rw [hfar _ _ (by omega)]; exact hd0
          · rw [hfar _ _ (by omega)]; exact hHeld'.1
          · rw [hfar _ _ (by omega)]; exact hr0
          · rw [hfar _ _ (by omega)]; exact hr1
          · rw [World.cell?_setCell_other _ _ _ _ (by simp)]; exact ho0
          · exact World.cell?_setCell_same _ _ _ ho1
          · rw [World.frozen?_setCell]; exact hrf0
          · rw [World.frozen?_setCell]; exact hrf1
          · rw [World.frozen?_setCell]; exact hof
        case measure => simp [intOf]; omega
      · (refine hK.out _ _ _ (fun _ h => h) (S3a hHeld _) (fun hHeld => ?_); clear hK; clear K; (try simp only [Act.put, List.setIfInBounds_toArray, List.set_cons_zero, List.set_cons_succ]))
        (refine wpF_step rfl (by rfl) (fun K hK => ?_); go_simp)
        (refine hK.out _ _ _ (fun _ h => h) (hHeld) (fun hHeld => ?_); clear hK; clear K; (try simp only [Act.put, List.setIfInBounds_toArray, List.set_cons_zero, List.set_cons_succ]))
        (refine wpF_step rfl (by rfl) (fun K hK => ?_))
        refine step_appN eltW _ rfl _ _ rfl (w.heap.size + 1 + 1 + 1) (by simp; omega) p j cp _ rfl (HO.out.later (by (repeat (first | exact Below.refl _ _ | refine Below.drew ?_ | refine bl_drewN ?_ _ | (refine Below.alloc ?_ (by first | exact Nat.le_refl _ | (simp; done) | (simp; omega)) _))))) _ 1 1 _ rfl HX.out (fun _ => by decide) (by omega) ?_
        intro g2 cp2 w7 row hown7 hgrow7 hrow7
        have hrne : ∀ k, row = some k → w.heap.size + 1 + 1 + 1 ≤ k := by
          intro k hk
          rcases HO.out with ⟨h0, _⟩ | ⟨g, h1, h2⟩
          · rw [h0] at hrow7; cases hrow7 k hk
          · have := hrow7 k hk
            rw [h1] at this
            cases this
            exact (h2.lt _ rfl).1
        have hB7 := below_grown (show Below w.heap.size w _ from by exact (hbr.drew).alloc (by have := hbr.size; exact this) _) hgrow7 (fun k hk => by have := hrne k hk; omega)
        have ho1 := grown_cell hgrow7 (b := w.heap.size + 1 + 1) (i := 1) (u := .slice p j cp) (al_cell hx6 _) (fun k hk => by have := hrne k hk; omega)
        have ho0 := grown_cell hgrow7 (b := w.heap.size + 1 + 1) (i := 0) (u := .slice ao n c) (al_cell hx5 _) (fun k hk => by have := hrne k hk; omega)
        have hof := grown_frozen hgrow7 (b := w.heap.size + 1 + 1) (i := 1) (by simp; omega) (al_frz (by omega) hx9 _) (fun k hk => by have := hrne k hk; omega)
        have hr0 := grown_cell hgrow7 (b := w.heap.size + 1) (i := 0) (u := .slice none 0 0) (al_cell hx3 _) (fun k hk => by have := hrne k hk; omega)
        have hr1 := grown_cell hgrow7 (b := w.heap.size + 1) (i := 1) (u := .slice none 0 0) (al_cell hx4 _) (fun k hk => by have := hrne k hk; omega)
        have hrf0 := grown_frozen hgrow7 (b := w.heap.size + 1) (i := 0) (by simp; omega) (al_frz (by omega) hx7 _) (fun k hk => by have := hrne k hk; omega)
        have hrf1 := grown_frozen hgrow7 (b := w.heap.size + 1) (i := 1) (by simp; omega) (al_frz (by omega) hx8 _) (fun k hk => by have := hrne k hk; omega)
        have hd0 := grown_cell hgrow7 (b := w.heap.size) (i := 0) (u := .slice ao n c) (al_cell hx1 _) (fun k hk => by have := hrne k hk; omega)
        have hg2 := (hown7.lt g2 rfl)
        have hsz7 := hgrow7.size
        simp only [World.size_alloc, size_drew'] at hsz7
        replace hown7 := Lib.hid hown7
        (refine hK.out _ _ _ (fun _ h => h) (⟨grown_cell hgrow7 hHeld.1 (fun k hk => by have := hrne k hk; omega), grown_cell hgrow7 hHeld.2.1 (fun k hk => by have := hrne k hk; omega), grown_cell hgrow7 hHeld.2.2 (fun k hk => by have := hrne k hk; omega)⟩) (fun hHeld => ?_); clear hK; clear K; (try simp only [Act.put, List.setIfInBounds_toArray, List.set_cons_zero, List.set_cons_succ]))
        clear hgrow7 hrow7 hrne
        iterate 1 (refine wpF_take rfl (by rfl) (by rfl) (by intro w' hSw; (try dsimp only at hSw); go_simp; (try with_reducible rfl)) (by assumption) ?_; (try simp only [Act.put, List.setIfInBounds_toArray, List.set_cons_zero, List.set_cons_succ]))
        (refine wpF_step rfl (by rfl) (fun K hK => ?_); go_simp)
        have hHeld' := hHeld
        (refine hK.out _ _ _ (fun _ h => h) (⟨(World.cell?_setCell_far _ _ _ _ (by show w.heap.size + 1 + 1 ≠ w.heap.size; omega)).trans hHeld.1, (World.cell?_setCell_far _ _ _ _ (by show w.heap.size + 1 + 1 ≠ b; omega)).trans hHeld.2.1, (World.cell?_setCell_far _ _ _ _ (by show w.heap.size + 1 + 1 ≠ b; omega)).trans hHeld.2.2⟩) (fun hHeld => ?_); clear hK; clear K; (try simp only [Act.put, List.setIfInBounds_toArray, List.set_cons_zero, List.set_cons_succ]))
        (refine wpF_nil ?_)
        go_wp2
        go_roundw
        case rel =>
          have hfar (i : Nat) (B : Nat) (hB : w.heap.size + 1 + 1 ≠ B) : (w7.setCell ⟨w.heap.size + 1 + 1, 1, none⟩ (.slice (some ⟨g2, 0, none⟩) (j + 1) cp2)).cell? ⟨B, i, none⟩ = w7.cell? ⟨B, i, none⟩ := World.cell?_setCell_far _ _ _ _ hB
          refine ⟨j + 1, some ⟨g2, 0, none⟩, cp2, by omega, by go_num, .inr ⟨g2, rfl, ?_⟩, (hB7.setCell (by show w.heap.size ≤ w.heap.size + 1 + 1; omega) _), by simp; omega, ?_, ?_, ?_, ?_, ?_, ?_, ?_, ?_, ?_⟩
          · have e1 : wc (R.take (j + 1)) = wc (R.take j) ++ [.int .i64 r.at_, .slice r.ao r.n r.c] := by rw [List.take_add_one, HR.out, wc_app]; rfl
            rw [e1]
            exact ownsRow_set hown7.out (by omega)
          · rw [hfar _ _ (by omega)]; exact hd0
          · rw [hfar _ _ (by omega)]; exact hHeld'.1
          · rw [hfar _ _ (by omega)]; exact hr0
          · rw [hfar _ _ (by omega)]; exact hr1
          · rw [World.cell?_setCell_other _ _ _ _ (by simp)]; exact ho0
          · exact World.cell?_setCell_same _ _ _ ho1
          · rw [World.frozen?_setCell]; exact hrf0
          · rw [World.frozen?_setCell]; exact hrf1
          · rw [World.frozen?_setCell]; exact hof
        case measure => simp [intOf]; omega
    · have hjm : j = m := by omega
      subst hjm
      have hown := HO.out
      rw [List.take_of_length_le (by have := HLM.out; omega)] at hown
      have HO2 := Lib.hid hown
      clear hown HO
      have hni := Lib.hid (ni_two hx3 hx4 hx7)
      go_wp2
      refine bodyPost_ret (v := .agg #[.slice ao n c, .slice p j cp]) (by simp [results, Try.results11, go_sem, hx3, hx4, hx5, hx6, hx7, hx8, hx9]) rfl ?_
      have hBf := (hbr.setCell (Nat.le_succ _) (.slice ao n c) (p := ⟨w.heap.size + 1, 0, none⟩)).setCell (Nat.le_succ _) (.slice p j cp) (p := ⟨w.heap.size + 1, 1, none⟩)
      have hne : ∀ ad, p = some ad → w.heap.size + 1 ≠ ad.block := by
        intro ad ha
        rcases HO2.out with ⟨h0, _⟩ | ⟨g, h1, h2⟩
        · rw [h0] at ha; cases ha
        · rw [h1] at ha
          cases ha
          have := (h2.lt g rfl).1
          show w.heap.size + 1 ≠ g
          omega
      exact ⟨_, _, rfl, ⟨(H.out.later hBf).row, ((HO2.out.row (wc_one _)).far hne).far hne, (H.out.later hBf).data⟩, hBf⟩

set_option maxHeartbeats 2000000 in
theorem flat_any (ao : Option Addr) (n c : Nat) (base : List Int) (po : Option Addr) (m pc : Nat) (R : List Rep) (w : World) (h : DP w ao n c base po m pc R) (hm : m ≤ 1000000) :
    Calls Try.prog 19 #[.agg #[.slice ao n c, .slice po m pc]] w fun e w' => ∃ po' pc', e = .returned (.agg #[.slice ao n c, .slice po' m pc']) ∧ DP w' ao n c base po' m pc' R ∧ Below w.heap.size w w' := by
  have hmp := h.pend.le
  have hlm := h.pend.lenw
  have H := Lib.hid h
  have HLM := Lib.hid hlm
  clear h hlm
  go_enter Try.func19, Try.ntmps19
  go_wp2
  go_loopw [4] (fun i wr => DrvRel 54 w ao n c po m pc R i wr) (fun i _ => m - (intOf i).toNat)
  case atStart => exact ⟨0, none, 0, by omega, rfl, by simpa [wc] using ownN_nil _ _ _ _, by (repeat (first | exact Below.refl _ _ | refine Below.drew ?_ | refine bl_drewN ?_ _ | (refine Below.alloc ?_ (by first | exact Nat.le_refl _ | (simp; done) | (simp; omega)) _))), by simp, start3 w _ _ _ _ _ _ _ _ _⟩
  case round =>
    obtain ⟨j, p, cp, hj, rfl, hown, hbr, hsz, hx1, hx2, hx3, hx4, hx5, hx6, hx7, hx8, hx9⟩ := hrel
    have HO := Lib.hid hown
    clear hown
    by_cases hlt : j < m
    · have hd3 := H.out.later hbr
      obtain ⟨b, off, rfl⟩ := row_addr hd3.pend (by intro e; have := wc_len R; rw [e] at this; simp at this; have := HLM.out; omega)
      obtain ⟨r, hr⟩ : ∃ r, R[j]? = some r := ⟨_, List.getElem?_eq_getElem (by have := HLM.out; omega)⟩
      obtain ⟨hw1, hw2⟩ := hd3.pend.wcell j r hr
      have hbl : b < w.heap.size := H.out.pend.lt _ rfl (by intro e; have := wc_len R; rw [e] at this; simp at this; have := HLM.out; omega)
      have HR := Lib.hid hr
      have hcp := HO.out.row (wc_one _) |>.le
      have hjm : (j : Int) < (m : Int) := by omega
      clear hr hd3
      have hlt1 : w.heap.size + 1 + 1 < wr.heap.size := by omega
      have HX := Lib.hid (row_new wr.drew #[.int .i64 r.at_, .slice r.ao r.n r.c] 54 1 1 2 rfl (by omega) (by simp [Value.oneCell']))
      go_wp2
      refine wp_fork (fun x => x.cell? ⟨w.heap.size, 1, none⟩ = some (.slice (some ⟨b, off, none⟩) m pc) ∧ x.cell? ⟨b, off + j * 2, none⟩ = some (.int .i64 r.at_) ∧ x.cell? ⟨b, off + j * 2 + 1, none⟩ = some (.slice r.ao r.n r.c)) [1, 15, 16, 18] (nodes [0, 2, 3, 4, 5, 6, 7, 8, 9, 10, 11, 12, 13, 14] (.fork 1 15 (nodes [15, 16, 17, 18] .leaf) (nodes [1, 16, 17, 18] .leaf))) (by kernel_rfl) (by kernel_rfl) ⟨hx2, hw1, hw2⟩ (fun hHeld => ?_)
      iterate 14 (refine wpF_take rfl (by rfl) (by rfl) (by intro w' hSw; (try dsimp only at hSw); go_simp; (try with_reducible rfl)) (by assumption) ?_; (try simp only [Act.put, List.setIfInBounds_toArray, List.set_cons_zero, List.set_cons_succ]))
      (refine wpF_fork rfl rfl (fun K hK => ?_) (fun K hK => ?_) <;> go_simp)
      · (refine hK.out _ _ _ (fun _ h => h) (hHeld) (fun hHeld => ?_); clear hK; clear K; (try simp only [Act.put, List.setIfInBounds_toArray, List.set_cons_zero, List.set_cons_succ]))
        (refine wpF_step rfl (by rfl) (fun K hK => ?_); go_simp)
        (refine hK.out _ _ _ (fun _ h => h) (S3a hHeld _) (fun hHeld => ?_); clear hK; clear K; (try simp only [Act.put, List.setIfInBounds_toArray, List.set_cons_zero, List.set_cons_succ]))
        (refine wpF_step rfl (by rfl) (fun K hK => ?_))
        refine step_appN eltW2 _ rfl _ _ rfl (w.heap.size + 1 + 1 + 1) (by simp; omega) p j cp _ rfl (HO.out.later (by (repeat (first | exact Below.refl _ _ | refine Below.drew ?_ | refine bl_drewN ?_ _ | (refine Below.alloc ?_ (by first | exact Nat.le_refl _ | (simp; done) | (simp; omega)) _))))) _ 1 1 _ rfl HX.out (fun _ => by decide) (by omega) ?_
        intro g2 cp2 w7 row hown7 hgrow7 hrow7
        have hrne : ∀ k, row = some k → w.heap.size + 1 + 1 + 1 ≤ k := by
          intro k hk
          rcases HO.out with ⟨h0, _⟩ | ⟨g, h1, h2⟩
          · rw [h0] at hrow7; cases hrow7 k hk
          · have := hrow7 k hk
            rw [h1] at this
            cases this
            exact (h2.lt _ rfl).1
        have hB7 := below_grown (show Below w.heap.size w _ from by exact (hbr.drew).alloc (by have := hbr.size; exact this) _) hgrow7 (fun k hk => by have := hrne k hk; omega)
        have ho1 := grown_cell hgrow7 (b := w.heap.size + 1 + 1) (i := 1) (u := .slice p j cp) (al_cell hx6 _) (fun k hk => by have := hrne k hk; omega)
        have ho0 := grown_cell hgrow7 (b := w.heap.size + 1 + 1) (i := 0) (u := .slice ao n c) (al_cell hx5 _) (fun k hk => by have := hrne k hk; omega)
        have hof := grown_frozen hgrow7 (b := w.heap.size + 1 + 1) (i := 1) (by simp; omega) (al_frz (by omega) hx9 _) (fun k hk => by have := hrne k hk; omega)
        have hr0 := grown_cell hgrow7 (b := w.heap.size + 1) (i := 0) (u := .slice none 0 0) (al_cell hx3 _) (fun k hk => by have := hrne k hk; omega)
        have hr1 := grown_cell hgrow7 (b := w.heap.size + 1) (i := 1) (u := .slice none 0 0) (al_cell hx4 _) (fun k hk => by have := hrne k hk; omega)
        have hrf0 := grown_frozen hgrow7 (b := w.heap.size + 1) (i := 0) (by simp; omega) (al_frz (by omega) hx7 _) (fun k hk => by have := hrne k hk; omega)
        have hrf1 := grown_frozen hgrow7 (b := w.heap.size + 1) (i := 1) (by simp; omega) (al_frz (by omega) hx8 _) (fun k hk => by have := hrne k hk; omega)
        have hd0 := grown_cell hgrow7 (b := w.heap.size) (i := 0) (u := .slice ao n c) (al_cell hx1 _) (fun k hk => by have := hrne k hk; omega)
        have hg2 := (hown7.lt g2 rfl)
        have hsz7 := hgrow7.size
        simp only [World.size_alloc, size_drew'] at hsz7
        replace hown7 := Lib.hid hown7
        (refine hK.out _ _ _ (fun _ h => h) (⟨grown_cell hgrow7 hHeld.1 (fun k hk => by have := hrne k hk; omega), grown_cell hgrow7 hHeld.2.1 (fun k hk => by have := hrne k hk; omega), grown_cell hgrow7 hHeld.2.2 (fun k hk => by have := hrne k hk; omega)⟩) (fun hHeld => ?_); clear hK; clear K; (try simp only [Act.put, List.setIfInBounds_toArray, List.set_cons_zero, List.set_cons_succ]))
        clear hgrow7 hrow7 hrne
        iterate 1 (refine wpF_take rfl (by rfl) (by rfl) (by intro w' hSw; (try dsimp only at hSw); go_simp; (try with_reducible rfl)) (by assumption) ?_; (try simp only [Act.put, List.setIfInBounds_toArray, List.set_cons_zero, List.set_cons_succ]))
        (refine wpF_step rfl (by rfl) (fun K hK => ?_); go_simp)
        have hHeld' := hHeld
        (refine hK.out _ _ _ (fun _ h => h) (⟨(World.cell?_setCell_far _ _ _ _ (by show w.heap.size + 1 + 1 ≠ w.heap.size; omega)).trans hHeld.1, (World.cell?_setCell_far _ _ _ _ (by show w.heap.size + 1 + 1 ≠ b; omega)).trans hHeld.2.1, (World.cell?_setCell_far _ _ _ _ (by show w.heap.size + 1 + 1 ≠ b; omega)).trans hHeld.2.2⟩) (fun hHeld => ?_); clear hK; clear K; (try simp only [Act.put, List.setIfInBounds_toArray, List.set_cons_zero, List.set_cons_succ]))
        (refine wpF_nil ?_)
        go_wp2
        go_roundw
        case rel =>
          have hfar (i : Nat) (B : Nat) (hB : w.heap.size + 1 + 1 ≠ B) : (w7.setCell ⟨w.heap.size + 1 + 1, 1, none⟩ (.slice (some ⟨g2, 0, none⟩) (j + 1) cp2)).cell? ⟨B, i, none⟩ = w7.cell? ⟨B, i, none⟩ := World.cell?_setCell_far _ _ _ _ hB
          refine ⟨j + 1, some ⟨g2, 0, none⟩, cp2, by omega, by go_num, .inr ⟨g2, rfl, ?_⟩, (hB7.setCell (by show w.heap.size ≤ w.heap.size + 1 + 1; omega) _), by simp; omega, ?_, ?_, ?_, ?_, ?_, ?_, ?_, ?_, ?_⟩
          · have e1 : wc (R.take (j + 1)) = wc (R.take j) ++ [.int .i64 r.at_, .slice r.ao r.n r.c] := by rw [List.take_add_one, HR.out, wc_app]; rfl
            rw [e1]
            exact ownsRow_set hown7.out (by omega)
          · rw [hfar _ _ (by omega)]; exact hd0
          · rw [hfar _ _ (by omega)]; exact hHeld'.1
          · rw [hfar _ _ (by omega)]; exact hr0
          · rw [hfar _ _ (by omega)]; exact hr1
          · rw [World.cell?_setCell_other _ _ _ _ (by simp)]; exact ho0
          · exact World.cell?_setCell_same _ _ _ ho1
          · rw [World.frozen?_setCell]; exact hrf0
          · rw [World.frozen?_setCell]; exact hrf1
          · rw [World.frozen?_setCell]; exact hof
        case measure => simp [intOf]; omega
      · (refine hK.out _ _ _ (fun _ h => h) (S3a hHeld _) (fun hHeld => ?_); clear hK; clear K; (try simp only [Act.put, List.setIfInBounds_toArray, List.set_cons_zero, List.set_cons_succ]))
        (refine wpF_step rfl (by rfl) (fun K hK => ?_); go_simp)
        (refine hK.out _ _ _ (fun _ h => h) (hHeld) (fun hHeld => ?_); clear hK; clear K; (try simp only [Act.put, List.setIfInBounds_toArray, List.set_cons_zero, List.set_cons_succ]))
        (refine wpF_step rfl (by rfl) (fun K hK => ?_))
        refine step_appN eltW2 _ rfl _ _ rfl (w.heap.size + 1 + 1 + 1) (by simp; omega) p j cp _ rfl (HO.out.later (by (repeat (first | exact Below.refl _ _ | refine Below.drew ?_ | refine bl_drewN ?_ _ | (refine Below.alloc ?_ (by first | exact Nat.le_refl _ | (simp; done) | (simp; omega)) _))))) _ 1 1 _ rfl HX.out (fun _ => by decide) (by omega) ?_
        intro g2 cp2 w7 row hown7 hgrow7 hrow7
        have hrne : ∀ k, row = some k → w.heap.size + 1 + 1 + 1 ≤ k := by
          intro k hk
          rcases HO.out with ⟨h0, _⟩ | ⟨g, h1, h2⟩
          · rw [h0] at hrow7; cases hrow7 k hk
          · have := hrow7 k hk
            rw [h1] at this
            cases this
            exact (h2.lt _ rfl).1
        have hB7 := below_grown (show Below w.heap.size w _ from by exact (hbr.drew).alloc (by have := hbr.size; exact this) _) hgrow7 (fun k hk => by have := hrne k hk; omega)
        have ho1 := grown_cell hgrow7 (b := w.heap.size + 1 + 1) (i := 1) (u := .slice p j cp) (al_cell hx6 _) (fun k hk => by have := hrne k hk; omega)
        have ho0 := grown_cell hgrow7 (b := w.heap.size + 1 + 1) (i := 0) (u := .slice ao n c) (al_cell hx5 _) (fun k hk => by have := hrne k hk; omega)
        have hof := grown_frozen hgrow7 (b := w.heap.size + 1 + 1) (i := 1) (by simp; omega) (al_frz (by omega) hx9 _) (fun k hk => by have := hrne k hk; omega)
        have hr0 := grown_cell hgrow7 (b := w.heap.size + 1) (i := 0) (u := .slice none 0 0) (al_cell hx3 _) (fun k hk => by have := hrne k hk; omega)
        have hr1 := grown_cell hgrow7 (b := w.heap.size + 1) (i := 1) (u := .slice none 0 0) (al_cell hx4 _) (fun k hk => by have := hrne k hk; omega)
        have hrf0 := grown_frozen hgrow7 (b := w.heap.size + 1) (i := 0) (by simp; omega) (al_frz (by omega) hx7 _) (fun k hk => by have := hrne k hk; omega)
        have hrf1 := grown_frozen hgrow7 (b := w.heap.size + 1) (i := 1) (by simp; omega) (al_frz (by omega) hx8 _) (fun k hk => by have := hrne k hk; omega)
        have hd0 := grown_cell hgrow7 (b := w.heap.size) (i := 0) (u := .slice ao n c) (al_cell hx1 _) (fun k hk => by have := hrne k hk; omega)
        have hg2 := (hown7.lt g2 rfl)
        have hsz7 := hgrow7.size
        simp only [World.size_alloc, size_drew'] at hsz7
        replace hown7 := Lib.hid hown7
        (refine hK.out _ _ _ (fun _ h => h) (⟨grown_cell hgrow7 hHeld.1 (fun k hk => by have := hrne k hk; omega), grown_cell hgrow7 hHeld.2.1 (fun k hk => by have := hrne k hk; omega), grown_cell hgrow7 hHeld.2.2 (fun k hk => by have := hrne k hk; omega)⟩) (fun hHeld => ?_); clear hK; clear K; (try simp only [Act.put, List.setIfInBounds_toArray, List.set_cons_zero, List.set_cons_succ]))
        clear hgrow7 hrow7 hrne
        iterate 1 (refine wpF_take rfl (by rfl) (by rfl) (by intro w' hSw; (try dsimp only at hSw); go_simp; (try with_reducible rfl)) (by assumption) ?_; (try simp only [Act.put, List.setIfInBounds_toArray, List.set_cons_zero, List.set_cons_succ]))
        (refine wpF_step rfl (by rfl) (fun K hK => ?_); go_simp)
        have hHeld' := hHeld
        (refine hK.out _ _ _ (fun _ h => h) (⟨(World.cell?_setCell_far _ _ _ _ (by show w.heap.size + 1 + 1 ≠ w.heap.size; omega)).trans hHeld.1, (World.cell?_setCell_far _ _ _ _ (by show w.heap.size + 1 + 1 ≠ b; omega)).trans hHeld.2.1, (World.cell?_setCell_far _ _ _ _ (by show w.heap.size + 1 + 1 ≠ b; omega)).trans hHeld.2.2⟩) (fun hHeld => ?_); clear hK; clear K; (try simp only [Act.put, List.setIfInBounds_toArray, List.set_cons_zero, List.set_cons_succ]))
        (refine wpF_nil ?_)
        go_wp2
        go_roundw
        case rel =>
          have hfar (i : Nat) (B : Nat) (hB : w.heap.size + 1 + 1 ≠ B) : (w7.setCell ⟨w.heap.size + 1 + 1, 1, none⟩ (.slice (some ⟨g2, 0, none⟩) (j + 1) cp2)).cell? ⟨B, i, none⟩ = w7.cell? ⟨B, i, none⟩ := World.cell?_setCell_far _ _ _ _ hB
          refine ⟨j + 1, some ⟨g2, 0, none⟩, cp2, by omega, by go_num, .inr ⟨g2, rfl, ?_⟩, (hB7.setCell (by show w.heap.size ≤ w.heap.size + 1 + 1; omega) _), by simp; omega, ?_, ?_, ?_, ?_, ?_, ?_, ?_, ?_, ?_⟩
          · have e1 : wc (R.take (j + 1)) = wc (R.take j) ++ [.int .i64 r.at_, .slice r.ao r.n r.c] := by rw [List.take_add_one, HR.out, wc_app]; rfl
            rw [e1]
            exact ownsRow_set hown7.out (by omega)
          · rw [hfar _ _ (by omega)]; exact hd0
          · rw [hfar _ _ (by omega)]; exact hHeld'.1
          · rw [hfar _ _ (by omega)]; exact hr0
          · rw [hfar _ _ (by omega)]; exact hr1
          · rw [World.cell?_setCell_other _ _ _ _ (by simp)]; exact ho0
          · exact World.cell?_setCell_same _ _ _ ho1
          · rw [World.frozen?_setCell]; exact hrf0
          · rw [World.frozen?_setCell]; exact hrf1
          · rw [World.frozen?_setCell]; exact hof
        case measure => simp [intOf]; omega
    · have hjm : j = m := by omega
      subst hjm
      have hown := HO.out
      rw [List.take_of_length_le (by have := HLM.out; omega)] at hown
      have HO2 := Lib.hid hown
      clear hown HO
      have hni := Lib.hid (ni_two hx3 hx4 hx7)
      go_wp2
      refine bodyPost_ret (v := .agg #[.slice ao n c, .slice p j cp]) (by simp [results, Try.results19, go_sem, hx3, hx4, hx5, hx6, hx7, hx8, hx9]) rfl ?_
      have hBf := (hbr.setCell (Nat.le_succ _) (.slice ao n c) (p := ⟨w.heap.size + 1, 0, none⟩)).setCell (Nat.le_succ _) (.slice p j cp) (p := ⟨w.heap.size + 1, 1, none⟩)
      have hne : ∀ ad, p = some ad → w.heap.size + 1 ≠ ad.block := by
        intro ad ha
        rcases HO2.out with ⟨h0, _⟩ | ⟨g, h1, h2⟩
        · rw [h0] at ha; cases ha
        · rw [h1] at ha
          cases ha
          have := (h2.lt g rfl).1
          show w.heap.size + 1 ≠ g
          omega
      exact ⟨_, _, rfl, ⟨(H.out.later hBf).row, ((HO2.out.row (wc_one _)).far hne).far hne, (H.out.later hBf).data⟩, hBf⟩
end Go.Proofs.Ytoihponjnhhgbaa
