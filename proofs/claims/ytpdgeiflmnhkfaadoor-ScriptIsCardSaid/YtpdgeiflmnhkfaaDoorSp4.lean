/- florinlaw23: steps, rows. (hM) -/
import Derived.Test.YtpdgeiflmnhkfaaDoorSp3
namespace Go.Proofs.YtpdgeiflmnhkfaaDoor
set_option linter.unusedVariables false
set_option linter.unusedSimpArgs false
open Go.RowKit

theorem row_stpR (W : World) (s : Stp) : Row (W.alloc (.cells #[.int .i64 s.k, .int .i64 s.p, .int .i64 s.n, .slice s.ao s.m s.c] 104)) (some ⟨W.heap.size, 0, none⟩) 1 1 4 (stL s) := by
  have := row_new W (stL s).toArray 104 1 1 4 rfl (Nat.le_refl _) (by intro u hu; simp [stL] at hu; rcases hu with rfl | rfl | rfl | rfl <;> rfl)
  exact this
theorem cells4_later {w w' : World} {b i0 i1 i2 i3 : Nat} {v0 v1 v2 v3 : Value} (h : w.cell? ⟨b, i0, none⟩ = some v0 ∧ w.cell? ⟨b, i1, none⟩ = some v1 ∧ w.cell? ⟨b, i2, none⟩ = some v2 ∧ w.cell? ⟨b, i3, none⟩ = some v3) (hb : Below w.heap.size w w') :
    w'.cell? ⟨b, i0, none⟩ = some v0 ∧ w'.cell? ⟨b, i1, none⟩ = some v1 ∧ w'.cell? ⟨b, i2, none⟩ = some v2 ∧ w'.cell? ⟨b, i3, none⟩ = some v3 :=
  have hl := World.block_lt_of_cell? w ⟨b, i0, none⟩ h.1
  ⟨(hb.cell (p := ⟨b, i0, none⟩) hl).trans h.1, (hb.cell (p := ⟨b, i1, none⟩) hl).trans h.2.1, (hb.cell (p := ⟨b, i2, none⟩) hl).trans h.2.2.1, (hb.cell (p := ⟨b, i3, none⟩) hl).trans h.2.2.2⟩
theorem cells4_grown {w w' : World} {row : Option Nat} (hg : w.grownBy w' row) {b i0 i1 i2 i3 : Nat} {v0 v1 v2 v3 : Value} (h : w.cell? ⟨b, i0, none⟩ = some v0 ∧ w.cell? ⟨b, i1, none⟩ = some v1 ∧ w.cell? ⟨b, i2, none⟩ = some v2 ∧ w.cell? ⟨b, i3, none⟩ = some v3) (hne : ∀ k, row = some k → b ≠ k) :
    w'.cell? ⟨b, i0, none⟩ = some v0 ∧ w'.cell? ⟨b, i1, none⟩ = some v1 ∧ w'.cell? ⟨b, i2, none⟩ = some v2 ∧ w'.cell? ⟨b, i3, none⟩ = some v3 :=
  ⟨grown_cell hg h.1 hne, grown_cell hg h.2.1 hne, grown_cell hg h.2.2.1 hne, grown_cell hg h.2.2.2 hne⟩
def ConvRel (w : World) (E : TypeId) (n : Nat) (L : List Stp) (l i : Value) (wr : World) : Prop :=
  ∃ (j : Nat) (lo : Option Addr) (cap : Nat), j ≤ n ∧ i = .int .i64 j ∧ l = .slice lo j cap ∧ OwnN w.heap.size E 4 wr lo j cap (stsL (L.take j)) ∧ Below w.heap.size w wr

set_option maxRecDepth 100000 in
set_option maxHeartbeats 2000000 in
theorem steps_any (ao : Option Addr) (n c : Nat) (L : List Stp) (w : World) (h : Sts w ao n c L) (hn : n ≤ 1000000) :
    Calls Tryd.prog 93 #[.slice ao n c] w fun e w' => ∃ (lo : Option Addr) (cap : Nat), e = .returned (.slice lo n cap) ∧ Sts w' lo n cap L ∧ OwnN w.heap.size 106 4 w' lo n cap (stsL L) ∧ Below w.heap.size w w' := by
  have hL := h.len
  have H := Lib.hid h
  have HL := Lib.hid hL
  have HN := Lib.hid hn
  have hB0 := Below.refl w.heap.size w
  clear h hL hn
  go_enter Tryd.func93, Tryd.ntmps93
  go_wp2
  go_loopw [3, 4] (fun l i wr => ConvRel w 106 n L l i wr) (fun _ i _ => n - (intOf i).toNat)
  case atStart => exact ⟨0, none, 0, Nat.zero_le _, rfl, rfl, by simpa [stsL] using ownN_nil _ _ _ _, hB0⟩
  case round =>
    obtain ⟨j, lo, cap, hj, rfl, rfl, hown, hbr⟩ := hrel
    have HO := Lib.hid hown
    clear hown
    by_cases hlt : j < n
    · obtain ⟨s, hs⟩ : ∃ s, L[j]? = some s := ⟨_, List.getElem?_eq_getElem (by have := HL.out; omega)⟩
      obtain ⟨b, off, rfl⟩ := H.out.addr (by omega)
      have hS := H.out.later hbr
      obtain ⟨c0, c1, c2, c3⟩ := hS.cells hs
      have hjn : (j : Int) < (n : Int) := by omega
      have HS := Lib.hid hs
      have hw3 : IntKind.i64.wrap ((j : Int) + 1) = ((j + 1 : Nat) : Int) := by rw [IntKind.wrap_i64]; have := HN.out; omega
      have hbl : b < wr.heap.size := World.block_lt_of_cell? wr ⟨b, _, none⟩ c0
      have hbw : b < w.heap.size := H.out.row.lt _ rfl (by intro e; have h1 := H.out.row.len; rw [e] at h1; simp at h1; omega)
      have hC : wr.cell? ⟨b, off + j * 4, none⟩ = some (.int .i64 s.k) ∧ wr.cell? ⟨b, off + j * 4 + 1, none⟩ = some (.int .i64 s.p) ∧ wr.cell? ⟨b, off + j * 4 + 2, none⟩ = some (.int .i64 s.n) ∧ wr.cell? ⟨b, off + j * 4 + 3, none⟩ = some (.slice s.ao s.m s.c) := ⟨c0, c1, c2, c3⟩
      have HRS := Lib.hid (row_stp wr.drew s)
      clear hs hS c0 c1 c2 c3
      go_wp2
      refine wp_plan (fun x => x.cell? ⟨b, off + j * 4, none⟩ = some (.int .i64 s.k) ∧ x.cell? ⟨b, off + j * 4 + 1, none⟩ = some (.int .i64 s.p) ∧ x.cell? ⟨b, off + j * 4 + 2, none⟩ = some (.int .i64 s.n) ∧ x.cell? ⟨b, off + j * 4 + 3, none⟩ = some (.slice s.ao s.m s.c)) [22, 23] [0, 1, 2, 3, 4, 5, 6, 7, 8, 9, 10, 11, 12, 13, 14, 15, 16, 17, 18, 19, 20, 21, 22, 23, 24] (by kernel_rfl) (by kernel_rfl) hC (fun hHeld => ?_)
      iterate 22 (refine wpT_take rfl (by rfl) (by rfl) (by intro w' hSw; (try dsimp only [Mem, cellsAt] at hSw); go_simp; (try with_reducible rfl)) (by assumption) ?_; (try simp only [Act.put, List.setIfInBounds_toArray, List.set_cons_zero, List.set_cons_succ]))
      (refine wpT_step rfl (by rfl) (fun K hK => ?_); go_simp)
      have hq4 := cells4_later hC (show Below wr.heap.size wr (wr.alloc (.cells #[.int .i64 s.k, .int .i64 s.p, .int .i64 s.n, .slice s.ao s.m s.c] 106)).drew by (repeat (first | exact Below.refl _ _ | refine Below.drew ?_ | refine bl_drewN ?_ _ | (refine Below.alloc ?_ (by first | exact Nat.le_refl _ | (simp; done) | (simp; omega)) _))))
      (refine hK.out _ _ _ (fun _ h => h) (hq4) (fun hHeld => ?_); clear hK; clear K; (try simp only [Act.put, List.setIfInBounds_toArray, List.set_cons_zero, List.set_cons_succ]))
      (refine wpT_step rfl (by rfl) (fun K hK => ?_))
      refine step_appN eltStp _ rfl (.tmp 11) (.tmp 33) rfl w.heap.size (by have := hbr.size; simp; omega) lo j cap (stsL (L.take j)) rfl (HO.out.later (by (repeat (first | exact Below.refl _ _ | refine Below.drew ?_ | refine bl_drewN ?_ _ | (refine Below.alloc ?_ (by first | exact Nat.le_refl _ | (simp; done) | (simp; omega)) _))))) (some ⟨wr.heap.size, 0, none⟩) 1 1 (stL s) rfl HRS.out (fun _ => by decide) (by have := HN.out; omega) ?_
      intro g2 cp2 w7 row hown7 hgrow7 hrow7
      have hlt7 := own_row_lt HO.out hrow7
      have hB7 := below_grown (show Below w.heap.size w (wr.alloc (.cells #[.int .i64 s.k, .int .i64 s.p, .int .i64 s.n, .slice s.ao s.m s.c] 106)).drew from (bl_al hbr _).drew) hgrow7 (fun k hk => (hlt7 k hk).1)
      have HO7 := Lib.hid hown7
      (refine hK.out _ _ _ (fun _ h => h) (cells4_grown hgrow7 hHeld (fun k hk => by have := (hlt7 k hk).1; omega)) (fun hHeld => ?_); clear hK; clear K; (try simp only [Act.put, List.setIfInBounds_toArray, List.set_cons_zero, List.set_cons_succ]))
      clear hown7 hgrow7 hrow7 hlt7 hq4
      iterate 1 (refine wpT_take rfl (by rfl) (by rfl) (by intro w' hSw; (try dsimp only [Mem, cellsAt] at hSw); go_simp; (try with_reducible rfl)) (by assumption) ?_; (try simp only [Act.put, List.setIfInBounds_toArray, List.set_cons_zero, List.set_cons_succ]))
      (refine wpT_nil ?_)
      go_wp2
      refine ⟨⟨j + 1, some ⟨g2, 0, none⟩, cp2, by omega, by first | rfl | go_num, rfl, ?_, hB7⟩, by simp [intOf]; omega⟩
      have h7 := HO7.out
      have e : stsL (L.take (j + 1)) = stsL (L.take j) ++ stL s := by rw [List.take_add_one, HS.out, stsL_app]; simp [stsL]
      rw [e]
      exact .inr ⟨g2, rfl, h7⟩
    · obtain rfl : j = n := by omega
      have hjj : ¬ (j : Int) < (j : Int) := by omega
      have e : L.take j = L := List.take_of_length_le (by have := HL.out; omega)
      rw [e] at HO
      clear e
      go_wp2
      go_ret
      exact ⟨lo, cap, rfl, ⟨HO.out.row (stsL_one L), fun s hs => (H.out.ok s hs).later hbr⟩, HO.out, hbr⟩

set_option maxRecDepth 100000 in
set_option maxHeartbeats 2000000 in
theorem rows_any (ao : Option Addr) (n c : Nat) (L : List Stp) (w : World) (h : Sts w ao n c L) (hn : n ≤ 1000000) :
    Calls Tryd.prog 98 #[.slice ao n c] w fun e w' => ∃ (lo : Option Addr) (cap : Nat), e = .returned (.slice lo n cap) ∧ Sts w' lo n cap L ∧ OwnN w.heap.size 104 4 w' lo n cap (stsL L) ∧ Below w.heap.size w w' := by
  have hL := h.len
  have H := Lib.hid h
  have HL := Lib.hid hL
  have HN := Lib.hid hn
  have hB0 := Below.refl w.heap.size w
  clear h hL hn
  go_enter Tryd.func98, Tryd.ntmps98
  go_wp2
  go_loopw [3, 4] (fun l i wr => ConvRel w 104 n L l i wr) (fun _ i _ => n - (intOf i).toNat)
  case atStart => exact ⟨0, none, 0, Nat.zero_le _, rfl, rfl, by simpa [stsL] using ownN_nil _ _ _ _, hB0⟩
  case round =>
    obtain ⟨j, lo, cap, hj, rfl, rfl, hown, hbr⟩ := hrel
    have HO := Lib.hid hown
    clear hown
    by_cases hlt : j < n
    · obtain ⟨s, hs⟩ : ∃ s, L[j]? = some s := ⟨_, List.getElem?_eq_getElem (by have := HL.out; omega)⟩
      obtain ⟨b, off, rfl⟩ := H.out.addr (by omega)
      have hS := H.out.later hbr
      obtain ⟨c0, c1, c2, c3⟩ := hS.cells hs
      have hjn : (j : Int) < (n : Int) := by omega
      have HS := Lib.hid hs
      have hw3 : IntKind.i64.wrap ((j : Int) + 1) = ((j + 1 : Nat) : Int) := by rw [IntKind.wrap_i64]; have := HN.out; omega
      have hbl : b < wr.heap.size := World.block_lt_of_cell? wr ⟨b, _, none⟩ c0
      have hbw : b < w.heap.size := H.out.row.lt _ rfl (by intro e; have h1 := H.out.row.len; rw [e] at h1; simp at h1; omega)
      have hC : wr.cell? ⟨b, off + j * 4, none⟩ = some (.int .i64 s.k) ∧ wr.cell? ⟨b, off + j * 4 + 1, none⟩ = some (.int .i64 s.p) ∧ wr.cell? ⟨b, off + j * 4 + 2, none⟩ = some (.int .i64 s.n) ∧ wr.cell? ⟨b, off + j * 4 + 3, none⟩ = some (.slice s.ao s.m s.c) := ⟨c0, c1, c2, c3⟩
      have HRS := Lib.hid (row_stpR wr.drew s)
      clear hs hS c0 c1 c2 c3
      go_wp2
      refine wp_plan (fun x => x.cell? ⟨b, off + j * 4, none⟩ = some (.int .i64 s.k) ∧ x.cell? ⟨b, off + j * 4 + 1, none⟩ = some (.int .i64 s.p) ∧ x.cell? ⟨b, off + j * 4 + 2, none⟩ = some (.int .i64 s.n) ∧ x.cell? ⟨b, off + j * 4 + 3, none⟩ = some (.slice s.ao s.m s.c)) [22, 23] [0, 1, 2, 3, 4, 5, 6, 7, 8, 9, 10, 11, 12, 13, 14, 15, 16, 17, 18, 19, 20, 21, 22, 23, 24] (by kernel_rfl) (by kernel_rfl) hC (fun hHeld => ?_)
      iterate 22 (refine wpT_take rfl (by rfl) (by rfl) (by intro w' hSw; (try dsimp only [Mem, cellsAt] at hSw); go_simp; (try with_reducible rfl)) (by assumption) ?_; (try simp only [Act.put, List.setIfInBounds_toArray, List.set_cons_zero, List.set_cons_succ]))
      (refine wpT_step rfl (by rfl) (fun K hK => ?_); go_simp)
      have hq4 := cells4_later hC (show Below wr.heap.size wr (wr.alloc (.cells #[.int .i64 s.k, .int .i64 s.p, .int .i64 s.n, .slice s.ao s.m s.c] 104)).drew by (repeat (first | exact Below.refl _ _ | refine Below.drew ?_ | refine bl_drewN ?_ _ | (refine Below.alloc ?_ (by first | exact Nat.le_refl _ | (simp; done) | (simp; omega)) _))))
      (refine hK.out _ _ _ (fun _ h => h) (hq4) (fun hHeld => ?_); clear hK; clear K; (try simp only [Act.put, List.setIfInBounds_toArray, List.set_cons_zero, List.set_cons_succ]))
      (refine wpT_step rfl (by rfl) (fun K hK => ?_))
      refine step_appN eltStpR _ rfl (.tmp 11) (.tmp 33) rfl w.heap.size (by have := hbr.size; simp; omega) lo j cap (stsL (L.take j)) rfl (HO.out.later (by (repeat (first | exact Below.refl _ _ | refine Below.drew ?_ | refine bl_drewN ?_ _ | (refine Below.alloc ?_ (by first | exact Nat.le_refl _ | (simp; done) | (simp; omega)) _))))) (some ⟨wr.heap.size, 0, none⟩) 1 1 (stL s) rfl HRS.out (fun _ => by decide) (by have := HN.out; omega) ?_
      intro g2 cp2 w7 row hown7 hgrow7 hrow7
      have hlt7 := own_row_lt HO.out hrow7
      have hB7 := below_grown (show Below w.heap.size w (wr.alloc (.cells #[.int .i64 s.k, .int .i64 s.p, .int .i64 s.n, .slice s.ao s.m s.c] 104)).drew from (bl_al hbr _).drew) hgrow7 (fun k hk => (hlt7 k hk).1)
      have HO7 := Lib.hid hown7
      (refine hK.out _ _ _ (fun _ h => h) (cells4_grown hgrow7 hHeld (fun k hk => by have := (hlt7 k hk).1; omega)) (fun hHeld => ?_); clear hK; clear K; (try simp only [Act.put, List.setIfInBounds_toArray, List.set_cons_zero, List.set_cons_succ]))
      clear hown7 hgrow7 hrow7 hlt7 hq4
      iterate 1 (refine wpT_take rfl (by rfl) (by rfl) (by intro w' hSw; (try dsimp only [Mem, cellsAt] at hSw); go_simp; (try with_reducible rfl)) (by assumption) ?_; (try simp only [Act.put, List.setIfInBounds_toArray, List.set_cons_zero, List.set_cons_succ]))
      (refine wpT_nil ?_)
      go_wp2
      refine ⟨⟨j + 1, some ⟨g2, 0, none⟩, cp2, by omega, by first | rfl | go_num, rfl, ?_, hB7⟩, by simp [intOf]; omega⟩
      have h7 := HO7.out
      have e : stsL (L.take (j + 1)) = stsL (L.take j) ++ stL s := by rw [List.take_add_one, HS.out, stsL_app]; simp [stsL]
      rw [e]
      exact .inr ⟨g2, rfl, h7⟩
    · obtain rfl : j = n := by omega
      have hjj : ¬ (j : Int) < (j : Int) := by omega
      have e : L.take j = L := List.take_of_length_le (by have := HL.out; omega)
      rw [e] at HO
      clear e
      go_wp2
      go_ret
      exact ⟨lo, cap, rfl, ⟨HO.out.row (stsL_one L), fun s hs => (H.out.ok s hs).later hbr⟩, HO.out, hbr⟩
end Go.Proofs.YtpdgeiflmnhkfaaDoor
