/- Disk: Sync, Crash. -/
import Derived.Test.YtoihponjnhhgbaaDk4
namespace Go.Proofs.Ytoihponjnhhgbaa
set_option linter.unusedVariables false
set_option linter.unusedSimpArgs false
open Go.RowKit

set_option maxHeartbeats 1000000 in
theorem sync_any (ao : Option Addr) (n c : Nat) (base : List Int) (po : Option Addr) (m pc : Nat) (R : List Rep) (w0 w : World) (h : DP w0 ao n c base po m pc R) (hb : Below w0.heap.size w0 w) (hn : n ≤ 1000000) (hm : m ≤ 1000000) :
    Calls Try.prog 24 #[.agg #[.slice ao n c, .slice po m pc]] w fun e w' => ∃ bo N c', e = .returned (.agg #[.slice bo N c', .slice none 0 0]) ∧ DP w' bo N c' (bytesD base (R.map Rep.plain)) none 0 0 [] ∧ Below w.heap.size w w' := by
  have HC := Lib.hid (fun w' hb' => bytes_any ao n c base po m pc R w' (h.later (bl_then hb hb')) hn hm)
  clear h
  go_enter Try.func24, Try.ntmps24
  go_wp2_with (go_at_call 22; (with_reducible refine (HC.out _ (by (repeat (first | exact Below.refl _ _ | refine Below.drew ?_ | refine bl_drewN ?_ _ | (refine Below.alloc ?_ (by first | exact Nat.le_refl _ | (simp; done) | (simp; omega)) _))))).mono ?_); rintro e w1 ⟨bo, N, c1, rfl, hrow, hown, hb1⟩; obtain ⟨hc1, hc2, hc3, hc4, hc5⟩ := box2 hb1; simp only [World.size_alloc] at hc1 hc2 hc3 hc4 hc5; have hB1 := bl_then (show Below w.heap.size w _ by (repeat (first | exact Below.refl _ _ | refine Below.drew ?_ | refine bl_drewN ?_ _ | (refine Below.alloc ?_ (by first | exact Nat.le_refl _ | (simp; done) | (simp; omega)) _)))) hb1; replace hrow := Lib.hid hrow; replace hown := Lib.hid hown)
  refine bodyPost_ret (v := .agg #[.slice bo N c1, .slice none 0 0]) (by simp [results, Try.results24, go_sem, hc1, hc2, hc3, hc4, hc5]) rfl ?_
  refine ⟨_, _, _, rfl, ⟨?_, row_mt _ _ _ _ (fun _ => rfl), fun _ h => by cases h⟩, by refine Below.setCell (Below.setCell hB1 ?_ _) ?_ _ <;> exact Nat.le_succ _⟩
  have hne : ∀ ad, bo = some ad → w.heap.size + 1 ≠ ad.block := by
    intro ad ha
    rcases hown.out with ⟨h0, _⟩ | ⟨g, h1, h2⟩
    · rw [h0] at ha; cases ha
    · rw [h1] at ha
      cases ha
      have := (h2.lt g rfl).1
      simp only [World.size_alloc] at this
      show w.heap.size + 1 ≠ g
      omega
  exact (hrow.out.far hne).far hne

/-- what a crash leaves: of each write so many bytes as the plan says -/
def crs (base : List Int) (pend : List (Int × List Int)) (plan : List Int) : List Int := (pend.zip plan).foldl (fun b q => spl b (32 * q.1.1.toNat) (q.1.2.take (min q.2.toNat 32))) base
def crashD (base : List Int) (pend : List (Int × List Int)) (plan : List Int) : List Int := crs (ownD base pend).1 (ownD base pend).2 plan
theorem zip_snoc {α β : Type} (l : List α) (p : α) (r : List β) : (l ++ [p]).zip r = l.zip r ++ (match r[l.length]? with | some x => [(p, x)] | none => []) := by
  induction l generalizing r with
  | nil => cases r <;> simp
  | cons a l ih =>
    cases r with
    | nil => simp
    | cons b r => simp [ih]
theorem crs_in (base : List Int) (l : List (Int × List Int)) (p : Int × List Int) (plan : List Int) (x : Int) (h : plan[l.length]? = some x) : crs base (l ++ [p]) plan = spl (crs base l plan) (32 * p.1.toNat) (p.2.take (min x.toNat 32)) := by
  unfold crs; rw [zip_snoc, h, List.foldl_append]; rfl
theorem crs_out (base : List Int) (l : List (Int × List Int)) (p : Int × List Int) (plan : List Int) (h : plan.length ≤ l.length) : crs base (l ++ [p]) plan = crs base l plan := by
  unfold crs; rw [zip_snoc, List.getElem?_eq_none h, List.append_nil]

def CrsRel (w : World) (bo : Option Addr) (n m cb : Nat) (base : List Int) (R : List Rep) (plan : List Int) (i : Value) (wr : World) : Prop :=
  ∃ j : Nat, j ≤ m ∧ i = .int .i64 (j : Int) ∧ OwnN w.heap.size 5 1 wr bo n cb (b8 (crs base ((R.take j).map Rep.plain) plan)) ∧ Below w.heap.size w wr

theorem set_name (w1 : World) (B : Nat) (u v : Value) : ∃ wA, Hid ((w1.setCell ⟨B, 0, none⟩ u).setCell ⟨B, 1, none⟩ v = wA) := ⟨_, rfl⟩
theorem set_far {w1 wA : World} {B : Nat} {u v : Value} (h : Hid ((w1.setCell ⟨B, 0, none⟩ u).setCell ⟨B, 1, none⟩ v = wA)) (B' : Nat) (hne : B ≠ B') (i : Nat) : wA.cell? ⟨B', i, none⟩ = w1.cell? ⟨B', i, none⟩ ∧ wA.frozen? ⟨B', i, none⟩ = w1.frozen? ⟨B', i, none⟩ := by
  rw [← h.out]
  exact ⟨by rw [World.cell?_setCell_far _ _ _ _ (by exact hne), World.cell?_setCell_far _ _ _ _ (by exact hne)], by rw [World.frozen?_setCell, World.frozen?_setCell]⟩
theorem set_size {w1 wA : World} {B : Nat} {u v : Value} (h : Hid ((w1.setCell ⟨B, 0, none⟩ u).setCell ⟨B, 1, none⟩ v = wA)) : wA.heap.size = w1.heap.size := by
  rw [← h.out]; simp
theorem set_same {w1 wA : World} {B : Nat} {u v u' v' : Value} (h : Hid ((w1.setCell ⟨B, 0, none⟩ u).setCell ⟨B, 1, none⟩ v = wA)) (h1 : w1.cell? ⟨B, 0, none⟩ = some u') (h2 : w1.cell? ⟨B, 1, none⟩ = some v') (h3 : w1.frozen? ⟨B, 0, none⟩ = false) (h4 : w1.frozen? ⟨B, 1, none⟩ = false) :
    wA.cell? ⟨B, 0, none⟩ = some u ∧ wA.cell? ⟨B, 1, none⟩ = some v ∧ wA.frozen? ⟨B, 0, none⟩ = false ∧ wA.frozen? ⟨B, 1, none⟩ = false := by
  rw [← h.out]
  refine ⟨?_, ?_, ?_, ?_⟩
  · rw [World.cell?_setCell_other _ _ _ _ (by simp)]
    exact World.cell?_setCell_same _ _ _ h1
  · exact World.cell?_setCell_same _ _ _ (by rw [World.cell?_setCell_other _ _ _ _ (by simp)]; exact h2)
  · rw [World.frozen?_setCell, World.frozen?_setCell]; exact h3
  · rw [World.frozen?_setCell, World.frozen?_setCell]; exact h4

set_option maxHeartbeats 1000000 in
theorem crash_any (ao : Option Addr) (n c : Nat) (base : List Int) (po : Option Addr) (m pc : Nat) (R : List Rep) (qo : Option Addr) (qn qc : Nat) (plan : List Int) (w0 w : World) (h : DP w0 ao n c base po m pc R) (hq : Row w0 qo qn qc 1 (b8 plan)) (hb : Below w0.heap.size w0 w) (hn : n ≤ 1000000) (hm : m ≤ 1000000) (hqn : qn ≤ 1000000)
    (hp : ∀ x ∈ plan, 0 ≤ x ∧ x < 256) :
    Calls Try.prog 26 #[.agg #[.slice ao n c, .slice po m pc], .slice qo qn qc] w fun e w' => ∃ bo N c', e = .returned (.agg #[.slice bo N c', .slice none 0 0]) ∧ DP w' bo N c' (crashD base (R.map Rep.plain) plan) none 0 0 [] ∧ Below w.heap.size w w' := by
  have HC := Lib.hid (fun w' hb' => own_any ao n c base po m pc R w w' (h.later hb) hb' hn hm)
  have HQ := Lib.hid (hq.later hb)
  have HP := Lib.hid hp
  have hql := hq.len8
  have HQL := Lib.hid hql
  clear h hq hp hql
  obtain ⟨D, hD⟩ : ∃ D, crashD base (R.map Rep.plain) plan = D := ⟨_, rfl⟩
  have HD := Lib.hid hD
  rw [hD]
  clear hD
  go_enter Try.func26, Try.ntmps26
  go_wp2_with (first | (go_at_call 30; (with_reducible refine (HC.out _ (by (repeat (first | exact Below.refl _ _ | refine Below.drew ?_ | refine bl_drewN ?_ _ | (refine Below.alloc ?_ (by first | exact Nat.le_refl _ | (simp; done) | (simp; omega)) _))))).mono ?_); rintro e w1 ⟨ao1, n1, c1, base1, po1, m1, pc1, R1, rfl, hds, hown, hb1⟩; obtain ⟨hc1, hc2, hc3, hc4, hc5⟩ := box2 (bl_then (below_alloc _ _) hb1); obtain ⟨hd1, hd2, hd3, hd4, hd5⟩ := box2 hb1; simp only [World.size_alloc] at hd1 hd2 hd3 hd4 hd5; have hB1 := bl_then (show Below w.heap.size w _ by (repeat (first | exact Below.refl _ _ | refine Below.drew ?_ | refine bl_drewN ?_ _ | (refine Below.alloc ?_ (by first | exact Nat.le_refl _ | (simp; done) | (simp; omega)) _)))) hb1; have hsm := hds.small; replace hds := Lib.hid hds; replace hown := Lib.hid hown) | fail)
  obtain ⟨wA, hA⟩ := set_name w1 w.heap.size (.slice ao1 n1 c1) (.slice po1 m1 pc1)
  rw [hA.out]
  have hBA : Below w.heap.size w wA := by (rw [← hA.out]; exact (hB1.setCell (Nat.le_refl _) _).setCell (Nat.le_refl _) _)
  have hfA := set_far hA (w.heap.size + 1) (by omega)
  have hsA := set_size hA
  obtain ⟨hg1, hg2, hg3, hg4⟩ := set_same hA hc1 hc2 hc3 hc4
  (with_reducible refine (clone_any ao1 n1 c1 _ _ (hds.out.dp.row.later hBA) (by omega)).mono ?_)
  rintro e w2 ⟨bo, cb, rfl, hbo, hb2⟩
  have he1 := (hb2.cell (p := ⟨w.heap.size, 1, none⟩) (by rw [hsA]; exact hc5)).trans hg2
  replace hbo := Lib.hid hbo
  clear hc1 hc2 hc3 hc4 hb1 hg1 hg2 hg3 hg4
  have hfz := Lib.hid hfA
  have HD1 := Lib.hid (And.intro hd1 (And.intro hd2 (And.intro hd3 (And.intro hd4 hd5))))
  clear hfA hd1 hd2 hd3 hd4
  go_wp2
  go_loopw [17] (fun i wr => CrsRel wA bo n1 m1 cb base1 R1 plan i wr) (fun i _ => m1 - (intOf i).toNat)
  case atStart => exact ⟨0, by omega, rfl, by simpa [crs] using hbo.out, hb2⟩
  case round =>
    clear he1
    obtain ⟨j, hj, rfl, hob, hbr⟩ := hrel
    have HOB := Lib.hid hob
    clear hob
    have hB3 := bl_then hBA hbr
    by_cases hlt : j < m1
    · have hd3 := hds.out.later hB3
      have hlm := hd3.dp.pend.lenw
      obtain ⟨b, off, rfl⟩ := row_addr hd3.dp.pend (by intro e; have := wc_len R1; rw [e] at this; simp at this; omega)
      obtain ⟨r, hr⟩ : ∃ r, R1[j]? = some r := ⟨_, List.getElem?_eq_getElem (by omega)⟩
      obtain ⟨hw1, hw2⟩ := hd3.dp.pend.wcell j r hr
      obtain ⟨k, hrk, hkn, hrn, hrow⟩ := hd3.at (List.mem_of_getElem? hr)
      rw [hrk] at hw1
      rw [hrn] at hw2
      have HR := Lib.hid hr
      have HRK := Lib.hid hrk
      have HROW := Lib.hid hrow
      obtain ⟨g, hbo1, hown1⟩ : ∃ g, bo = some ⟨g, 0, none⟩ ∧ wr.ownsRow wA.heap.size 5 1 (.slice (some ⟨g, 0, none⟩) n1 cb) n1 (b8 (crs base1 ((R1.take j).map Rep.plain) plan)) := by
        rcases HOB.out with ⟨_, h0, _⟩ | h
        · omega
        · exact h
      subst hbo1
      have HOW := Lib.hid hown1
      have htl : ((R1.take j).map Rep.plain).length = j := by rw [List.length_map, List.length_take]; omega
      have e1 : (R1.take (j + 1)).map Rep.plain = (R1.take j).map Rep.plain ++ [r.plain] := by rw [List.take_add_one, HR.out]; simp
      have E1 := Lib.hid e1
      have HTL := Lib.hid htl
      have hrc := hrow.le
      clear hr hrk hrow hd3 hrn hlm hown1 e1 htl
      have hjn : (j : Int) < (m1 : Int) := by omega
      have hcb := HOB.out.row (b8_one _) |>.le
      by_cases hjq : j < qn
      · have hjq' : (j : Int) < (qn : Int) := by omega
        obtain ⟨b2, off2, rfl⟩ := row_addr HQ.out (by intro e; have := b8_len plan; rw [e] at this; simp at this; have := HQL.out; omega)
        have hbW := bl_al hB3 (.cells #[.int .i64 (k : Int), .slice r.ao 32 r.c] 57)
        have hqc := (HQ.out.later hbW).cell8 j hjq
        obtain ⟨x, hx⟩ : ∃ x, plan.getD j 0 = x := ⟨_, rfl⟩
        have hxr := HP.out x (by rw [← hx, getD_lt plan 0 (by have := HQL.out; omega)]; exact List.getElem_mem _)
        have hx2 : plan[j]? = some x := by rw [← hx, getD_lt plan 0 (by have := HQL.out; omega)]; exact List.getElem?_eq_getElem _
        rw [hx] at hqc
        have HX := Lib.hid hx2
        clear hx hx2
        have HDT := Lib.hid (fun (t : Nat) (ht : t ≤ 32) (W : World) (hW : Below wr.heap.size wr W) => by have := (HROW.out.later hW).pre t ht; rwa [Nat.mul_one, show (b8 r.data).take t = (r.data.take t).map (Value.int .u8) by simp [b8]] at this)
        rcases Int.lt_or_le 32 x with hx32 | hx32
        · have hrc' : (32 : Int) ≤ (r.c : Int) := by omega
          obtain ⟨hx1, hx2, _⟩ := box2 (Below.refl (wr.alloc (.cells #[.int .i64 (k : Int), .slice r.ao 32 r.c] 57)).heap.size (wr.alloc (.cells #[.int .i64 (k : Int), .slice r.ao 32 r.c] 57))).drew
          have hgl := (HOW.out.lt g rfl)
          go_wp2
          refine wp_plan (fun x => x.cell? ⟨wr.heap.size, 0, none⟩ = some (.int .i64 (k : Int)) ∧ x.cell? ⟨wr.heap.size, 1, none⟩ = some (.slice r.ao 32 r.c)) [3, 8] [0, 1, 2, 4, 5, 6, 7, 3, 8] (by kernel_rfl) (by kernel_rfl) ⟨hx1, hx2⟩ (fun hHeld => ?_)
          iterate 7 (refine wpT_take rfl (by rfl) (by rfl) (by intro w' hSw; (try dsimp only at hSw); go_simp; (try with_reducible rfl)) (by assumption) ?_; (try simp only [Act.put, List.setIfInBounds_toArray, List.set_cons_zero, List.set_cons_succ]))
          (refine wpT_step rfl (by rfl) (fun K hK => ?_); go_simp)
          refine (sector_any g 0 n1 cb k _ hkn hcb (by omega)).mono ?_
          rintro e w4 ⟨rfl, hw4⟩
          subst hw4
          (refine hK.out _ _ _ (fun _ h => h) (hHeld) (fun hHeld => ?_); clear hK; clear K; (try simp only [Act.put, List.setIfInBounds_toArray, List.set_cons_zero, List.set_cons_succ]))
          (refine wpT_step rfl (by rfl) (fun K hK => ?_))
          refine step_copyN eltU8 wA _ (bl_al hbr _).drew rfl _ _ rfl g n1 cb _ (ownsRow_later HOW.out (below_alloc _ _).drew) (0 + k * 32) 32 32 rfl r.ao 32 r.c _ rfl (HDT.out 32 (Nat.le_refl _) _ (below_alloc _ _).drew) (by omega) (by omega) ?_
          intro w5 hown5 hb5 hfar5 hsz5
          replace hown5 := Lib.hid hown5
          replace hfar5 := Lib.hid hfar5
          (refine hK.out _ _ _ (fun _ h => h) (⟨(World.cell?_of_block (a := ⟨wr.heap.size, 0, none⟩) (hfar5.out _ (by show wr.heap.size ≠ g; omega))).trans hHeld.1, (World.cell?_of_block (a := ⟨wr.heap.size, 1, none⟩) (hfar5.out _ (by show wr.heap.size ≠ g; omega))).trans hHeld.2⟩) (fun hHeld => ?_); clear hK; clear K; (try simp only [Act.put, List.setIfInBounds_toArray, List.set_cons_zero, List.set_cons_succ]))
          (refine wpT_nil ?_)
          go_wp2
          go_roundw
          case rel =>
            refine ⟨j + 1, by omega, by go_num, .inr ⟨g, rfl, ?_⟩, hb5⟩
            have e2 : 32 * r.plain.1.toNat = 0 + k * 32 := by show 32 * r.at_.toNat = _; rw [HRK.out]; omega
            rw [E1.out, crs_in _ _ _ _ _ (by rw [HTL.out]; exact HX.out), e2, show r.plain.2 = r.data from rfl, show min x.toNat 32 = 32 by omega, b8, ← spl_map]
            exact hown5.out
          case measure => simp [intOf]; omega
        · obtain ⟨t, rfl⟩ := Int.eq_ofNat_of_zero_le hxr.1
          have ht32 : t ≤ 32 := by omega
          have hrc' : (t : Int) ≤ (r.c : Int) := by omega
          obtain ⟨hx1, hx2, _⟩ := box2 (Below.refl (wr.alloc (.cells #[.int .i64 (k : Int), .slice r.ao 32 r.c] 57)).heap.size (wr.alloc (.cells #[.int .i64 (k : Int), .slice r.ao 32 r.c] 57))).drew
          have hgl := (HOW.out.lt g rfl)
          go_wp2
          refine wp_plan (fun x => x.cell? ⟨wr.heap.size, 0, none⟩ = some (.int .i64 (k : Int)) ∧ x.cell? ⟨wr.heap.size, 1, none⟩ = some (.slice r.ao 32 r.c)) [3, 8] [0, 1, 2, 4, 5, 6, 7, 3, 8] (by kernel_rfl) (by kernel_rfl) ⟨hx1, hx2⟩ (fun hHeld => ?_)
          iterate 7 (refine wpT_take rfl (by rfl) (by rfl) (by intro w' hSw; (try dsimp only at hSw); go_simp; (try with_reducible rfl)) (by assumption) ?_; (try simp only [Act.put, List.setIfInBounds_toArray, List.set_cons_zero, List.set_cons_succ]))
          (refine wpT_step rfl (by rfl) (fun K hK => ?_); go_simp)
          refine (sector_any g 0 n1 cb k _ hkn hcb (by omega)).mono ?_
          rintro e w4 ⟨rfl, hw4⟩
          subst hw4
          (refine hK.out _ _ _ (fun _ h => h) (hHeld) (fun hHeld => ?_); clear hK; clear K; (try simp only [Act.put, List.setIfInBounds_toArray, List.set_cons_zero, List.set_cons_succ]))
          (refine wpT_step rfl (by rfl) (fun K hK => ?_))
          refine step_copyN eltU8 wA _ (bl_al hbr _).drew rfl _ _ rfl g n1 cb _ (ownsRow_later HOW.out (below_alloc _ _).drew) (0 + k * 32) 32 32 rfl r.ao t r.c _ rfl (HDT.out t ht32 _ (below_alloc _ _).drew) (by omega) (by omega) ?_
          intro w5 hown5 hb5 hfar5 hsz5
          replace hown5 := Lib.hid hown5
          replace hfar5 := Lib.hid hfar5
          (refine hK.out _ _ _ (fun _ h => h) (⟨(World.cell?_of_block (a := ⟨wr.heap.size, 0, none⟩) (hfar5.out _ (by show wr.heap.size ≠ g; omega))).trans hHeld.1, (World.cell?_of_block (a := ⟨wr.heap.size, 1, none⟩) (hfar5.out _ (by show wr.heap.size ≠ g; omega))).trans hHeld.2⟩) (fun hHeld => ?_); clear hK; clear K; (try simp only [Act.put, List.setIfInBounds_toArray, List.set_cons_zero, List.set_cons_succ]))
          (refine wpT_nil ?_)
          go_wp2
          go_roundw
          case rel =>
            refine ⟨j + 1, by omega, by go_num, .inr ⟨g, rfl, ?_⟩, hb5⟩
            have e2 : 32 * r.plain.1.toNat = 0 + k * 32 := by show 32 * r.at_.toNat = _; rw [HRK.out]; omega
            rw [E1.out, crs_in _ _ _ _ _ (by rw [HTL.out]; exact HX.out), e2, show r.plain.2 = r.data from rfl, show min ((t : Int)).toNat 32 = t by omega, b8, ← spl_map]
            exact hown5.out
          case measure => simp [intOf]; omega
      · have hjq' : ¬ (j : Int) < (qn : Int) := by omega
        go_wp2
        go_roundw
        case rel => exact ⟨j + 1, by omega, by go_num, by rw [E1.out, crs_out _ _ _ _ (by rw [HTL.out, ← HQL.out]; omega)]; exact HOB.out.later (below_alloc _ _), bl_al hbr _⟩
        case measure => simp [intOf]; omega
    · have hjm : j = m1 := by omega
      have hE := Lib.hid (show D = crs base1 ((R1.take j).map Rep.plain) plan by
        have hlm := hds.out.dp.pend.lenw
        rw [← HD.out, crashD, ← hown.out, List.take_of_length_le (by omega)])
      subst hjm
      have hlt2 : w.heap.size + 1 < wA.heap.size := by omega
      obtain ⟨hx1, hx2, hx3, hx4, hx5⟩ := HD1.out
      have hy1 := ((hbr.cell (p := ⟨w.heap.size + 1, 0, none⟩) hlt2).trans (hfz.out 0).1).trans hx1
      have hy2 := ((hbr.cell (p := ⟨w.heap.size + 1, 1, none⟩) hlt2).trans (hfz.out 1).1).trans hx2
      have hy3 := ((hbr.frozen (p := ⟨w.heap.size + 1, 0, none⟩) hlt2).trans (hfz.out 0).2).trans hx3
      have hy4 := ((hbr.frozen (p := ⟨w.heap.size + 1, 1, none⟩) hlt2).trans (hfz.out 1).2).trans hx4
      clear hx1 hx2 hx3 hx4
      go_wp2
      refine bodyPost_ret (v := .agg #[.slice bo n1 cb, .slice none 0 0]) (by simp [results, Try.results26, go_sem, hy1, hy2, hy3, hy4]) rfl ?_
      have hne : ∀ ad, bo = some ad → w.heap.size + 1 ≠ ad.block := by
        intro ad ha
        rcases HOB.out with ⟨h0, _⟩ | ⟨g, h1, h2⟩
        · rw [h0] at ha; cases ha
        · rw [h1] at ha
          cases ha
          have := (h2.lt g rfl).1
          show w.heap.size + 1 ≠ g
          omega
      rw [hE.out]
      exact ⟨_, _, _, rfl, ⟨((HOB.out.row (b8_one _)).far hne).far hne, row_mt _ _ _ _ (fun _ => rfl), fun _ h => by cases h⟩, by refine Below.setCell (Below.setCell hB3 ?_ _) ?_ _ <;> exact Nat.le_succ _⟩
end Go.Proofs.Ytoihponjnhhgbaa
