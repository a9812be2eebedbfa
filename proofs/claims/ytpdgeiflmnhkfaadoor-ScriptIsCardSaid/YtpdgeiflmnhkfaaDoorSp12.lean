/- florinlaw23: ScriptIs (made by gen_sp12.py). (hM) -/
import Derived.Test.YtpdgeiflmnhkfaaDoorSp11
namespace Go.Proofs.YtpdgeiflmnhkfaaDoor
set_option linter.unusedVariables false
set_option linter.unusedSimpArgs false
open Go.RowKit

theorem rput_got (ao : Option Addr) (n c : Nat) (L : List Stp) (w : World) (h : Sts w ao n c L) (hn : n ≤ 1000000) :
    Calls Tryd.prog 96 #[.slice ao n c] w fun e w' => ∃ (bo : Option Addr) (m cap : Nat), e = .returned (.slice bo m cap) ∧ Row w' bo m cap 1 ((putP (L.map psOf)).map (Value.int .u8)) ∧ Below w.heap.size w w' := by
  refine (rput_any ao n c L w h hn).mono ?_
  rintro e w' ⟨bo, cap, rfl, hown, hb⟩
  exact ⟨bo, _, cap, rfl, getput_row (hown.base (Nat.zero_le _)), hb⟩
theorem rget_got (ao : Option Addr) (n c : Nat) (zs : List Int) (w : World) (h : Row w ao n c 1 (zs.map (Value.int .u8))) (hz : bytesP zs) (hn : n ≤ 1000000000) :
    Calls Tryd.prog 100 #[.slice ao n c] w fun e w' => ∃ (lo : Option Addr) (m cap : Nat) (L : List Stp), e = .returned (.slice lo m cap) ∧ Sts w' lo m cap L ∧ L.map psOf = getP 400 zs ∧ Below w.heap.size w w' := by
  refine (rget_any ao n c zs w h hz hn).mono ?_
  rintro e w' ⟨lo, cap, L, rfl, hS, hP, hb⟩
  exact ⟨lo, _, cap, L, rfl, hS, hP, hb⟩
theorem names_both (k : Int) : ∃ nm : ByteArray, (∀ x : World, TabN x → Calls Tryd.prog 101 #[.int .i64 k] x fun e w' => e = .returned (.string nm) ∧ x = w') ∧
    (∀ x : World, Calls Tryd.prog 102 #[.int .i64 k] x fun e w' => e = .returned (.string nm) ∧ Below x.heap.size x w') := by
  by_cases hk : 0 ≤ k ∧ k ≤ 9
  · obtain ⟨j, rfl⟩ := Int.eq_ofNat_of_zero_le hk.1
    exact ⟨nmS j, fun x h => name_any j (by omega) x h, fun x => rname_any j (by omega) x⟩
  · exact ⟨⟨#[]⟩, fun x _ => name_none k hk x, fun x => rname_none k hk x⟩

set_option maxRecDepth 100000 in
set_option maxHeartbeats 4000000 in
theorem is_early (ao : Option Addr) (n c : Nat) (bo : Option Addr) (m d : Nat) (k : Int) (w : World) (hT : TabN w) (h : 60 < n ∨ 3000 < m) :
    Calls Tryd.prog 14 #[.slice ao n c, .slice bo m d, .int .i64 k] w fun e w' => e = .returned (.bool true) ∧ Below w.heap.size w w' := by
  have HA := Lib.hid (fun (x : World) (hb : Below w.heap.size w x) => awake23_any x (hT.later hb))
  have hB := Below.refl w.heap.size w
  clear hT
  by_cases hn : 60 < n
  · have hbi : 60 < (n : Int) := by omega
    clear h hn
    go_enter Tryd.func14, Tryd.ntmps14
    go_wp2_with (go_at_call 91; (with_reducible refine (HA.out _ hB).mono ?_); rintro e w1 ⟨rfl, hb⟩; have hB1 := bl_then hB hb; clear hB hb)
    go_ret
    exact ⟨rfl, hB1⟩
  · have hbi : ¬ 60 < (n : Int) := by omega
    have hbm : 3000 < (m : Int) := by omega
    clear h hn
    go_enter Tryd.func14, Tryd.ntmps14
    go_wp2_with (go_at_call 91; (with_reducible refine (HA.out _ hB).mono ?_); rintro e w1 ⟨rfl, hb⟩; have hB1 := bl_then hB hb; clear hB hb)
    go_ret
    exact ⟨rfl, hB1⟩

set_option maxRecDepth 100000 in
set_option maxHeartbeats 4000000 in
theorem is_walk (ao : Option Addr) (n c : Nat) (L : List Stp) (bo : Option Addr) (m d : Nat) (zs : List Int) (k : Int) (w : World) (hT : TabN w) (hl : Sts w ao n c L) (hr : Row w bo m d 1 (zs.map (Value.int .u8))) (hz : bytesP zs) (hn : n ≤ 60) (hm : m ≤ 3000) :
    Calls Tryd.prog 14 #[.slice ao n c, .slice bo m d, .int .i64 k] w fun e w' => e = .returned (.bool true) ∧ Below w.heap.size w w' := by
  have HA := Lib.hid (fun (x : World) (hb : Below w.heap.size w x) => awake23_any x (hT.later hb))
  have hB := Below.refl w.heap.size w
  have hbi : ¬ 60 < (n : Int) := by omega
  have hbm : ¬ 3000 < (m : Int) := by omega
  have HL := Lib.hid hl
  have HNb := Lib.hid (And.intro hn hm)
  obtain ⟨nm, hnm1, hnm2⟩ := names_both k
  have HNm := Lib.hid (fun (x : World) (hb : Below w.heap.size w x) => hnm1 x (hT.later hb))
  have HRn := Lib.hid hnm2
  have HG := Lib.hid (fun (x : World) (hb : Below w.heap.size w x) => get_got bo m d zs x (hr.later hb) hz (by omega))
  have HRg := Lib.hid (fun (x : World) (hb : Below w.heap.size w x) => rget_got bo m d zs x (hr.later hb) hz (by omega))
  clear hT hl hn hm hnm1 hnm2 hr hz
  go_enter Tryd.func14, Tryd.ntmps14
  go_wp2_with (go_at_call 91; (with_reducible refine (HA.out _ hB).mono ?_); rintro e w1 ⟨rfl, hb⟩; have hB1 := bl_then hB hb; clear hB hb)
  have HB1 := Lib.hid hB1
  clear hB1
  go_loopw [8] (fun i wr => SameRel w n i wr) (fun i _ => n - (intOf i).toNat)
  case atStart => exact ⟨0, Nat.zero_le _, rfl, HB1.out⟩
  case round =>
    obtain ⟨j, hj, rfl, hbr⟩ := hrel
    by_cases hlt : j < n
    · obtain ⟨s, hs⟩ : ∃ s, L[j]? = some s := ⟨_, List.getElem?_eq_getElem (by have := HL.out.len; omega)⟩
      obtain ⟨b, off, rfl⟩ := HL.out.addr (by omega)
      have hc := (HL.out.later hbr).cells hs
      have hjn : (j : Int) < (n : Int) := by omega
      obtain ⟨j1, hj1⟩ : ∃ j1, j + 1 = j1 := ⟨_, rfl⟩
      have k3 : IntKind.i64.wrap ((j : Int) + 1) = (j1 : Int) := by rw [IntKind.wrap_i64]; have := HNb.out; omega
      by_cases hbd : 70000 < s.m
      · have hbd2 : 70000 < (s.m : Int) := by omega
        clear hs
        go_wp2
        go_ret
        exact ⟨rfl, hbr⟩
      · have hbd2 : ¬ 70000 < (s.m : Int) := by omega
        have hle := HL.out.row.le
        have i1 : (j1 : Int) ≤ (c : Int) := by omega
        have i2 : (j : Int) ≤ (j1 : Int) := by omega
        have i3 : j1 - j = 1 := by omega
        have i4 : ¬ c = j := by omega
        have i6 : 0 ≤ (j1 : Int) := by omega
        have HJ1 := Lib.hid hj1
        have HSt := Lib.hid (fun (x : World) (hb : Below w.heap.size w x) => steps_one x b off n c L (HL.out.later hb) hs)
        have hso := HL.out.ok s (List.mem_of_getElem? hs)
        have hft := fun (x : World) (hb : Below w.heap.size w x) => fits_any s x (hso.later hb)
        have hrf := fun (x : World) (hb : Below w.heap.size w x) => rfits_any s x (hso.later hb)
        obtain ⟨f, hf⟩ : ∃ f, fitsP (psOf s) = f := ⟨_, rfl⟩
        simp only [hf] at hft hrf
        have HFt := Lib.hid hft
        have HRf := Lib.hid hrf
        have hBq : Below w.heap.size w wr.drew := hbr.drew
        clear hs hso hft hrf hf hbd hj1
        go_wp2
        refine wp_plan (fun x => x.cell? ⟨b, off + j * 4, none⟩ = some (.int .i64 s.k) ∧ x.cell? ⟨b, off + j * 4 + 1, none⟩ = some (.int .i64 s.p) ∧ x.cell? ⟨b, off + j * 4 + 2, none⟩ = some (.int .i64 s.n) ∧ x.cell? ⟨b, off + j * 4 + 3, none⟩ = some (.slice s.ao s.m s.c)) [5, 8, 13] [0, 1, 2, 3, 4, 9, 10, 11, 12, 5, 6, 7, 8, 13, 14] (by kernel_rfl) (by kernel_rfl) (hc) (fun hHeld => ?_)
        iterate 9 (refine wpT_take rfl (by rfl) (by rfl) (by intro w' hSw; (try dsimp only [Mem, cellsAt] at hSw); go_simp; (try with_reducible rfl)) (by assumption) ?_; (try simp only [Act.put, List.setIfInBounds_toArray, List.set_cons_zero, List.set_cons_succ]))
        (refine wpT_step rfl (by rfl) (fun K hK => ?_); go_simp)
        ((with_reducible refine (HSt.out _ hBq).mono ?_); rintro e v2 ⟨g, o, cp2, rfl, hS2, hb⟩; have hc2 := hS2.cells (i := 0) rfl; (simp only [Nat.zero_mul, Nat.add_zero] at hc2); have hBq2 := bl_then hBq hb; have hcb := cells4_later hHeld hb; clear hS2 hb; (refine hK.out _ _ (fun w' => _ ∧ ((fun x => x.cell? ⟨g, o, none⟩ = some (.int .i64 s.k) ∧ x.cell? ⟨g, o + 1, none⟩ = some (.int .i64 s.p) ∧ x.cell? ⟨g, o + 2, none⟩ = some (.int .i64 s.n) ∧ x.cell? ⟨g, o + 3, none⟩ = some (.slice s.ao s.m s.c))) w') (fun _ h => h.1) ⟨hcb, hc2⟩ (fun hHeld => ?_); clear hK; clear K; (try simp only [Act.put, List.setIfInBounds_toArray, List.set_cons_zero, List.set_cons_succ])); clear hcb hc2)
        iterate 2 (refine wpT_take rfl (by rfl) (by rfl) (by intro w' hSw; (try dsimp only [Mem, cellsAt] at hSw); go_simp; (try with_reducible rfl)) (by assumption) ?_; (try simp only [Act.put, List.setIfInBounds_toArray, List.set_cons_zero, List.set_cons_succ]))
        (refine wpT_step rfl (by rfl) (fun K hK => ?_); go_simp)
        ((with_reducible refine (HFt.out _ hBq2).mono ?_); rintro e v3 ⟨rfl, hb⟩; have hBq3 := bl_then hBq2 hb; have hcb := cells4_later hHeld.1 hb; have hc2 := cells4_later hHeld.2 hb; clear hb; (refine hK.out _ _ _ (fun _ h => h) (⟨hcb, hc2⟩) (fun hHeld => ?_); clear hK; clear K; (try simp only [Act.put, List.setIfInBounds_toArray, List.set_cons_zero, List.set_cons_succ])); clear hcb hc2)
        (refine wpT_step rfl (by rfl) (fun K hK => ?_); go_simp)
        ((with_reducible refine (HRf.out _ hBq3).mono ?_); rintro e v4 ⟨rfl, hb⟩; have hBq4 := bl_then hBq3 hb; have hcb := cells4_later hHeld.1 hb; have hc2 := cells4_later hHeld.2 hb; clear hb; (refine hK.out _ _ _ (fun _ h => h) (⟨hcb, hc2⟩) (fun hHeld => ?_); clear hK; clear K; (try simp only [Act.put, List.setIfInBounds_toArray, List.set_cons_zero, List.set_cons_succ])); clear hcb hc2)
        iterate 1 (refine wpT_take rfl (by rfl) (by rfl) (by intro w' hSw; (try dsimp only [Mem, cellsAt] at hSw); go_simp; (try with_reducible rfl)) (by assumption) ?_; (try simp only [Act.put, List.setIfInBounds_toArray, List.set_cons_zero, List.set_cons_succ]))
        (refine wpT_nil ?_)
        go_wp2
        have hj1 := HJ1.out
        subst hj1
        exact ⟨⟨j + 1, by omega, by first | rfl | go_num, hBq4⟩, by simp [intOf]; omega⟩
    · obtain rfl : j = n := by omega
      have hjj : ¬ (j : Int) < (j : Int) := by omega
      have HSts := Lib.hid (fun (x : World) (hb : Below w.heap.size w x) => steps_any ao j c L x (HL.out.later hb) (by have := HNb.out; omega))
      have HRp := Lib.hid (fun (x : World) (hb : Below w.heap.size w x) => rput_got ao j c L x (HL.out.later hb) (by have := HNb.out; omega))
      obtain ⟨ZL, hZL⟩ : ∃ ZL, (putP (L.map psOf)).map (Value.int .u8) = ZL := ⟨_, rfl⟩
      obtain ⟨zt, hzt⟩ : ∃ zt, strOfNums (putP (L.map psOf)) = zt := ⟨_, rfl⟩
      have hv0 := fun (ro : Option Addr) (rn rc : Nat) (x : World) (h : Row x ro rn rc 1 ZL) => row_string (P := Tryd.prog) (T := 22) (S := 9) (zs := putP (L.map psOf)) x Tryd.underlying22 Tryd.underlying5 Tryd.underlying9 (ao := ro) (n := rn) (c := rc) (by rw [hZL]; exact h)
      rw [hzt] at hv0
      have HV0 := Lib.hid hv0
      have HZL := Lib.hid hZL
      have hBq : Below w.heap.size w wr.drew := hbr.drew
      clear hv0 hZL hzt hlt hj
      go_wp2
      refine wp_plan (fun x => True) [3, 4, 7, 13, 14, 16, 17, 21, 23] [0, 1, 2, 6, 3, 4, 5, 7, 8, 9, 10, 11, 12, 15, 13, 14, 16, 17, 18, 19, 20, 22, 21, 23, 24, 25, 26] (by kernel_rfl) (by kernel_rfl) (trivial) (fun hHeld => ?_)
      iterate 4 (refine wpT_take rfl (by rfl) (by rfl) (by intro w' hSw; (try dsimp only [Mem, cellsAt] at hSw); go_simp; (try with_reducible rfl)) (by assumption) ?_; (try simp only [Act.put, List.setIfInBounds_toArray, List.set_cons_zero, List.set_cons_succ]))
      (refine wpT_step rfl (by rfl) (fun K hK => ?_); go_simp)
      ((with_reducible refine (HSts.out _ hBq).mono ?_); rintro e v1 ⟨lo, cq1, rfl, hS, _, hb⟩; have HPt := Lib.hid (put_got lo _ cq1 L v1 hS (by have := HNb.out; omega)); have hBq1 := bl_then hBq hb; clear hS hb; (refine hK.out _ _ _ (fun _ h => h) (trivial) (fun hHeld => ?_); clear hK; clear K; (try simp only [Act.put, List.setIfInBounds_toArray, List.set_cons_zero, List.set_cons_succ])))
      (refine wpT_step rfl (by rfl) (fun K hK => ?_); go_simp)
      ((with_reducible refine (HPt.out).mono ?_); rintro e v2 ⟨bo2, m2, cp2, rfl, hr2, _, hb⟩; have hBq2 := bl_then hBq1 hb; rw [HZL.out] at hr2; have HR2 := Lib.hid (fun (x : World) (hb : Below v2.heap.size v2 x) => hr2.later hb); have hv2 := HV0.out bo2 m2 cp2; clear hr2 hb HPt; (refine hK.out _ _ (fun w' => _ ∧ ((fun x => Row x bo2 m2 cp2 1 ZL)) w') (fun _ h => h.1) ⟨trivial, HR2.out _ (Below.refl _ _)⟩ (fun hHeld => ?_); clear hK; clear K; (try simp only [Act.put, List.setIfInBounds_toArray, List.set_cons_zero, List.set_cons_succ])))
      iterate 1 (refine wpT_take rfl (by rfl) (by rfl) (by intro w' hSw; (try dsimp only [Mem, cellsAt] at hSw); go_simp; (try with_reducible rfl)) (by assumption) ?_; (try simp only [Act.put, List.setIfInBounds_toArray, List.set_cons_zero, List.set_cons_succ]))
      (refine wpT_step rfl (by rfl) (fun K hK => ?_); go_simp)
      ((with_reducible refine (HRp.out _ hBq2).mono ?_); rintro e v3 ⟨bo3, m3, cp3, rfl, hr3, hb⟩; have HD3 := Lib.hid hb; have hBq3 := bl_then hBq2 hb; rw [HZL.out] at hr3; have HR3 := Lib.hid (fun (x : World) (hb : Below v3.heap.size v3 x) => hr3.later hb); have hv3 := HV0.out bo3 m3 cp3; clear hr3 hb; (refine hK.out _ _ (fun w' => _ ∧ ((fun x => Row x bo3 m3 cp3 1 ZL)) w') (fun _ h => h.1) ⟨⟨trivial, HR2.out _ HD3.out⟩, HR3.out _ (Below.refl _ _)⟩ (fun hHeld => ?_); clear hK; clear K; (try simp only [Act.put, List.setIfInBounds_toArray, List.set_cons_zero, List.set_cons_succ])))
      iterate 6 (refine wpT_take rfl (by rfl) (by rfl) (by intro w' hSw; (try dsimp only [Mem, cellsAt] at hSw); go_simp; (try with_reducible rfl)) (by assumption) ?_; (try simp only [Act.put, List.setIfInBounds_toArray, List.set_cons_zero, List.set_cons_succ]))
      (refine wpT_step rfl (by rfl) (fun K hK => ?_); go_simp)
      ((with_reducible refine (HG.out _ hBq3).mono ?_); rintro e v4 ⟨lo4, m4, cp4, L4, rfl, hS4, hP4, hm4, hb⟩; have HD4 := Lib.hid hb; have hBq4 := bl_then hBq3 hb; have HR4 := Lib.hid (rows_got lo4 m4 cp4 L4 v4 hS4 (by omega)); have HP4 := Lib.hid hP4; have HM4 := Lib.hid hm4; clear hS4 hP4 hm4 hb; (refine hK.out _ _ _ (fun _ h => h) (⟨⟨trivial, HR2.out _ (bl_then HD3.out HD4.out)⟩, HR3.out _ HD4.out⟩) (fun hHeld => ?_); clear hK; clear K; (try simp only [Act.put, List.setIfInBounds_toArray, List.set_cons_zero, List.set_cons_succ])))
      (refine wpT_step rfl (by rfl) (fun K hK => ?_); go_simp)
      ((with_reducible refine (HR4.out).mono ?_); rintro e v5 ⟨lo5, cp5, rfl, hS5, hb⟩; have HD5 := Lib.hid (bl_then HD4.out hb); have hBq5 := bl_then hBq4 hb; have HS5 := Lib.hid hS5; clear hS5 hb; (refine hK.out _ _ _ (fun _ h => h) (⟨⟨trivial, HR2.out _ (bl_then HD3.out HD5.out)⟩, HR3.out _ HD5.out⟩) (fun hHeld => ?_); clear hK; clear K; (try simp only [Act.put, List.setIfInBounds_toArray, List.set_cons_zero, List.set_cons_succ])))
      (refine wpT_step rfl (by rfl) (fun K hK => ?_); go_simp)
      ((with_reducible refine (HRg.out _ hBq5).mono ?_); rintro e v6 ⟨lo6, m6, cp6, L6, rfl, hS6, hP6, hb⟩; have HD6 := Lib.hid (bl_then HD5.out hb); have hBq6 := bl_then hBq5 hb; have HSame := Lib.hid (same23_any lo5 m4 cp5 L4 lo6 m6 cp6 L6 v6 (HS5.out.later hb) hS6 (HP4.out.trans hP6.symm) (by have := HM4.out; omega)); clear hS6 hP6 hb; (refine hK.out _ _ _ (fun _ h => h) (⟨⟨trivial, HR2.out _ (bl_then HD3.out HD6.out)⟩, HR3.out _ HD6.out⟩) (fun hHeld => ?_); clear hK; clear K; (try simp only [Act.put, List.setIfInBounds_toArray, List.set_cons_zero, List.set_cons_succ])))
      (refine wpT_step rfl (by rfl) (fun K hK => ?_); go_simp)
      ((with_reducible refine (HSame.out).mono ?_); rintro e v7 ⟨rfl, hb⟩; have HD7 := Lib.hid (bl_then HD6.out hb); have hBq7 := bl_then hBq6 hb; clear hb; (refine hK.out _ _ _ (fun _ h => h) (⟨⟨trivial, HR2.out _ (bl_then HD3.out HD7.out)⟩, HR3.out _ HD7.out⟩) (fun hHeld => ?_); clear hK; clear K; (try simp only [Act.put, List.setIfInBounds_toArray, List.set_cons_zero, List.set_cons_succ])))
      iterate 4 (refine wpT_take rfl (by rfl) (by rfl) (by intro w' hSw; (try dsimp only [Mem, cellsAt] at hSw); go_simp; (try with_reducible rfl)) (by assumption) ?_; (try simp only [Act.put, List.setIfInBounds_toArray, List.set_cons_zero, List.set_cons_succ]))
      (refine wpT_step rfl (by rfl) (fun K hK => ?_); go_simp)
      ((with_reducible refine (HNm.out _ hBq7).mono ?_); rintro e v8 ⟨rfl, rfl⟩; (refine hK.out _ _ _ (fun _ h => h) (⟨⟨trivial, HR2.out _ (bl_then HD3.out HD7.out)⟩, HR3.out _ HD7.out⟩) (fun hHeld => ?_); clear hK; clear K; (try simp only [Act.put, List.setIfInBounds_toArray, List.set_cons_zero, List.set_cons_succ])))
      (refine wpT_step rfl (by rfl) (fun K hK => ?_); go_simp)
      ((with_reducible refine (HRn.out _).mono ?_); rintro e v9 ⟨rfl, hb⟩; have HD9 := Lib.hid (bl_then HD7.out hb); have hBq9 := bl_then hBq7 hb; clear hb; (refine hK.out _ _ _ (fun _ h => h) (⟨⟨trivial, HR2.out _ (bl_then HD3.out HD9.out)⟩, HR3.out _ HD9.out⟩) (fun hHeld => ?_); clear hK; clear K; (try simp only [Act.put, List.setIfInBounds_toArray, List.set_cons_zero, List.set_cons_succ])))
      iterate 3 (refine wpT_take rfl (by rfl) (by rfl) (by intro w' hSw; (try dsimp only [Mem, cellsAt] at hSw); go_simp; (try with_reducible rfl)) (by assumption) ?_; (try simp only [Act.put, List.setIfInBounds_toArray, List.set_cons_zero, List.set_cons_succ]))
      (refine wpT_nil ?_)
      go_wp2
      go_ret
      exact ⟨rfl, hBq9⟩
end Go.Proofs.YtpdgeiflmnhkfaaDoor
