/- florinlaw23: ScriptRows (made by gen_sp9.py). (hM) -/
import Derived.Test.YtpdgeiflmnhkfaaDoorSp8
namespace Go.Proofs.YtpdgeiflmnhkfaaDoor
set_option linter.unusedVariables false
set_option linter.unusedSimpArgs false
open Go.RowKit

section
variable {P : Program} {T E : TypeId} {z : Value} {sz wd : Nat}
theorem run_appA (he : Elt P T E z sz wd) (w : World) (ty : TypeId) (B : Nat) (hB : B ≤ w.heap.size) (ao : Option Addr) (n c : Nat) (xs : List Value) (hr : OwnN B E sz w ao n c xs)
    (ax : Option Addr) (m cx : Nat) (ys : List Value) (hy : Row w ax m cx sz ys) (hb : (n + m) * wd ≤ 140737488355328) :
    ∃ go cap w' row, (Builtin.append_ #[T, T] ty #[.slice ao n c, .slice ax m cx]).run P w = .ok (.slice go (n + m) cap) w' ∧
      OwnN B E sz w' go (n + m) cap (xs ++ ys) ∧ w.grownBy w' row ∧ (∀ k, row = some k → ao = some ⟨k, 0, none⟩) := by
  by_cases h0 : ao = none ∧ m = 0
  · obtain ⟨rfl, rfl⟩ := h0
    have hys : ys = [] := List.eq_nil_of_length_eq_zero (by simpa using hy.len)
    subst hys
    rcases hr with ⟨_, rfl, rfl, rfl⟩ | ⟨g, h, _⟩
    · obtain ⟨i, hi, hz0, hz1, hz2⟩ := info_parts he.hi
      have hst : ∀ a : Addr, (storeCells a []).run P w = .ok () w := fun _ => rfl
      refine ⟨none, 0, w, none, ?_, .inl ⟨rfl, rfl, rfl, rfl⟩, ⟨rfl, rfl, rfl, Nat.le_refl _, fun _ _ _ => rfl⟩, fun k h => by cases h⟩
      cases ax <;> simp [Builtin.append_, run_underlying he.ht, sizeOf, typeInfo, hi, Builtin.lenOf, Builtin.firstCells, loadCells, loadCellsFrom, hst]
    · cases h
  · obtain ⟨g, cap, w', row, h1, h2, h3, h4⟩ := run_appN he w ty B hB ao n c xs hr ax m cx ys hy (fun e => by have : ¬ m = 0 := fun e2 => h0 ⟨e, e2⟩; omega) hb
    exact ⟨_, cap, w', row, h1, .inr ⟨g, rfl, h2⟩, h3, h4⟩
theorem wpList_appA (he : Elt P T E z sz wd) (w0 w : World) (hb0 : Below w0.heap.size w0 w) {ops : Array Oper} {rest : List Oper} {o : Oper} {a : Act} {Q : Exit → Act → World → Prop} (hgd : o.guard = none) (s x : Operand)
    (ho : o.op = .call { callee := .builtin .append, args := #[s, x], argTypes := #[T, T] })
    (ao : Option Addr) (n c : Nat) (xs : List Value) (hs : a.eval s = .slice ao n c) (hr : OwnN w0.heap.size E sz w ao n c xs)
    (ax : Option Addr) (m cx : Nat) (ys : List Value) (hx : a.eval x = .slice ax m cx) (hy : Row w ax m cx sz ys) (hb : (n + m) * wd ≤ 140737488355328)
    (h : ∀ go cap w', OwnN w0.heap.size E sz w' go (n + m) cap (xs ++ ys) → Below w0.heap.size w0 w' →
      wpList P ops Q rest (a.put o.dst (.slice go (n + m) cap)) w') : wpList P ops Q (o :: rest) a w := by
  refine wpList_plain hgd fun K hK => ?_
  obtain ⟨go, cap, w', row, hrun, h1, h2, h3⟩ := run_appA he w o.type w0.heap.size hb0.size ao n c xs hr ax m cx ys hy hb
  unfold Oper.wp
  simp [execOp, ho, resolve, invoke, builtin, hs, hx, hrun, Result.andThen]
  exact hK _ _ (h go cap w' h1 (below_grown hb0 h2 (fun k hk => (own_row_lt hr h3 k hk).1)))
end
theorem get_own (ao : Option Addr) (n c : Nat) (zs : List Int) (w : World) (h : Row w ao n c 1 (zs.map (Value.int .u8))) (hz : bytesP zs) (hn : n ≤ 1000000000000) :
    Calls Tryd.prog 99 #[.slice ao n c] w fun e w' => ∃ (lo : Option Addr) (m cap : Nat) (L : List Stp), e = .returned (.slice lo m cap) ∧ Sts w' lo m cap L ∧ L.map psOf = getP 400 zs ∧ m ≤ 400 ∧ (∀ s ∈ L, ∀ w0, Row w0 ao n c 1 (zs.map (Value.int .u8)) → StOk w0 s) ∧ OwnN w.heap.size 106 4 w' lo m cap (stsL L) ∧ Below w.heap.size w w' := by
  refine (get_any ao n c zs w h hz hn).mono ?_
  rintro e w' ⟨lo, cap, L, rfl, hS, hP, hk, ho, hb⟩
  have hl : L.length = (getP 400 zs).length := by rw [← hP, List.length_map]
  exact ⟨lo, _, cap, L, rfl, hS, hP, by rw [hl]; exact getP_len _ _, hk, ho, hb⟩
theorem Sts.app {w : World} {ao : Option Addr} {n c : Nat} {A B : List Stp} (h : Row w ao n c 4 (stsL A ++ stsL B)) (hA : ∀ s ∈ A, StOk w s) (hB : ∀ s ∈ B, StOk w s) : Sts w ao n c (A ++ B) :=
  ⟨by rw [stsL_app]; exact h, fun s hs => by rcases List.mem_append.1 hs with h | h; exact hA s h; exact hB s h⟩

set_option maxRecDepth 100000 in
set_option maxHeartbeats 4000000 in
theorem rows_early (ao : Option Addr) (n c : Nat) (bo : Option Addr) (m d : Nat) (w : World) (hT : TabN w) (h : 60 < n ∨ 60 < m) :
    Calls Tryd.prog 17 #[.slice ao n c, .slice bo m d] w fun e w' => e = .returned (.bool true) ∧ Below w.heap.size w w' := by
  have HA := Lib.hid (fun (x : World) (hb : Below w.heap.size w x) => awake23_any x (hT.later hb))
  have hB := Below.refl w.heap.size w
  clear hT
  by_cases hn : 60 < n
  · have hbi : 60 < (n : Int) := by omega
    clear h hn
    go_enter Tryd.func17, Tryd.ntmps17
    go_wp2_with (go_at_call 91; (with_reducible refine (HA.out _ hB).mono ?_); rintro e w1 ⟨rfl, hb⟩; have hB1 := bl_then hB hb; clear hB hb)
    go_ret
    exact ⟨rfl, hB1⟩
  · have hbi : ¬ 60 < (n : Int) := by omega
    have hbm : 60 < (m : Int) := by omega
    clear h hn
    go_enter Tryd.func17, Tryd.ntmps17
    go_wp2_with (go_at_call 91; (with_reducible refine (HA.out _ hB).mono ?_); rintro e w1 ⟨rfl, hb⟩; have hB1 := bl_then hB hb; clear hB hb)
    go_ret
    exact ⟨rfl, hB1⟩

set_option maxRecDepth 100000 in
set_option maxHeartbeats 4000000 in
theorem rows_walk (ao : Option Addr) (n c : Nat) (L : List Stp) (bo : Option Addr) (m d : Nat) (M : List Stp) (w : World) (hT : TabN w) (hl : Sts w ao n c L) (hm : Sts w bo m d M) (hn : n ≤ 60) (hm6 : m ≤ 60) :
    Calls Tryd.prog 17 #[.slice ao n c, .slice bo m d] w fun e w' => e = .returned (.bool true) ∧ Below w.heap.size w w' := by
  have HA := Lib.hid (fun (x : World) (hb : Below w.heap.size w x) => awake23_any x (hT.later hb))
  have hB := Below.refl w.heap.size w
  have hbi : ¬ 60 < (n : Int) := by omega
  have hbm : ¬ 60 < (m : Int) := by omega
  have HL := Lib.hid hl
  have HM := Lib.hid hm
  have HNb := Lib.hid (And.intro hn hm6)
  clear hT hl hm hn hm6
  go_enter Tryd.func17, Tryd.ntmps17
  go_wp2_with (go_at_call 91; (with_reducible refine (HA.out _ hB).mono ?_); rintro e w1 ⟨rfl, hb⟩; have hB1 := bl_then hB hb; clear hB hb)
  have HB1 := Lib.hid hB1
  clear hB1
  go_loopw [6] (fun i wr => SameRel w n i wr) (fun i _ => n - (intOf i).toNat)
  case atStart => exact ⟨0, Nat.zero_le _, rfl, HB1.out⟩
  case round =>
    obtain ⟨j, hj, rfl, hbr⟩ := hrel
    by_cases hlt : j < n
    · obtain ⟨s, hs⟩ : ∃ s, L[j]? = some s := ⟨_, List.getElem?_eq_getElem (by have := HL.out.len; omega)⟩
      obtain ⟨b, off, rfl⟩ := HL.out.addr (by omega)
      have hc := (HL.out.later hbr).cells hs
      have hjn : (j : Int) < (n : Int) := by omega
      have k3 : IntKind.i64.wrap ((j : Int) + 1) = ((j + 1 : Nat) : Int) := by rw [IntKind.wrap_i64]; have := HNb.out; omega
      clear hs
      by_cases hbd : 3000 < s.m
      · have hbd2 : 3000 < (s.m : Int) := by omega
        go_wp2
        go_ret
        exact ⟨rfl, hbr⟩
      · have hbd2 : ¬ 3000 < (s.m : Int) := by omega
        go_wp2
        exact ⟨⟨j + 1, by omega, by first | rfl | go_num, hbr⟩, by simp [intOf]; omega⟩
    · obtain rfl : j = n := by omega
      have hjj : ¬ (j : Int) < (j : Int) := by omega
      have HB2 := Lib.hid hbr
      clear hbr
      go_wp2
      go_loopw [7] (fun i wr => SameRel w m i wr) (fun i _ => m - (intOf i).toNat)
      case atStart => exact ⟨0, Nat.zero_le _, rfl, HB2.out⟩
      case round =>
        obtain ⟨q, hq, rfl, hbr⟩ := hrel
        by_cases hlt2 : q < m
        · obtain ⟨s, hs⟩ : ∃ s, M[q]? = some s := ⟨_, List.getElem?_eq_getElem (by have := HM.out.len; omega)⟩
          obtain ⟨b, off, rfl⟩ := HM.out.addr (by omega)
          have hc := (HM.out.later hbr).cells hs
          have hjn : (q : Int) < (m : Int) := by omega
          have k3 : IntKind.i64.wrap ((q : Int) + 1) = ((q + 1 : Nat) : Int) := by rw [IntKind.wrap_i64]; have := HNb.out; omega
          clear hs
          by_cases hbd : 3000 < s.m
          · have hbd2 : 3000 < (s.m : Int) := by omega
            go_wp2
            go_ret
            exact ⟨rfl, hbr⟩
          · have hbd2 : ¬ 3000 < (s.m : Int) := by omega
            go_wp2
            exact ⟨⟨q + 1, by omega, by first | rfl | go_num, hbr⟩, by simp [intOf]; omega⟩
        · obtain rfl : q = m := by omega
          have hqq : ¬ (q : Int) < (q : Int) := by omega
          have hpa := putP_bytes (psBytes HL.out)
          have hpb := putP_bytes (psBytes HM.out)
          have HPA := Lib.hid hpa
          have HPB := Lib.hid hpb
          have HS1 := Lib.hid (fun (x : World) (hb : Below w.heap.size w x) => steps_any ao j c L x (HL.out.later hb) (by have := HNb.out; omega))
          have HS2 := Lib.hid (fun (x : World) (hb : Below w.heap.size w x) => steps_any bo q d M x (HM.out.later hb) (by have := HNb.out; omega))
          clear hpa hpb hlt hlt2 hj hq
          go_wp2_with (first |
            (go_at_call 93; (with_reducible refine (HS1.out _ hbr).mono ?_); rintro e w2 ⟨lo1, cq1, rfl, hS, _, hb⟩; have HP1 := Lib.hid (put_got lo1 _ cq1 L w2 hS (by have := HNb.out; omega)); have hB2 := bl_then hbr hb; clear hS hb hbr HS1) |
            (go_at_call 95; (with_reducible refine (HP1.out).mono ?_); rintro e w3 ⟨ro1, ma, cr1, rfl, hr1, hma, hb⟩; have HRA := Lib.hid hr1; have HMa := Lib.hid hma; have hB3 := bl_then hB2 hb; clear hr1 hma hb hB2 HP1) |
            (go_at_call 93; (with_reducible refine (HS2.out _ hB3).mono ?_); rintro e w4 ⟨lo2, cq2, rfl, hS, _, hb⟩; have HP2 := Lib.hid (put_got lo2 _ cq2 M w4 hS (by have := HNb.out; omega)); have HRA4 := Lib.hid (HRA.out.later hb); have hB4 := bl_then hB3 hb; clear hS hb hB3 HS2 HRA) |
            (go_at_call 95; (with_reducible refine (HP2.out).mono ?_); rintro e w5 ⟨ro2, mb, cr2, rfl, hr2, hmb, hb⟩; have HRB := Lib.hid hr2; have HMb := Lib.hid hmb; have HRA5 := Lib.hid (HRA4.out.later hb); have hB5 := bl_then hB4 hb; have HB5 := Lib.hid hB5; clear hr2 hmb hb hB4 HP2 HRA4) |
            (refine wpList_appN eltStpR w5 _ (below_alloc w5 _) rfl (.tmp 57) (.tmp 58) rfl (some ⟨w5.heap.size, 0, none⟩) 0 0 [] rfl (ownN_lit0 _ _ _ _ (Nat.le_refl _)) ao j c (stsL L) rfl ((HL.out.later (bl_al HB5.out _)).row) (fun h => by cases h) (by have := HNb.out; omega) ?_; intro g6 cp6 w6 hown6 hb6; (simp only [Nat.zero_add, List.nil_append] at hown6); have HO6 := Lib.hid hown6; have HB6 := Lib.hid hb6; clear hown6 hb6 hB5) |
            (refine wpList_appN eltStpR w5 _ HB6.out rfl (.tmp 60) (.tmp 61) rfl (some ⟨g6, 0, none⟩) j cp6 (stsL L) rfl (.inr ⟨g6, rfl, HO6.out⟩) bo q d (stsL M) rfl ((HM.out.later (bl_then HB5.out HB6.out)).row) (fun h => by cases h) (by have := HNb.out; omega) ?_; intro g7 cp7 w7 hown7 hb7; have HO7 := Lib.hid (row_own hown7 (by intro u hu; rcases List.mem_append.1 hu with h | h; exact stsL_one _ u h; exact stsL_one _ u h)); have HB7 := Lib.hid hb7; clear hown7 hb7) |
            (go_at_call 99; (with_reducible refine (get_own ro1 ma cr1 (putP (L.map psOf)) w7 (HRA5.out.later HB7.out) HPA.out HMa.out).mono ?_); rintro e w8 ⟨xo, xm, xc, X, rfl, _, hPx, hxm, hkx, hox, hb⟩; have HSx := Lib.hid (fun s hs => hkx s hs w7 (HRA5.out.later HB7.out)); have HPx := Lib.hid hPx; have HXm := Lib.hid hxm; have HOx := Lib.hid hox; have HB8 := Lib.hid hb; clear hkx hPx hxm hox hb) |
            (go_at_call 99; (with_reducible refine (get_own ro2 mb cr2 (putP (M.map psOf)) w8 (HRB.out.later (bl_then HB7.out HB8.out)) HPB.out HMb.out).mono ?_); rintro e w9 ⟨yo, ym, yc, Y, rfl, hSy, hPy, hym, hky, _, hb⟩; have HKy := Lib.hid (fun s hs => hky s hs w7 (HRB.out.later HB7.out)); have HSy := Lib.hid hSy; have HPy := Lib.hid hPy; have HYm := Lib.hid hym; have HB9 := Lib.hid hb; clear hSy hPy hym hky hb) |
            (refine wpList_appA eltStp w7 _ (bl_then HB8.out HB9.out) rfl (.tmp 65) (.tmp 67) rfl xo xm xc (stsL X) rfl (HOx.out.later HB9.out) yo ym yc (stsL Y) rfl HSy.out.row (by have := HXm.out; have := HYm.out; omega) ?_; intro zo zc w10 hown10 hb10; have HO10 := Lib.hid hown10; have HB10 := Lib.hid hb10; clear hown10 hb10) |
            (refine wpList_appN eltU8 w10 _ (below_alloc w10 _) rfl (.tmp 69) (.tmp 70) rfl (some ⟨w10.heap.size, 0, none⟩) 0 0 [] rfl (ownN_lit0 _ _ _ _ (Nat.le_refl _)) ro1 ma cr1 ((putP (L.map psOf)).map (Value.int .u8)) rfl (HRA5.out.later (bl_al (bl_then HB7.out HB10.out) _)) (fun h => by cases h) (by have := HMa.out; omega) ?_; intro g11 cp11 w11 hown11 hb11; (simp only [Nat.zero_add, List.nil_append] at hown11); have HO11 := Lib.hid hown11; have HB11 := Lib.hid hb11; clear hown11 hb11) |
            (refine wpList_appN eltU8 w10 _ HB11.out rfl (.tmp 72) (.tmp 73) rfl (some ⟨g11, 0, none⟩) ma cp11 ((putP (L.map psOf)).map (Value.int .u8)) rfl (.inr ⟨g11, rfl, HO11.out⟩) ro2 mb cr2 ((putP (M.map psOf)).map (Value.int .u8)) rfl (HRB.out.later (bl_then HB7.out (bl_then HB10.out HB11.out))) (fun h => by cases h) (by have := HMa.out; have := HMb.out; omega) ?_; intro g12 cp12 w12 hown12 hb12; have HO12 := Lib.hid (row_own hown12 (by intro u hu; rw [← List.map_append] at hu; obtain ⟨x, _, rfl⟩ := List.mem_map.1 hu; rfl)); have HB12 := Lib.hid hb12; clear hown12 hb12))
          have HMS := Lib.hid (show ma + mb ≤ 8000000 by
            have a1 := HRA5.out.len
            have a2 := HRB.out.len
            have a3 := putP_len (L.map psOf)
            have a4 := putP_len (M.map psOf)
            have a5 := HL.out.len
            have a6 := HM.out.len
            have a7 := HNb.out
            rw [List.length_map] at a1 a2 a3 a4
            omega)
          have HB57 := Lib.hid (bl_then HB5.out HB7.out)
          have HB112 := Lib.hid (bl_then HB57.out (bl_then HB10.out HB12.out))
          have HStB := Lib.hid (fun (x : World) (hb : Below w12.heap.size w12 x) => steps_any (some ⟨g7, 0, none⟩) (j + q) cp7 (L ++ M) x (Sts.app (HO7.out.later (bl_then HB10.out (bl_then HB12.out hb))) (fun s hs => (HL.out.ok s hs).later (bl_then HB112.out hb)) (fun s hs => (HM.out.ok s hs).later (bl_then HB112.out hb))) (by have := HNb.out; omega))
          obtain ⟨ZL, hZL⟩ : ∃ ZL, (putP (L.map psOf) ++ putP (M.map psOf)).map (Value.int .u8) = ZL := ⟨_, rfl⟩
          have HRa := Lib.hid (fun (x : World) (hb : Below w12.heap.size w12 x) => (show Row x (some ⟨g12, 0, none⟩) (ma + mb) cp12 1 ZL by rw [← hZL, List.map_append]; exact HO12.out.later hb))
          obtain ⟨zt, hzt⟩ : ∃ zt, strOfNums (putP (L.map psOf) ++ putP (M.map psOf)) = zt := ⟨_, rfl⟩
          have hv0 := fun (ro : Option Addr) (rn rc : Nat) (x : World) (h : Row x ro rn rc 1 ZL) => row_string (P := Tryd.prog) (T := 22) (S := 9) (zs := putP (L.map psOf) ++ putP (M.map psOf)) x Tryd.underlying22 Tryd.underlying5 Tryd.underlying9 (ao := ro) (n := rn) (c := rc) (by rw [hZL]; exact h)
          rw [hzt] at hv0
          have HV0 := Lib.hid hv0
          have hv1 := hv0 (some ⟨g12, 0, none⟩) (ma + mb) cp12
          have HZ2 := Lib.hid (show (putP ((L ++ M).map psOf)).map (Value.int .u8) = ZL by rw [List.map_append, putP_app, hZL])
          clear hv0
          have hpab : bytesP (putP (L.map psOf) ++ putP (M.map psOf)) := fun x hx => by rcases List.mem_append.1 hx with h | h; exact HPA.out x h; exact HPB.out x h
          have HGa := Lib.hid (fun (x : World) (hb : Below w12.heap.size w12 x) => get_got (some ⟨g12, 0, none⟩) (ma + mb) cp12 (putP (L.map psOf) ++ putP (M.map psOf)) x (by rw [hZL]; exact HRa.out x hb) hpab (by have := HMS.out; omega))
          have HRx := Lib.hid (fun (x : World) (hb : Below w12.heap.size w12 x) => rows_got zo (xm + ym) zc (X ++ Y) x (Sts.app ((HO10.out.row (by intro u hu; rcases List.mem_append.1 hu with h | h; exact stsL_one _ u h; exact stsL_one _ u h)).later (bl_then HB12.out hb)) (fun s hs => (HSx.out s hs).later (bl_then (bl_then HB10.out HB12.out) hb)) (fun s hs => (HKy.out s hs).later (bl_then (bl_then HB10.out HB12.out) hb))) (by have := HXm.out; have := HYm.out; omega))
          have hxy : getP 400 (putP (L.map psOf) ++ putP (M.map psOf)) = (X ++ Y).map psOf := by
            have a5 := HL.out.len
            have a6 := HM.out.len
            have a7 := HNb.out
            rw [← putP_app, getP_all 400 _ (by rw [List.length_append, List.length_map, List.length_map]; omega), List.filter_append, List.map_append, HPx.out, HPy.out, getP_all 400 _ (by rw [List.length_map]; omega), getP_all 400 _ (by rw [List.length_map]; omega)]
          have HXY := Lib.hid hxy
          clear hxy
          have hBq := (Below.refl w12.heap.size w12).drew
          clear hpab hzt hZL
          go_wp2
          refine wp_plan (fun x => Row x (some ⟨g12, 0, none⟩) (ma + mb) cp12 1 ZL) [3, 4, 12, 13, 15, 16] [0, 1, 2, 6, 7, 3, 4, 5, 8, 9, 10, 11, 14, 12, 13, 15, 16, 17, 18] (by kernel_rfl) (by kernel_rfl) (HRa.out _ (Below.refl _ _).drew) (fun hHeld => ?_)
          iterate 5 (refine wpT_take rfl (by rfl) (by rfl) (by intro w' hSw; (try dsimp only [Mem, cellsAt] at hSw); go_simp; (try with_reducible rfl)) (by assumption) ?_; (try simp only [Act.put, List.setIfInBounds_toArray, List.set_cons_zero, List.set_cons_succ]))
          (refine wpT_step rfl (by rfl) (fun K hK => ?_); go_simp)
          ((with_reducible refine (HStB.out _ hBq).mono ?_); rintro e v2 ⟨lo, cp2, rfl, hS2, _, hb⟩; have HPt := Lib.hid (put_got lo _ cp2 (L ++ M) v2 hS2 (by have := HNb.out; omega)); have hBq2 := bl_then hBq hb; clear hS2 hb; (refine hK.out _ _ _ (fun _ h => h) (HRa.out _ hBq2) (fun hHeld => ?_); clear hK; clear K; (try simp only [Act.put, List.setIfInBounds_toArray, List.set_cons_zero, List.set_cons_succ])))
          (refine wpT_step rfl (by rfl) (fun K hK => ?_); go_simp)
          ((with_reducible refine (HPt.out).mono ?_); rintro e v3 ⟨bo3, m3, cp3, rfl, hr3, hm3, hb⟩; have hBq3 := bl_then hBq2 hb; rw [HZ2.out] at hr3; have HR3 := Lib.hid (fun (x : World) (hb : Below v3.heap.size v3 x) => hr3.later hb); have hv2 := HV0.out bo3 m3 cp3; clear hr3 hm3 hb HPt; (refine hK.out _ _ (fun w' => _ ∧ ((fun x => Row x bo3 m3 cp3 1 ZL)) w') (fun _ h => h.1) ⟨HRa.out _ hBq3, HR3.out _ (Below.refl _ _)⟩ (fun hHeld => ?_); clear hK; clear K; (try simp only [Act.put, List.setIfInBounds_toArray, List.set_cons_zero, List.set_cons_succ])))
          iterate 6 (refine wpT_take rfl (by rfl) (by rfl) (by intro w' hSw; (try dsimp only [Mem, cellsAt] at hSw); go_simp; (try with_reducible rfl)) (by assumption) ?_; (try simp only [Act.put, List.setIfInBounds_toArray, List.set_cons_zero, List.set_cons_succ]))
          (refine wpT_step rfl (by rfl) (fun K hK => ?_); go_simp)
          ((with_reducible refine (HGa.out _ hBq3).mono ?_); rintro e v4 ⟨lo4, m4, cp4, L4, rfl, hS4, hP4, hm4, hb⟩; have HBd4 := Lib.hid hb; have hBq4 := bl_then hBq3 hb; have HR4 := Lib.hid (rows_got lo4 m4 cp4 L4 v4 hS4 (by omega)); have HP4 := Lib.hid hP4; have HM4 := Lib.hid hm4; clear hS4 hP4 hm4 hb; (refine hK.out _ _ _ (fun _ h => h) (⟨HRa.out _ hBq4, HR3.out _ HBd4.out⟩) (fun hHeld => ?_); clear hK; clear K; (try simp only [Act.put, List.setIfInBounds_toArray, List.set_cons_zero, List.set_cons_succ])))
          (refine wpT_step rfl (by rfl) (fun K hK => ?_); go_simp)
          ((with_reducible refine (HR4.out).mono ?_); rintro e v5 ⟨lo5, cp5, rfl, hS5, hb⟩; have HBd5 := Lib.hid (bl_then HBd4.out hb); have hBq5 := bl_then hBq4 hb; have HS5 := Lib.hid hS5; clear hS5 hb; (refine hK.out _ _ _ (fun _ h => h) (⟨HRa.out _ hBq5, HR3.out _ HBd5.out⟩) (fun hHeld => ?_); clear hK; clear K; (try simp only [Act.put, List.setIfInBounds_toArray, List.set_cons_zero, List.set_cons_succ])))
          (refine wpT_step rfl (by rfl) (fun K hK => ?_); go_simp)
          ((with_reducible refine (HRx.out _ hBq5).mono ?_); rintro e v6 ⟨lo6, cp6, rfl, hS6, hb⟩; have HBd6 := Lib.hid (bl_then HBd5.out hb); have hBq6 := bl_then hBq5 hb; have HSame := Lib.hid (same23_any lo5 m4 cp5 L4 lo6 _ cp6 (X ++ Y) v6 (HS5.out.later hb) hS6 (HP4.out.trans HXY.out) (by have := HM4.out; omega)); clear hS6 hb; (refine hK.out _ _ _ (fun _ h => h) (⟨HRa.out _ hBq6, HR3.out _ HBd6.out⟩) (fun hHeld => ?_); clear hK; clear K; (try simp only [Act.put, List.setIfInBounds_toArray, List.set_cons_zero, List.set_cons_succ])))
          (refine wpT_step rfl (by rfl) (fun K hK => ?_); go_simp)
          ((with_reducible refine (HSame.out).mono ?_); rintro e v7 ⟨rfl, hb⟩; have HBd7 := Lib.hid (bl_then HBd6.out hb); have hBq7 := bl_then hBq6 hb; clear hb; (refine hK.out _ _ _ (fun _ h => h) (⟨HRa.out _ hBq7, HR3.out _ HBd7.out⟩) (fun hHeld => ?_); clear hK; clear K; (try simp only [Act.put, List.setIfInBounds_toArray, List.set_cons_zero, List.set_cons_succ])))
          iterate 2 (refine wpT_take rfl (by rfl) (by rfl) (by intro w' hSw; (try dsimp only [Mem, cellsAt] at hSw); go_simp; (try with_reducible rfl)) (by assumption) ?_; (try simp only [Act.put, List.setIfInBounds_toArray, List.set_cons_zero, List.set_cons_succ]))
          (refine wpT_nil ?_)
          go_wp2
          go_ret
          exact ⟨rfl, bl_then HB112.out hBq7⟩
end Go.Proofs.YtpdgeiflmnhkfaaDoor
