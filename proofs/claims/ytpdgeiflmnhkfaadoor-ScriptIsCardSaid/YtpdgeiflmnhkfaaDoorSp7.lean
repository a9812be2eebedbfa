/- florinlaw23: ScriptGood. (hM) -/
import Derived.Test.YtpdgeiflmnhkfaaDoorSp6
import Derived.Test.YtpdgeiflmnhkfaaDoorSp5
namespace Go.Proofs.YtpdgeiflmnhkfaaDoor
set_option linter.unusedVariables false
set_option linter.unusedSimpArgs false
open Go.RowKit

theorem putP_bytes {l : List PS} (h : ∀ s ∈ l, bytesP s.d) : bytesP (putP l) := by
  intro x hx
  simp only [putP, List.mem_flatMap] at hx
  obtain ⟨s, hs, hx⟩ := hx
  by_cases hf : fitsP s = true
  · rw [if_pos hf] at hx
    obtain ⟨h1, h2, h3, h4⟩ := (fitsP_iff s).1 hf
    rcases List.mem_append.1 hx with hx | hx
    · simp only [headP, List.mem_cons, List.not_mem_nil, or_false] at hx
      rcases hx with rfl | rfl | rfl | rfl | rfl | rfl <;> omega
    · exact h s hs x hx
  · rw [if_neg hf] at hx
    cases hx
theorem putP_len' (l : List PS) (h : l.length ≤ 1000000) : (putP l).length ≤ 1000000000000 := by have := putP_len l; omega
/-- Put's bytes, got again -/
theorem getput_row {w : World} {bo : Option Addr} {cap : Nat} {L : List Stp} (h : OwnN 0 5 1 w bo (putP (L.map psOf)).length cap ((putP (L.map psOf)).map (Value.int .u8))) :
    Row w bo (putP (L.map psOf)).length cap 1 ((putP (L.map psOf)).map (Value.int .u8)) := h.row (by intro u hu; simp at hu; obtain ⟨x, _, rfl⟩ := hu; rfl)
theorem put_got (ao : Option Addr) (n c : Nat) (L : List Stp) (w : World) (h : Sts w ao n c L) (hn : n ≤ 1000000) :
    Calls Tryd.prog 95 #[.slice ao n c] w fun e w' => ∃ (bo : Option Addr) (m cap : Nat), e = .returned (.slice bo m cap) ∧ Row w' bo m cap 1 ((putP (L.map psOf)).map (Value.int .u8)) ∧ m ≤ 1000000000000 ∧ Below w.heap.size w w' := by
  refine (put_any ao n c L w h hn).mono ?_
  rintro e w' ⟨bo, cap, rfl, hown, hb⟩
  exact ⟨bo, _, cap, rfl, getput_row (hown.base (Nat.zero_le _)), putP_len' _ (by rw [List.length_map, h.len]; exact hn), hb⟩
theorem psBytes {w : World} {ao : Option Addr} {n c : Nat} {L : List Stp} (h : Sts w ao n c L) : ∀ s ∈ L.map psOf, bytesP s.d := by
  intro s hs
  obtain ⟨t, ht, rfl⟩ := List.mem_map.1 hs
  exact (h.ok t ht).by_
theorem get_got (ao : Option Addr) (n c : Nat) (zs : List Int) (w : World) (h : Row w ao n c 1 (zs.map (Value.int .u8))) (hz : bytesP zs) (hn : n ≤ 1000000000000) :
    Calls Tryd.prog 99 #[.slice ao n c] w fun e w' => ∃ (lo : Option Addr) (m cap : Nat) (L : List Stp), e = .returned (.slice lo m cap) ∧ Sts w' lo m cap L ∧ L.map psOf = getP 400 zs ∧ m ≤ 400 ∧ Below w.heap.size w w' := by
  refine (get_any ao n c zs w h hz hn).mono ?_
  rintro e w' ⟨lo, cap, L, rfl, hS, hP, _, _, hb⟩
  have hl : L.length = (getP 400 zs).length := by rw [← hP, List.length_map]
  exact ⟨lo, _, cap, L, rfl, hS, hP, by rw [hl]; exact getP_len _ _, hb⟩
theorem rows_got (ao : Option Addr) (n c : Nat) (L : List Stp) (w : World) (h : Sts w ao n c L) (hn : n ≤ 1000000) :
    Calls Tryd.prog 98 #[.slice ao n c] w fun e w' => ∃ (lo : Option Addr) (cap : Nat), e = .returned (.slice lo n cap) ∧ Sts w' lo n cap L ∧ Below w.heap.size w w' := by
  refine (rows_any ao n c L w h hn).mono ?_
  rintro e w' ⟨lo, cap, rfl, hS, _, hb⟩
  exact ⟨lo, cap, rfl, hS, hb⟩

theorem sumP_app (a b : List PS) : sumP (a ++ b) = sumP a + sumP b := by simp [sumP]
theorem sumP_take (l : List PS) (j : Nat) : sumP (l.take j) ≤ sumP l := by
  have := sumP_app (l.take j) (l.drop j)
  rw [List.take_append_drop] at this
  omega
theorem sumP_at {L : List Stp} {j : Nat} {s : Stp} (h : L[j]? = some s) : sumP ((L.take (j + 1)).map psOf) = sumP ((L.take j).map psOf) + 6 + s.d.length := by
  rw [List.take_add_one, h, Option.toList_some, List.map_append, sumP_app]
  simp [sumP, psOf]
  omega
def GoodRel (w : World) (L : List Stp) (v i : Value) (wr : World) : Prop := ∃ j : Nat, j ≤ L.length ∧ i = .int .i64 j ∧ v = .int .i64 ((sumP ((L.take j).map psOf) : Nat) : Int) ∧ Below w.heap.size w wr

set_option maxRecDepth 100000 in
set_option maxHeartbeats 4000000 in
theorem good_walk (ao : Option Addr) (n c : Nat) (zs : List Int) (w : World) (hT : TabN w) (h : Row w ao n c 1 (zs.map (Value.int .u8))) (hz : bytesP zs) :
    Calls Tryd.prog 16 #[.slice ao n c] w fun e w' => e = .returned (.bool true) ∧ Below w.heap.size w w' := by
  have HA := Lib.hid (fun (x : World) (hb : Below w.heap.size w x) => awake23_any x (hT.later hb))
  have hB := Below.refl w.heap.size w
  have hzl : zs.length = n := by simpa using h.len
  by_cases hbig : 5000 < n
  · have hbi : 5000 < (n : Int) := by omega
    clear h hz hT hzl
    go_enter Tryd.func16, Tryd.ntmps16
    go_wp2_with (go_at_call 91; (with_reducible refine (HA.out _ hB).mono ?_); rintro e w1 ⟨rfl, hb⟩; have hB1 := bl_then hB hb; clear hB hb)
    go_ret
    exact ⟨rfl, hB1⟩
  · have hbi : ¬ 5000 < (n : Int) := by omega
    have HG := Lib.hid (fun (x : World) (hb : Below w.heap.size w x) => get_got ao n c zs x (h.later hb) hz (by omega))
    have HZ := Lib.hid hz
    have HZL := Lib.hid hzl
    have HT := Lib.hid hT
    have HNb := Lib.hid hbig
    clear h hz hT hzl hbig
    go_enter Tryd.func16, Tryd.ntmps16
    go_wp2_with (first |
      (go_at_call 91; (with_reducible refine (HA.out _ hB).mono ?_); rintro e w1 ⟨rfl, hb⟩; have hB1 := bl_then hB hb; clear hB hb; have hB := hB1; clear hB1) |
      (go_at_call 99; (with_reducible refine (HG.out _ hB).mono ?_); rintro e w2 ⟨lo, ln, cap, L, rfl, hS, hP, hln, hb⟩; have hB2 := bl_then hB hb; have HS := Lib.hid hS; have HP := Lib.hid hP; have HLn := Lib.hid hln; clear hB hb hS hP; have hB := hB2; clear hB2))
    have HB2 := Lib.hid hB
    clear hB HG
    go_loopw [5, 6] (fun v i wr => GoodRel w2 L v i wr) (fun _ i _ => ln - (intOf i).toNat)
    case atStart => exact ⟨0, Nat.zero_le _, rfl, rfl, Below.refl _ _⟩
    case round =>
      obtain ⟨j, hj, rfl, rfl, hbr⟩ := hrel
      have hl := HS.out.len
      have hsum := (getP_sum 400 zs).1
      rw [← HP.out] at hsum
      by_cases hlt : j < ln
      · obtain ⟨s, hs⟩ : ∃ s, L[j]? = some s := ⟨_, List.getElem?_eq_getElem (by omega)⟩
        obtain ⟨b, off, rfl⟩ := HS.out.addr (by omega)
        have hS := HS.out.later hbr
        have hc := hS.cells hs
        have hfit : fitsP (psOf s) = true := getP_fits 400 zs HZ.out _ (by rw [← HP.out]; exact List.mem_map.2 ⟨s, List.mem_of_getElem? hs, rfl⟩)
        obtain ⟨q, hq, hq9⟩ : ∃ q : Nat, s.k = (q : Int) ∧ q < 10 := by
          have := ((fitsP_iff _).1 hfit).1
          simp only [psOf] at this
          exact ⟨s.k.toNat, by omega, by omega⟩
        have hso := hS.ok s (List.mem_of_getElem? hs)
        have HF := Lib.hid (fun (x : World) (hb : Below wr.heap.size wr x) => hfit ▸ fits_any s x (hso.later hb))
        obtain ⟨nm, hnm⟩ : ∃ nm, nmS q = nm := ⟨_, rfl⟩
        have hne := nmS_ne q hq9
        have HNm := Lib.hid (fun (x : World) (hb : Below w2.heap.size w2 x) => (hq ▸ hnm ▸ name_any q hq9 x (HT.out.later (bl_then HB2.out hb)) : Calls Tryd.prog 101 #[.int .i64 s.k] x fun e w' => e = .returned (.string nm) ∧ x = w'))
        rw [hnm] at hne
        obtain ⟨u, hu⟩ : ∃ u, sumP ((L.take j).map psOf) = u := ⟨_, rfl⟩
        obtain ⟨u2, hu2⟩ : ∃ u2, sumP ((L.take (j + 1)).map psOf) = u2 := ⟨_, rfl⟩
        have huu : u2 = u + 6 + s.m ∧ u2 ≤ 5006 := by
          have e1 := sumP_at hs
          rw [hu, hu2, hso.len] at e1
          have e2 := sumP_take (L.map psOf) (j + 1)
          rw [← List.map_take, hu2] at e2
          have := HZL.out
          have := HNb.out
          omega
        rw [hu]
        have hjn : (j : Int) < (ln : Int) := by omega
        have k1 : IntKind.i64.wrap ((u : Int) + 6) = (u : Int) + 6 := by rw [IntKind.wrap_i64]; omega
        have k2 : IntKind.i64.wrap ((u : Int) + 6 + (s.m : Int)) = (u2 : Int) := by rw [IntKind.wrap_i64]; omega
        have k3 : IntKind.i64.wrap ((j : Int) + 1) = ((j + 1 : Nat) : Int) := by rw [IntKind.wrap_i64]; omega
        have HU := Lib.hid (And.intro hu2 huu)
        have hB := Below.refl wr.heap.size wr
        clear hfit hq hso hnm hu hu2 huu hS hl hsum hs
        go_wp2_with (first |
          (go_at_call 92; (with_reducible refine (HF.out _ (Below.refl _ _)).mono ?_); rintro e w3 ⟨rfl, hb⟩; have HB3 := Lib.hid hb; have hc3 := cells4_later hc hb; clear hb hc) |
          (go_at_call 101; (with_reducible refine (HNm.out _ (bl_then hbr HB3.out)).mono ?_); rintro e w4 ⟨rfl, rfl⟩))
        refine ⟨⟨j + 1, by have := HS.out.len; omega, by first | rfl | go_num, by rw [HU.out.1], bl_then hbr HB3.out⟩, by simp [intOf]; omega⟩
      · obtain rfl : j = ln := by omega
        have hjj : ¬ (j : Int) < (j : Int) := by omega
        have e0 : L.take j = L := List.take_of_length_le (by omega)
        rw [e0]
        have hg2 := (getP_sum 400 zs).2
        rw [← HP.out] at hg2
        have hpos := getP_pos 399 zs
        rw [show (399 + 1 : Nat) = 400 from rfl, ← HP.out, List.length_map, hl, HZL.out] at hpos
        rw [List.length_map, hl, HZL.out] at hg2
        rw [HZL.out] at hsum
        obtain ⟨u, hu⟩ : ∃ u, sumP (L.map psOf) = u := ⟨_, rfl⟩
        rw [hu] at hg2 hsum ⊢
        have hall : (L.map psOf).filter fitsP = L.map psOf := filter_all (by rw [HP.out]; exact getP_fits 400 zs HZ.out)
        have hback : getP 400 (putP (L.map psOf)) = L.map psOf := by
          rw [getP_all 400 (L.map psOf) (by rw [List.length_map]; omega), hall]
        have hpb := putP_bytes (psBytes HS.out)
        have HBack := Lib.hid hback
        have HPB := Lib.hid hpb
        have HPut := Lib.hid (fun (x : World) (hb : Below w2.heap.size w2 x) => put_got lo j cap L x (HS.out.later hb) (by omega))
        have HRw := Lib.hid (fun (x : World) (hb : Below w2.heap.size w2 x) => rows_got lo j cap L x (HS.out.later hb) (by omega))
        have HBr := Lib.hid hbr
        have f1 : (j : Int) ≤ 400 := by omega
        have f2 : (u : Int) < (n : Int) + 6 := by omega
        have f3 : IntKind.i64.wrap ((n : Int) + 6) = (n : Int) + 6 := by rw [IntKind.wrap_i64]; have := HNb.out; omega
        have HU0 := Lib.hid (show j = 0 → u = 0 from fun e => by subst e; rw [← hu, List.eq_nil_of_length_eq_zero hl]; rfl)
        clear hu hall hback hpb e0 hl hsum
        by_cases hn0 : n = 0
        · obtain rfl : j = 0 := hpos.2 hn0
          subst hn0
          obtain rfl : u = 0 := HU0.out rfl
          clear hg2 hpos hlt hj hln f2
          have hB := hbr
          go_wp2_with (first |
            (go_at_call 95; (with_reducible refine (HPut.out _ hbr).mono ?_); rintro e w3 ⟨bo, m3, cp3, rfl, hr3, hm3, hb⟩; have HG3 := Lib.hid (get_got bo m3 cp3 (putP (L.map psOf)) w3 hr3 HPB.out hm3); have hB3 := bl_then hB hb; clear hr3 hm3 hb hB) |
            (go_at_call 99; (with_reducible refine (HG3.out).mono ?_); rintro e w4 ⟨lo4, m4, cp4, L4, rfl, hS4, hP4, hm4, hb⟩; have hB4 := bl_then hB3 hb; have HR4 := Lib.hid (rows_got lo4 m4 cp4 L4 w4 hS4 (by omega)); have HP4 := Lib.hid hP4; clear hb hS4 hP4 hm4 hB3) |
            (go_at_call 98; (with_reducible refine (HR4.out).mono ?_); rintro e w5 ⟨lo5, cp5, rfl, hS5, hb⟩; have hB5 := bl_then hB4 hb; have HS5 := Lib.hid hS5; clear hb hS5 hB4) |
            (go_at_call 98; (with_reducible refine (HRw.out _ hB5).mono ?_); rintro e w6 ⟨lo6, cp6, rfl, hS6, hb⟩; have hB6 := bl_then hB5 hb; have HSm := Lib.hid (same23_any lo5 m4 cp5 L4 lo6 _ cp6 L w6 (HS5.out.later hb) hS6 (HP4.out.trans HBack.out) (by have := HS5.out.len; have e := congrArg List.length (HP4.out.trans HBack.out); simp at e; have := hS6.len; omega)); clear hb hS6 hB5) |
            (go_at_call 97; (with_reducible refine (HSm.out).mono ?_); rintro e w7 ⟨rfl, hb⟩; have hB7 := bl_then hB6 hb; clear hb))
          go_ret
          exact ⟨rfl, bl_then HB2.out hB7⟩
        · have hj0 : ¬ j = 0 := fun e => hn0 (hpos.1 e)
          have f4 : ((j : Int) == 0) = false := by simp; omega
          have f5 : ((n : Int) == 0) = false := by simp; omega
          by_cases h400 : j = 400
          · subst h400
            clear hg2 hpos hn0 hj0 hlt hj hln
            have hB := hbr
            go_wp2_with (first |
              (go_at_call 95; (with_reducible refine (HPut.out _ hbr).mono ?_); rintro e w3 ⟨bo, m3, cp3, rfl, hr3, hm3, hb⟩; have HG3 := Lib.hid (get_got bo m3 cp3 (putP (L.map psOf)) w3 hr3 HPB.out hm3); have hB3 := bl_then hB hb; clear hr3 hm3 hb hB) |
              (go_at_call 99; (with_reducible refine (HG3.out).mono ?_); rintro e w4 ⟨lo4, m4, cp4, L4, rfl, hS4, hP4, hm4, hb⟩; have hB4 := bl_then hB3 hb; have HR4 := Lib.hid (rows_got lo4 m4 cp4 L4 w4 hS4 (by omega)); have HP4 := Lib.hid hP4; clear hb hS4 hP4 hm4 hB3) |
              (go_at_call 98; (with_reducible refine (HR4.out).mono ?_); rintro e w5 ⟨lo5, cp5, rfl, hS5, hb⟩; have hB5 := bl_then hB4 hb; have HS5 := Lib.hid hS5; clear hb hS5 hB4) |
              (go_at_call 98; (with_reducible refine (HRw.out _ hB5).mono ?_); rintro e w6 ⟨lo6, cp6, rfl, hS6, hb⟩; have hB6 := bl_then hB5 hb; have HSm := Lib.hid (same23_any lo5 m4 cp5 L4 lo6 _ cp6 L w6 (HS5.out.later hb) hS6 (HP4.out.trans HBack.out) (by have := HS5.out.len; have e := congrArg List.length (HP4.out.trans HBack.out); simp at e; have := hS6.len; omega)); clear hb hS6 hB5) |
              (go_at_call 97; (with_reducible refine (HSm.out).mono ?_); rintro e w7 ⟨rfl, hb⟩; have hB7 := bl_then hB6 hb; clear hb))
            go_ret
            exact ⟨rfl, bl_then HB2.out hB7⟩
          · have f6 : ((j : Int) == 400) = false := by simp; omega
            have f7 : (n : Int) ≤ (u : Int) := by omega
            clear hg2 hpos hn0 hj0 hlt hj hln
            have hB := hbr
            go_wp2_with (first |
              (go_at_call 95; (with_reducible refine (HPut.out _ hbr).mono ?_); rintro e w3 ⟨bo, m3, cp3, rfl, hr3, hm3, hb⟩; have HG3 := Lib.hid (get_got bo m3 cp3 (putP (L.map psOf)) w3 hr3 HPB.out hm3); have hB3 := bl_then hB hb; clear hr3 hm3 hb hB) |
              (go_at_call 99; (with_reducible refine (HG3.out).mono ?_); rintro e w4 ⟨lo4, m4, cp4, L4, rfl, hS4, hP4, hm4, hb⟩; have hB4 := bl_then hB3 hb; have HR4 := Lib.hid (rows_got lo4 m4 cp4 L4 w4 hS4 (by omega)); have HP4 := Lib.hid hP4; clear hb hS4 hP4 hm4 hB3) |
              (go_at_call 98; (with_reducible refine (HR4.out).mono ?_); rintro e w5 ⟨lo5, cp5, rfl, hS5, hb⟩; have hB5 := bl_then hB4 hb; have HS5 := Lib.hid hS5; clear hb hS5 hB4) |
              (go_at_call 98; (with_reducible refine (HRw.out _ hB5).mono ?_); rintro e w6 ⟨lo6, cp6, rfl, hS6, hb⟩; have hB6 := bl_then hB5 hb; have HSm := Lib.hid (same23_any lo5 m4 cp5 L4 lo6 _ cp6 L w6 (HS5.out.later hb) hS6 (HP4.out.trans HBack.out) (by have := HS5.out.len; have e := congrArg List.length (HP4.out.trans HBack.out); simp at e; have := hS6.len; omega)); clear hb hS6 hB5) |
              (go_at_call 97; (with_reducible refine (HSm.out).mono ?_); rintro e w7 ⟨rfl, hb⟩; have hB7 := bl_then hB6 hb; clear hb))
            go_ret
            exact ⟨rfl, bl_then HB2.out hB7⟩
end Go.Proofs.YtpdgeiflmnhkfaaDoor
