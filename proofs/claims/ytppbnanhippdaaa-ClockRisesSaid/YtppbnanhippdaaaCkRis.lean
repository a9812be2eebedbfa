/- ClockRises: the walk. -/
import Derived.Test.YtppbnanhippdaaaCk4
import Derived.Test.YtppbnanhippdaaaApp
namespace Go.Proofs.Ytppbnanhippdaaa
set_option linter.unusedVariables false
set_option linter.unusedSimpArgs false
open Go.RowKit

def RisRel (w : World) (n2 : Nat) (all m i : Value) (wr : World) : Prop :=
  ∃ (j g cap : Nat) (L : List Int), j ≤ n2 ∧ i = .int .i64 (j : Int) ∧ all = .slice (some ⟨g, 0, none⟩) L.length cap ∧ wr.ownsRow w.heap.size 22 1 (.slice (some ⟨g, 0, none⟩) L.length cap) L.length (c32 L) ∧ m = .int .u32 (med L) ∧ 11 ≤ L.length ∧ L.length ≤ 60 + j ∧ Below w.heap.size w wr

theorem own_med {w4 : World} {B g cap : Nat} {L : List Int} (hown : w4.ownsRow B 22 1 (.slice (some ⟨g, 0, none⟩) L.length cap) L.length (c32 L)) (hN : L.length ≤ 1000000) (w' : World) (h : Below w4.heap.size w4 w') :
    Calls Try.prog 12 #[.slice (some ⟨g, 0, none⟩) L.length cap] w' fun e w'' => e = .returned (.int .u32 (med L)) ∧ Below w'.heap.size w' w'' :=
  median_any _ L.length cap L w' ((row_own hown (c32_one _)).later h) hN
theorem own_last {w4 : World} {B g cap : Nat} {L : List Int} (hown : w4.ownsRow B 22 1 (.slice (some ⟨g, 0, none⟩) L.length cap) L.length (c32 L)) (hN : 11 ≤ L.length ∧ L.length ≤ 1000000) (w' : World) (h : Below w4.heap.size w4 w') :
    Calls Try.prog 10 #[.slice (some ⟨g, 0, none⟩) L.length cap] w' fun e w'' => ∃ ao' c', e = .returned (.slice ao' 11 c') ∧ Below w'.heap.size w' w'' :=
  (last_any _ L.length cap L w' ((row_own hown (c32_one _)).later h) hN.2).mono fun _ _ ⟨ao', m, c', hm, he, _, hb⟩ => ⟨ao', c', by rw [he, hm, show min L.length 11 = 11 by omega], hb⟩

set_option maxHeartbeats 1000000 in
theorem rises_walk (ao : Option Addr) (n c : Nat) (l : List Int) (bo : Option Addr) (n2 c2 : Nat) (l2 : List Int) (w : World) (hr : Row w ao n c 1 (c32 l)) (hm : n ≤ maxLen) (hr2 : Row w bo n2 c2 1 (c32 l2)) (hm2 : n2 ≤ maxLen) :
    Calls Try.prog 7 #[.slice ao n c, .slice bo n2 c2] w fun e w' => e = .returned (.bool true) ∧ Below w.heap.size w w' := by
  unfold maxLen at hm hm2
  have hnc := hr.le
  have hl := hr.len32
  have HR := Lib.hid hr
  have HR2 := Lib.hid hr2
  have HL := Lib.hid hl
  clear hr hr2 hl
  by_cases h60 : (60 : Int) < (n : Int)
  · go_enter Try.func7, Try.ntmps7
    go_wp2_with (go_at_call 8; refine (awake_any _).mono ?_; rintro e w1 ⟨rfl, hb1⟩)
    go_ret
    exact ⟨rfl, hb1⟩
  by_cases h30 : (30 : Int) < (n2 : Int)
  · go_enter Try.func7, Try.ntmps7
    go_wp2_with (go_at_call 8; refine (awake_any _).mono ?_; rintro e w1 ⟨rfl, hb1⟩)
    go_ret
    exact ⟨rfl, hb1⟩
  by_cases h11 : (n : Int) < 11
  · go_enter Try.func7, Try.ntmps7
    go_wp2_with (go_at_call 8; refine (awake_any _).mono ?_; rintro e w1 ⟨rfl, hb1⟩)
    go_ret
    exact ⟨rfl, hb1⟩
  go_enter Try.func7, Try.ntmps7
  go_wp2_with (first | (go_at_call 8; refine (awake_any _).mono ?_; rintro e w1 ⟨rfl, hb1⟩; have HO := Lib.hid (ownN_lit0 w.heap.size 22 1 w1 hb1.size); have hb2 := hb1.alloc hb1.size (.cells #[] 22)) | (at_builtin; refine wpList_appN eltU32 w _ hb2 rfl _ _ rfl _ 0 0 [] rfl HO.out ao n c _ rfl (HR.out.later hb2) (fun h => by cases h) (by omega) ?_; intro g cap w3 hown hb3; rw [Nat.zero_add, List.nil_append] at hown; have HM := Lib.hid (fun w' h => own_med (L := l) (by rw [← HL.out]; exact hown) (by rw [← HL.out]; omega) w' h); rw [← HL.out] at HM; have HO3 := Lib.hid (fun w' (h : Below w3.heap.size w3 w') => ownsRow_later hown h); clear hown) | (go_at_call 12; (with_reducible refine (HM.out _ (Below.refl _ _)).mono ?_); rintro e w4 ⟨rfl, hb4⟩))
  have hb5 := bl_then hb3 hb4
  have HO4 := Lib.hid (HO3.out _ hb4)
  clear HO3 HM HO hb1 hb2 hb3 hb4
  go_loopw [6, 7, 8] (fun all m i wr => RisRel w n2 all m i wr) (fun _ _ i _ => n2 - (intOf i).toNat)
  case atStart => exact ⟨0, g, cap, l, by omega, rfl, by rw [← HL.out], by rw [← HL.out]; exact HO4.out, rfl, by rw [← HL.out]; omega, by rw [← HL.out]; omega, hb5⟩
  case round =>
    clear HO4 HL HR hb5
    obtain ⟨j, g, cap, L, hj, rfl, rfl, hown, rfl, hL1, hL2, hb1⟩ := hrel
    have HO := Lib.hid hown
    have HLast := Lib.hid (fun w' h => own_last hown (by omega) w' h)
    obtain ⟨μ, hμ⟩ : ∃ μ, med L = μ := ⟨_, rfl⟩
    have HMU := Lib.hid hμ
    rw [hμ]
    clear hμ hown
    by_cases hlt : j < n2
    · obtain ⟨b2, off2, rfl⟩ : ∃ b off, bo = some ⟨b, off, none⟩ := row_addr HR2.out (by intro e; have := HR2.out.len; rw [e] at this; simp at this; omega)
      have hc2 := (HR2.out.later hb1).cell32 j hlt
      obtain ⟨x, hx⟩ : ∃ x, l2.getD j 0 = x := ⟨_, rfl⟩
      rw [hx] at hc2
      clear hx
      have hjn : (j : Int) < (n2 : Int) := by omega
      by_cases hxm : x ≤ μ
      · go_wp2
        go_roundw
        case rel => exact ⟨j + 1, g, cap, L, by omega, by go_num, rfl, HO.out, by rw [HMU.out], hL1, by omega, hb1⟩
        case measure => simp [intOf]; omega
      · have HN := Lib.hid (show (OwnN w.heap.size 22 1 (wr.alloc (.cells #[.int .u32 x] 22)) (some ⟨g, 0, none⟩) L.length cap (c32 L)) from .inr ⟨g, rfl, HO.out.alloc _⟩)
        have HX := Lib.hid (row_new wr #[.int .u32 x] 22 1 1 1 rfl (by omega) (by simp [Value.oneCell']))
        obtain ⟨ν, hν⟩ : ∃ ν, med (L ++ [x]) = ν := ⟨_, rfl⟩
        have HNU := Lib.hid hν
        have hle : μ ≤ ν := by rw [← hν, ← HMU.out]; exact med_rises L x hL1 (by rw [HMU.out]; omega)
        clear hν
        go_wp2_with (first | (at_builtin; refine wpList_appN eltU32 w _ (hb1.alloc hb1.size _) rfl _ _ rfl _ L.length cap _ rfl HN.out _ 1 1 _ rfl HX.out (fun h => by cases h) (by omega) ?_; intro g3 cap3 w3 hown3 hb3; have HO3 := Lib.hid (show w3.ownsRow w.heap.size 22 1 (.slice (some ⟨g3, 0, none⟩) (L ++ [x]).length cap3) (L ++ [x]).length (c32 (L ++ [x])) by simpa [c32] using hown3); have HM := Lib.hid (fun w' h => own_med HO3.out (by simp; omega) w' h); rw [HNU.out, show (L ++ [x]).length = L.length + 1 by simp] at HM; clear hown3) | (go_at_call 12; (with_reducible refine (HM.out _ (Below.refl _ _)).mono ?_); rintro e w4 ⟨rfl, hb4⟩))
        go_roundw
        case rel => exact ⟨j + 1, g3, cap3, L ++ [x], by omega, by go_num, by simp, ownsRow_later HO3.out hb4, by rw [HNU.out], by simp; omega, by simp; omega, bl_then hb3 hb4⟩
        case measure => simp [intOf]; omega
    · have hjn : j = n2 := by omega
      subst hjn
      go_wp2_with (go_at_call 10; (with_reducible refine (HLast.out _ (Below.refl _ _)).mono ?_); rintro e w4 ⟨a9, c9, rfl, hb4⟩)
      go_ret
      exact ⟨rfl, bl_then hb1 hb4⟩
end Go.Proofs.Ytppbnanhippdaaa
