/- Clock: the document's Last, Median, Check. -/
import Derived.Test.YtppbnanhippdaaaCkR
namespace Go.Proofs.Ytppbnanhippdaaa
set_option linter.unusedVariables false
set_option linter.unusedSimpArgs false
open Go.RowKit

def insK (x : Int) (o : List Int) : Nat := (o.takeWhile fun y => decide (y ≤ x)).length
def ins (x : Int) (o : List Int) : List Int := o.take (insK x o) ++ [x] ++ o.drop (insK x o)
theorem ins_cons (x y : Int) (o : List Int) : ins x (y :: o) = if y ≤ x then y :: ins x o else x :: y :: o := by
  by_cases h : y ≤ x
  · simp [ins, insK, h]
  · simp [ins, insK, h]
theorem insK_le (x : Int) (o : List Int) : insK x o ≤ o.length := (List.takeWhile_sublist _).length_le
theorem insK_lt (x : Int) (o : List Int) (t : Nat) (h : t < insK x o) : o.getD t 0 ≤ x := by
  induction o generalizing t with
  | nil => simp [insK] at h
  | cons y o ih =>
    by_cases hy : y ≤ x
    · cases t with
      | zero => simpa using hy
      | succ t => exact ih t (by simpa [insK, hy] using h)
    · simp [insK, hy] at h
theorem insK_at (x : Int) (o : List Int) (h : insK x o < o.length) : ¬ o.getD (insK x o) 0 ≤ x := by
  induction o with
  | nil => simp at h
  | cons y o ih =>
    by_cases hy : y ≤ x
    · have e : insK x (y :: o) = insK x o + 1 := by simp [insK, hy]
      rw [e] at h ⊢
      exact ih (by simpa using h)
    · have e : insK x (y :: o) = 0 := by simp [insK, hy]
      rw [e]
      exact hy
theorem ins_perm (x : Int) (o : List Int) : (ins x o).Perm (x :: o) := by
  unfold ins
  have := @List.perm_middle _ x (o.take (insK x o)) (o.drop (insK x o))
  rw [List.take_append_drop] at this
  simpa using this
theorem ins_sorted (x : Int) (o : List Int) (h : o.Pairwise fun a b => le2 a b = true) : (ins x o).Pairwise fun a b => le2 a b = true := by
  induction o with
  | nil => simp [ins, insK]
  | cons y o ih =>
    rw [ins_cons]
    rw [List.pairwise_cons] at h
    split
    · rename_i hy
      rw [List.pairwise_cons]
      refine ⟨fun z hz => ?_, ih h.2⟩
      rcases List.mem_cons.1 ((ins_perm x o).mem_iff.1 hz) with rfl | hz
      · simpa [le2] using hy
      · exact h.1 z hz
    · rename_i hy
      rw [List.pairwise_cons, List.pairwise_cons]
      refine ⟨fun z hz => ?_, h⟩
      rcases List.mem_cons.1 hz with rfl | hz
      · simp [le2]; omega
      · have := h.1 z hz
        simp [le2] at this ⊢
        omega
def isort (l : List Int) (j : Nat) : List Int := ((tl l).take j).foldl (fun o x => ins x o) []
theorem isort_succ (l : List Int) (j : Nat) (x : Int) (h : (tl l)[j]? = some x) : isort l (j + 1) = ins x (isort l j) := by
  unfold isort
  rw [List.take_add_one, h, List.foldl_append]
  rfl
theorem isort_all (l : List Int) : isort l (tl l).length = srt l := by
  have key : ∀ (t o : List Int), o.Pairwise (fun a b => le2 a b = true) → (t.foldl (fun o x => ins x o) o).Pairwise (fun a b => le2 a b = true) ∧ (t.foldl (fun o x => ins x o) o).Perm (o ++ t) := by
    intro t
    induction t with
    | nil => intro o h; exact ⟨h, by simp⟩
    | cons x t ih =>
      intro o h
      obtain ⟨h1, h2⟩ := ih (ins x o) (ins_sorted x o h)
      refine ⟨h1, h2.trans ?_⟩
      have h3 : (ins x o ++ t).Perm ((x :: o) ++ t) := (ins_perm x o).append_right t
      refine h3.trans ?_
      exact (List.perm_middle (a := x) (l₁ := o) (l₂ := t)).symm
  obtain ⟨h1, h2⟩ := key (tl l) [] List.Pairwise.nil
  unfold isort srt
  rw [List.take_of_length_le (Nat.le_refl _)]
  rw [← List.mergeSort_of_pairwise (le := le2) h1]
  exact ms_perm (by simpa using h2)
theorem ins_len (x : Int) (o : List Int) : (ins x o).length = o.length + 1 := by have := (ins_perm x o).length_eq; simpa using this
theorem isort_len (l : List Int) (j : Nat) (h : j ≤ (tl l).length) : (isort l j).length = j := by
  induction j with
  | zero => simp [isort]
  | succ j ih =>
    rw [isort_succ l j _ (List.getElem?_eq_getElem (by omega)), ins_len, ih (by omega)]

theorem row_mt (w : World) (ao : Option Addr) (c sz : Nat) (h : ao = none → c = 0) : Row w ao 0 c sz [] :=
  ⟨by simp, Nat.zero_le _, h, fun _ _ i u hu => by simp at hu, fun _ h => by cases h⟩

def RlRel (w : World) (l : List Int) (k q : Nat) (out i : Value) (wr : World) : Prop :=
  ∃ (j c : Nat) (ao : Option Addr), j ≤ k ∧ i = .int .i64 ((q + j : Nat) : Int) ∧ out = .slice ao j c ∧ OwnN w.heap.size 22 1 wr ao j c (c32 (isort l j)) ∧ (j = 0 → ao = none) ∧ Below w.heap.size w wr
def RiRel (wr : World) (K : Nat) (k : Value) (wi : World) : Prop := ∃ t : Nat, t ≤ K ∧ k = .int .i64 (t : Int) ∧ Below wr.heap.size wr wi

set_option maxHeartbeats 1000000 in
theorem rlast_any (ao : Option Addr) (n c : Nat) (l : List Int) (w : World) (hr : Row w ao n c 1 (c32 l)) (hn : n ≤ 1000000) :
    Calls Try.prog 11 #[.slice ao n c] w fun e w' => ∃ ao' m c', m = min n 11 ∧ e = .returned (.slice ao' m c') ∧ Row w' ao' m c' 1 (c32 (srt l)) ∧ Below w.heap.size w w' := by
  have hnc := hr.le
  have hl := hr.len32
  obtain ⟨k, hk⟩ : ∃ k, k = min n 11 := ⟨_, rfl⟩
  obtain ⟨q, hq⟩ : ∃ q, q = n - k := ⟨_, rfl⟩
  have HR := Lib.hid hr
  have hmx : max 0 ((n : Int) - 11) = (q : Int) := by omega
  have hk11 : k ≤ 11 := by omega
  have hqk : q + k = n := by omega
  have HQK := Lib.hid hqk
  have HK := Lib.hid (And.intro hk (show (tl l).length = k by rw [tl_len]; omega))
  have HX := Lib.hid (fun j (hj : j < k) => show (tl l)[j]? = some (l.getD (q + j) 0) by
    unfold tl
    rw [List.getElem?_drop, show l.length - 11 + j = q + j by omega, getD_lt _ _ (by omega)]
    exact List.getElem?_eq_getElem _)
  rw [← hk]
  clear hr hl hk hq hqk
  go_enter Try.func11, Try.ntmps11
  go_wp2
  go_loopw [4, 5] (fun out i wr => RlRel w l k q out i wr) (fun _ i _ => n - (intOf i).toNat)
  case atStart => exact ⟨0, 0, none, by omega, by simp, rfl, by simpa [isort, c32] using ownN_nil w.heap.size 22 1 w, fun _ => rfl, Below.refl _ _⟩
  case round =>
    obtain ⟨j, co, oo, hj, rfl, rfl, hown, hnil, hbr⟩ := hrel
    have HO := Lib.hid hown
    have HNL := Lib.hid hnil
    clear hown hnil
    by_cases hlt : j < k
    · obtain ⟨b, off, rfl⟩ : ∃ b off, ao = some ⟨b, off, none⟩ := row_addr HR.out (by intro e; have := HR.out.len; rw [e] at this; simp at this; have := HQK.out; omega)
      have hjn : (q : Int) + (j : Int) < (n : Int) := by have := HQK.out; omega
      have hc := (HR.out.later hbr).cell32 (q + j) (by have := HQK.out; omega)
      obtain ⟨x, hx⟩ : ∃ x, l.getD (q + j) 0 = x := ⟨_, rfl⟩
      rw [hx] at hc
      have hs := isort_succ l j x (by rw [HX.out j hlt, hx])
      have hil := isort_len l j (by rw [HK.out.2]; omega)
      obtain ⟨O, hO⟩ : ∃ O, isort l j = O := ⟨_, rfl⟩
      rw [hO] at hs hil HO
      obtain ⟨K, hK⟩ : ∃ K, insK x O = K := ⟨_, rfl⟩
      have hKj : K ≤ j := by rw [← hK, ← hil]; exact insK_le x O
      have HS := Lib.hid (show isort l (j + 1) = O.take K ++ [x] ++ O.drop K by rw [hs, ins, hK])
      have HLT := Lib.hid (fun t (ht : t < K) => insK_lt x O t (by rw [hK]; exact ht))
      have HAT := Lib.hid (fun (h : K < j) => by have := insK_at x O (by rw [hK, hil]; exact h); rwa [hK] at this)
      have HIL := Lib.hid hil
      have hcj : j ≤ co := (HO.out.row (c32_one _)).le
      have hx0 := hx
      clear hx hs hil hO hK
      have hbr0 := hbr
      have HXX := Lib.hid hx0
      clear hx0
      go_wp2
      obtain ⟨W0, rfl⟩ : ∃ W0, W0 = wr := ⟨wr, rfl⟩
      go_loopw [6] (fun kk wi => RiRel W0 K kk wi) (fun kk _ => K - (intOf kk).toNat)
      case atStart => exact ⟨0, by omega, rfl, Below.refl _ _⟩
      case round =>
        obtain ⟨t, ht, rfl, hbi⟩ := hrel
        have hcx := (HR.out.later (bl_then hbr hbi)).cell32 (q + j) (by have := HQK.out; omega)
        rw [HXX.out] at hcx
        rcases Nat.eq_zero_or_pos j with hj0 | hj0
        · subst hj0
          obtain rfl := HNL.out rfl
          have hK0 : K = 0 := by omega
          subst hK0
          have ht0 : t = 0 := by omega
          subst ht0
          have hO0 : O = [] := List.eq_nil_of_length_eq_zero HIL.out
          subst hO0
          have hc0 := (HO.out.row (c32_one _)).nil rfl
          subst hc0
          have RH := Lib.hid (fun W (_ : Below W0.heap.size W0 W) => row_nil W 1)
          have RT := Lib.hid (fun W (_ : Below W0.heap.size W0 W) => row_nil W 1)
          go_wp2
          go_quiet (fail)
          have hbw := bl_drewN hbi nq
          have HO5 := Lib.hid (ownN_lit0 W0.heap.size 22 1 (wr.drewN nq) hbw.size)
          go_wp2_with (first | (at_builtin; refine wpList_appN eltU32 W0 _ (hbw.alloc hbw.size _) rfl _ _ rfl _ 0 0 [] rfl HO5.out _ _ _ (c32 (([] : List Int).take 0)) rfl (RH.out _ (hbw.alloc hbw.size _)) (fun h => by cases h) (by omega) ?_; intro g5 c5 w5 hown5 hb5; rw [Nat.zero_add, List.nil_append] at hown5; have HN5 := Lib.hid (OwnN.alloc (.inr ⟨g5, rfl, hown5⟩) (.cells #[.int .u32 x] 22)); have HX5 := Lib.hid (row_new w5 #[.int .u32 x] 22 1 1 1 rfl (by omega) (by simp [Value.oneCell'])); have hcx5 := (HR.out.later (bl_then hbr hb5)).cell32 (q + 0) (by have := HQK.out; omega); rw [HXX.out] at hcx5; (try simp only [Nat.add_zero] at hcx5); clear hown5) | (at_builtin; refine wpList_appN eltU32 W0 _ (hb5.alloc hb5.size _) rfl _ _ rfl _ _ c5 _ rfl HN5.out _ 1 1 _ rfl HX5.out (fun h => by cases h) (by omega) ?_; intro g6 c6 w6 hown6 hb6; have HN6 := Lib.hid hown6; clear hown6) | (at_builtin; refine wpList_appN eltU32 W0 _ hb6 rfl _ _ rfl _ _ c6 _ rfl (.inr ⟨g6, rfl, HN6.out⟩) _ _ _ (c32 (([] : List Int).drop 0)) rfl (RT.out _ hb6) (fun h => by cases h) (by omega) ?_; intro g7 c7 w7 hown7 hb7; replace hown7 := Lib.hid hown7))
          go_roundw
          case rel =>
            refine ⟨0 + 1, c7, some ⟨g7, 0, none⟩, by omega, by go_num, by rw [show 0 + 1 + 0 = 0 + 1 by omega], .inr ⟨g7, rfl, ?_⟩, fun h => by omega, bl_then hbr hb7⟩
            have h7 := ownsRow_base hown7.out hbr.size
            rw [show 0 + 1 + 0 = 0 + 1 by omega] at h7
            rw [HS.out, c32_app, c32_app]
            exact h7
          case measure => simp [intOf]; omega
        · have hrow := (HO.out.later hbi).row (c32_one _)
          obtain ⟨g, hoo⟩ : ∃ g, oo = some ⟨g, 0, none⟩ := by
            rcases HO.out with ⟨_, h0, _⟩ | ⟨g, h1, _⟩
            · omega
            · exact ⟨g, h1⟩
          subst hoo
          by_cases htK : t < K
          · have hct := hrow.cell32 t (by omega)
            rw [Nat.zero_add] at hct
            obtain ⟨y, hy⟩ : ∃ y, O.getD t 0 = y := ⟨_, rfl⟩
            have hle := HLT.out t htK
            rw [hy] at hct hle
            have htj : (t : Int) < (j : Int) := by omega
            clear hy
            go_wp2
            go_quiet (fail)
            go_wp2
            go_roundw
            case rel => exact ⟨t + 1, by omega, by go_num, bl_drewN hbi _⟩
            case measure => simp [intOf]; omega
          · have htK2 : t = K := by omega
            subst htK2
            have RH := Lib.hid (fun W (hW : Below W0.heap.size W0 W) => by have := ((HO.out.later hW).row (c32_one _)).pre t hKj; rwa [Nat.mul_one, show (c32 O).take t = c32 (O.take t) by simp [c32]] at this)
            have hRT := Lib.hid (fun W (hW : Below W0.heap.size W0 W) => by have := ((HO.out.later hW).row (c32_one _)).drop t hKj; rwa [c32_drop, Nat.zero_add] at this)
            by_cases hKlt : t < j
            · have hct := hrow.cell32 t hKlt
              rw [Nat.zero_add] at hct
              obtain ⟨y, hy⟩ : ∃ y, O.getD t 0 = y := ⟨_, rfl⟩
              have hle := HAT.out hKlt
              rw [hy] at hct hle
              have htj : (t : Int) < (j : Int) := by omega
              have htc : (t : Int) < (co : Int) := by omega
              have RT := hRT
              clear hy
              go_wp2
              go_quiet (fail)
              have hbw := bl_drewN hbi nq
              have HO5 := Lib.hid (ownN_lit0 W0.heap.size 22 1 (wr.drewN nq) hbw.size)
              go_wp2_with (first | (at_builtin; refine wpList_appN eltU32 W0 _ (hbw.alloc hbw.size _) rfl _ _ rfl _ 0 0 [] rfl HO5.out _ _ _ (c32 ((O).take t)) rfl (RH.out _ (hbw.alloc hbw.size _)) (fun h => by cases h) (by omega) ?_; intro g5 c5 w5 hown5 hb5; rw [Nat.zero_add, List.nil_append] at hown5; have HN5 := Lib.hid (OwnN.alloc (.inr ⟨g5, rfl, hown5⟩) (.cells #[.int .u32 x] 22)); have HX5 := Lib.hid (row_new w5 #[.int .u32 x] 22 1 1 1 rfl (by omega) (by simp [Value.oneCell'])); have hcx5 := (HR.out.later (bl_then hbr hb5)).cell32 (q + j) (by have := HQK.out; omega); rw [HXX.out] at hcx5; (try simp only [Nat.add_zero] at hcx5); clear hown5) | (at_builtin; refine wpList_appN eltU32 W0 _ (hb5.alloc hb5.size _) rfl _ _ rfl _ _ c5 _ rfl HN5.out _ 1 1 _ rfl HX5.out (fun h => by cases h) (by omega) ?_; intro g6 c6 w6 hown6 hb6; have HN6 := Lib.hid hown6; clear hown6) | (at_builtin; refine wpList_appN eltU32 W0 _ hb6 rfl _ _ rfl _ _ c6 _ rfl (.inr ⟨g6, rfl, HN6.out⟩) _ _ _ (c32 ((O).drop t)) rfl (RT.out _ hb6) (fun h => by cases h) (by omega) ?_; intro g7 c7 w7 hown7 hb7; replace hown7 := Lib.hid hown7))
              go_roundw
              case rel =>
                refine ⟨j + 1, c7, some ⟨g7, 0, none⟩, by omega, by go_num, by rw [show t + 1 + (j - t) = j + 1 by omega], .inr ⟨g7, rfl, ?_⟩, fun h => by omega, bl_then hbr hb7⟩
                have h7 := ownsRow_base hown7.out hbr.size
                rw [show t + 1 + (j - t) = j + 1 by omega] at h7
                rw [HS.out, c32_app, c32_app]
                exact h7
              case measure => simp [intOf]; omega
            · have htj2 : t = j := by omega
              subst htj2
              by_cases hco : co = t
              · subst hco
                have RT := Lib.hid (fun W (hW : Below W0.heap.size W0 W) => by have := row_mt W (some ⟨g, 0, none⟩) 0 1 (fun h => by cases h); rwa [show ([] : List Value) = c32 (O.drop co) by rw [List.drop_of_length_le (by rw [HIL.out]; exact Nat.le_refl _)]; rfl] at this)
                go_wp2
                go_quiet (fail)
                have hbw := bl_drewN hbi nq
                have HO5 := Lib.hid (ownN_lit0 W0.heap.size 22 1 (wr.drewN nq) hbw.size)
                go_wp2_with (first | (at_builtin; refine wpList_appN eltU32 W0 _ (hbw.alloc hbw.size _) rfl _ _ rfl _ 0 0 [] rfl HO5.out _ _ _ (c32 ((O).take co)) rfl (RH.out _ (hbw.alloc hbw.size _)) (fun h => by cases h) (by omega) ?_; intro g5 c5 w5 hown5 hb5; rw [Nat.zero_add, List.nil_append] at hown5; have HN5 := Lib.hid (OwnN.alloc (.inr ⟨g5, rfl, hown5⟩) (.cells #[.int .u32 x] 22)); have HX5 := Lib.hid (row_new w5 #[.int .u32 x] 22 1 1 1 rfl (by omega) (by simp [Value.oneCell'])); have hcx5 := (HR.out.later (bl_then hbr hb5)).cell32 (q + co) (by have := HQK.out; omega); rw [HXX.out] at hcx5; (try simp only [Nat.add_zero] at hcx5); clear hown5) | (at_builtin; refine wpList_appN eltU32 W0 _ (hb5.alloc hb5.size _) rfl _ _ rfl _ _ c5 _ rfl HN5.out _ 1 1 _ rfl HX5.out (fun h => by cases h) (by omega) ?_; intro g6 c6 w6 hown6 hb6; have HN6 := Lib.hid hown6; clear hown6) | (at_builtin; refine wpList_appN eltU32 W0 _ hb6 rfl _ _ rfl _ _ c6 _ rfl (.inr ⟨g6, rfl, HN6.out⟩) _ _ _ (c32 ((O).drop co)) rfl (RT.out _ hb6) (fun h => by cases h) (by omega) ?_; intro g7 c7 w7 hown7 hb7; replace hown7 := Lib.hid hown7))
                go_roundw
                case rel =>
                  refine ⟨co + 1, c7, some ⟨g7, 0, none⟩, by omega, by go_num, by rw [show co + 1 + 0 = co + 1 by omega], .inr ⟨g7, rfl, ?_⟩, fun h => by omega, bl_then hbr hb7⟩
                  have h7 := ownsRow_base hown7.out hbr.size
                  rw [show co + 1 + 0 = co + 1 by omega] at h7
                  rw [HS.out, c32_app, c32_app]
                  exact h7
                case measure => simp [intOf]; omega
              · have htc : (t : Int) < (co : Int) := by omega
                have RT := Lib.hid (fun W hW => by have := hRT.out W hW; rwa [Nat.sub_self] at this)
                go_wp2
                go_quiet (fail)
                have hbw := bl_drewN hbi nq
                have HO5 := Lib.hid (ownN_lit0 W0.heap.size 22 1 (wr.drewN nq) hbw.size)
                go_wp2_with (first | (at_builtin; refine wpList_appN eltU32 W0 _ (hbw.alloc hbw.size _) rfl _ _ rfl _ 0 0 [] rfl HO5.out _ _ _ (c32 ((O).take t)) rfl (RH.out _ (hbw.alloc hbw.size _)) (fun h => by cases h) (by omega) ?_; intro g5 c5 w5 hown5 hb5; rw [Nat.zero_add, List.nil_append] at hown5; have HN5 := Lib.hid (OwnN.alloc (.inr ⟨g5, rfl, hown5⟩) (.cells #[.int .u32 x] 22)); have HX5 := Lib.hid (row_new w5 #[.int .u32 x] 22 1 1 1 rfl (by omega) (by simp [Value.oneCell'])); have hcx5 := (HR.out.later (bl_then hbr hb5)).cell32 (q + t) (by have := HQK.out; omega); rw [HXX.out] at hcx5; (try simp only [Nat.add_zero] at hcx5); clear hown5) | (at_builtin; refine wpList_appN eltU32 W0 _ (hb5.alloc hb5.size _) rfl _ _ rfl _ _ c5 _ rfl HN5.out _ 1 1 _ rfl HX5.out (fun h => by cases h) (by omega) ?_; intro g6 c6 w6 hown6 hb6; have HN6 := Lib.hid hown6; clear hown6) | (at_builtin; refine wpList_appN eltU32 W0 _ hb6 rfl _ _ rfl _ _ c6 _ rfl (.inr ⟨g6, rfl, HN6.out⟩) _ _ _ (c32 ((O).drop t)) rfl (RT.out _ hb6) (fun h => by cases h) (by omega) ?_; intro g7 c7 w7 hown7 hb7; replace hown7 := Lib.hid hown7))
                go_roundw
                case rel =>
                  refine ⟨t + 1, c7, some ⟨g7, 0, none⟩, by omega, by go_num, by rw [show t + 1 + 0 = t + 1 by omega], .inr ⟨g7, rfl, ?_⟩, fun h => by omega, bl_then hbr hb7⟩
                  have h7 := ownsRow_base hown7.out hbr.size
                  rw [show t + 1 + 0 = t + 1 by omega] at h7
                  rw [HS.out, c32_app, c32_app]
                  exact h7
                case measure => simp [intOf]; omega
    · have hjn : j = k := by omega
      subst hjn
      have hqn : (q : Int) + (j : Int) = (n : Int) := by have := HQK.out; omega
      go_wp2
      go_ret
      exact ⟨_, _, _, rfl, rfl, by have := HO.out.row (c32_one _); rwa [← HK.out.2, isort_all, HK.out.2] at this, hbr⟩
end Go.Proofs.Ytppbnanhippdaaa
