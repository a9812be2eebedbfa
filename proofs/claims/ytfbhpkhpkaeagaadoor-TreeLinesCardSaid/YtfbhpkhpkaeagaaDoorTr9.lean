/- Package tree: what is common is in both. (hM) Merged: Tr9, Tr10. -/
import Derived.Test.YtfbhpkhpkaeagaaDoorTr8
import Derived.Test.YtfbhpkhpkaeagaaDoorAndI
import Derived.Test.YtfbhpkhpkaeagaaDoorSpot
/- Package tree: what is common is in both. (hM) -/
namespace Go.Proofs.YtfbhpkhpkaeagaaDoor
set_option linter.unusedVariables false
set_option linter.unusedSimpArgs false
open Go.RowKit

theorem first_eq (f g : Nat → Nat) : ∀ n, (∀ k, k < n → f k ≠ g k) ∨ ∃ K, K < n ∧ f K = g K ∧ ∀ k, k < K → f k ≠ g k
  | 0 => .inl (fun k h => absurd h (Nat.not_lt_zero _))
  | n + 1 => by
    rcases first_eq f g n with h | ⟨K, h1, h2, h3⟩
    · by_cases e : f n = g n
      · exact .inr ⟨n, by omega, e, h⟩
      · refine .inl fun k hk => ?_
        by_cases hkn : k = n
        · rw [hkn]; exact e
        · exact h k (by omega)
    · exact .inr ⟨K, by omega, h2, h3⟩
theorem anc_top {l : List Nd} (hw : TW l) {i : Nat} (hi : i < l.length) : ancN l i (htN l i) = 0 := by
  obtain ⟨h1, h2⟩ := anc_ok hw hi _ (Nat.le_refl _)
  obtain ⟨x, hx⟩ := get_lt h1
  exact ht_zero hw hx (by omega)
theorem cm_ex {l : List Nd} (hw : TW l) {i j : Nat} (hi : i < l.length) (hj : j < l.length) : ∃ c, CmR l i j c := by
  rcases first_eq (fun k => ancN l i (htN l i - min (htN l i) (htN l j) + k)) (fun k => ancN l j (htN l j - min (htN l i) (htN l j) + k)) (min (htN l i) (htN l j) + 1) with h | ⟨K, h1, h2, h3⟩
  · exfalso
    apply h (min (htN l i) (htN l j)) (by omega)
    show ancN l i (htN l i - min (htN l i) (htN l j) + min (htN l i) (htN l j)) = ancN l j (htN l j - min (htN l i) (htN l j) + min (htN l i) (htN l j))
    rw [Nat.sub_add_cancel (Nat.min_le_left _ _), Nat.sub_add_cancel (Nat.min_le_right _ _), anc_top hw hi, anc_top hw hj]
  · exact ⟨_, K, by omega, rfl, h2.symm, h3⟩
theorem cm_sym {l : List Nd} {i j c : Nat} (h : CmR l i j c) : CmR l j i c := by
  obtain ⟨K, h1, h2, h3, h4⟩ := h
  rw [Nat.min_comm] at h1 h2 h3 h4
  exact ⟨K, h1, h3, h2, fun k hk => (h4 k hk).symm⟩
theorem cm_uniq {l : List Nd} {i j c d : Nat} (h : CmR l i j c) (k : CmR l i j d) : c = d := cm_swap h (cm_sym k)

/-- what the laws ask of two numbers of a tree -/
theorem common_facts {B : Nat} {w : World} {g : Nat} {most best : Int} {l : List Nd} (ht : TreeAt B w g most best l) (hw : TW l) (hlen : l.length ≤ 1000) (i j : Nat) (hi : i < l.length) (hj : j < l.length) :
    ∃ (c : Nat) (y : Nd) (zi wi : Int) (zb wb : Bool),
      (∀ x, Below w.heap.size w x → Calls Tryd.prog 15 #[.pointer (some ⟨g, 0, none⟩), .int .i64 (i : Int), .int .i64 (j : Int)] x fun e w' => e = .returned (.tuple #[.int .i64 (c : Int), .bool true]) ∧ Below x.heap.size x w') ∧
      (∀ x, Below w.heap.size w x → Calls Tryd.prog 15 #[.pointer (some ⟨g, 0, none⟩), .int .i64 (j : Int), .int .i64 (i : Int)] x fun e w' => e = .returned (.tuple #[.int .i64 (c : Int), .bool true]) ∧ Below x.heap.size x w') ∧
      (∀ x, Below w.heap.size w x → Calls Tryd.prog 12 #[.pointer (some ⟨g, 0, none⟩), .int .i64 (c : Int)] x fun e w' => e = .returned (.tuple #[ndV y, .bool true]) ∧ Below x.heap.size x w') ∧
      (∀ x, Below w.heap.size w x → Calls Tryd.prog 22 #[.pointer (some ⟨g, 0, none⟩), .int .i64 (i : Int), .int .i64 y.ht] x fun e w' => e = .returned (.tuple #[.int .i64 (c : Int), .bool true]) ∧ Below x.heap.size x w') ∧
      (∀ x, Below w.heap.size w x → Calls Tryd.prog 22 #[.pointer (some ⟨g, 0, none⟩), .int .i64 (j : Int), .int .i64 y.ht] x fun e w' => e = .returned (.tuple #[.int .i64 (c : Int), .bool true]) ∧ Below x.heap.size x w') ∧
      (∀ x, Below w.heap.size w x → Calls Tryd.prog 22 #[.pointer (some ⟨g, 0, none⟩), .int .i64 (i : Int), .int .i64 (y.ht + 1)] x fun e w' => e = .returned (.tuple #[.int .i64 zi, .bool zb]) ∧ Below x.heap.size x w') ∧
      (∀ x, Below w.heap.size w x → Calls Tryd.prog 22 #[.pointer (some ⟨g, 0, none⟩), .int .i64 (j : Int), .int .i64 (y.ht + 1)] x fun e w' => e = .returned (.tuple #[.int .i64 wi, .bool wb]) ∧ Below x.heap.size x w') ∧
      (0 ≤ y.ht ∧ y.ht ≤ 1000) ∧ (zb = false ∨ (zb = true ∧ wb = false) ∨ (zb = true ∧ wb = true ∧ (zi != wi) = true)) := by
  obtain ⟨c, hc⟩ := cm_ex hw hi hj
  have hc' := hc
  obtain ⟨K, h1, h2, h3, h4⟩ := hc'
  obtain ⟨a1, a2⟩ := anc_ok hw hi (htN l i - min (htN l i) (htN l j) + K) (by omega)
  obtain ⟨b1, b2⟩ := anc_ok hw hj (htN l j - min (htN l i) (htN l j) + K) (by omega)
  rw [h2] at a1 a2
  rw [h3] at b1 b2
  obtain ⟨y, hy⟩ := get_lt a1
  have hyh := htN_of hw hy
  have hyo := (hw c y hy).ht1
  have ei : htN l i - htN l c = htN l i - min (htN l i) (htN l j) + K := by omega
  have ej : htN l j - htN l c = htN l j - min (htN l i) (htN l j) + K := by omega
  have up : ∀ p, p < l.length → ∃ (zi : Int) (zb : Bool), (∀ x, Below w.heap.size w x → Calls Tryd.prog 22 #[.pointer (some ⟨g, 0, none⟩), .int .i64 (p : Int), .int .i64 (y.ht + 1)] x fun e w' => e = .returned (.tuple #[.int .i64 zi, .bool zb]) ∧ Below x.heap.size x w') ∧ (zb = true → htN l c + 1 ≤ htN l p ∧ zi = (ancN l p (htN l p - (htN l c + 1)) : Int)) := by
    intro p hp
    have e : y.ht + 1 = ((htN l c + 1 : Nat) : Int) := by omega
    rw [e]
    by_cases h : htN l c + 1 ≤ htN l p
    · exact ⟨_, true, fun x hb => tabove_yes (ht.later hb) hw p hp _ h, fun _ => ⟨h, rfl⟩⟩
    · exact ⟨0, false, fun x hb => tabove_no (ht.later hb) hw p hp _ (by omega), fun h => by cases h⟩
  obtain ⟨zi, zb, hz, hz2⟩ := up i hi
  obtain ⟨wi, wb, hv, hv2⟩ := up j hj
  refine ⟨c, y, zi, wi, zb, wb, ?_, ?_, ?_, ?_, ?_, hz, hv, ⟨by omega, by omega⟩, ?_⟩
  · intro x hb
    refine (tcommon_any (ht.later hb) hw i j hi hj).mono ?_
    rintro e w' ⟨d, rfl, hd, hb2⟩
    rw [cm_uniq hd hc]
    exact ⟨rfl, hb2⟩
  · intro x hb
    refine (tcommon_any (ht.later hb) hw j i hj hi).mono ?_
    rintro e w' ⟨d, rfl, hd, hb2⟩
    rw [cm_swap hd hc]
    exact ⟨rfl, hb2⟩
  · exact fun x hb => tnode_yes (ht.later hb) c y hy
  · intro x hb
    rw [← hyh]
    refine (tabove_yes (ht.later hb) hw i hi (htN l c) (by omega)).mono ?_
    rintro e w' ⟨rfl, hb2⟩
    rw [ei, h2]
    exact ⟨rfl, hb2⟩
  · intro x hb
    rw [← hyh]
    refine (tabove_yes (ht.later hb) hw j hj (htN l c) (by omega)).mono ?_
    rintro e w' ⟨rfl, hb2⟩
    rw [ej, h3]
    exact ⟨rfl, hb2⟩
  · cases zb with
    | false => exact .inl rfl
    | true =>
      cases wb with
      | false => exact .inr (.inl ⟨rfl, rfl⟩)
      | true =>
        obtain ⟨p1, rfl⟩ := hz2 rfl
        obtain ⟨q1, rfl⟩ := hv2 rfl
        have hK : 1 ≤ K := by omega
        have := h4 (K - 1) (by omega)
        rw [show htN l i - min (htN l i) (htN l j) + (K - 1) = htN l i - (htN l c + 1) by omega, show htN l j - min (htN l i) (htN l j) + (K - 1) = htN l j - (htN l c + 1) by omega] at this
        refine .inr (.inr ⟨rfl, rfl, ?_⟩)
        simp
        omega

set_option maxRecDepth 100000 in
theorem tc_early (lo : Option Addr) (n lc : Nat) (i j : Int) (w : World) (hT : Tab w) (hbig : 40 < n ∨ n = 0) :
    Calls Tryd.prog 6 #[.slice lo n lc, .int .i64 i, .int .i64 j] w fun e w' => e = .returned (.bool true) ∧ Below w.heap.size w w' := by
  have HA := Lib.hid (fun (x : World) (hb : Below w.heap.size w x) => awake15_any x (hT.later hb))
  have hB := Below.refl w.heap.size w
  have hM := Lib.hid (mem_nil w)
  have hF : True := trivial
  clear hT
  rcases hbig with h | h
  · have e1 : 40 < (n : Int) := by omega
    clear h
    go_enter Tryd.func6, Tryd.ntmps6
    go_wp2_with (go_at_call 8; (with_reducible refine (HA.out _ (by (repeat (first | exact hB | refine bl_al ?_ _ | refine Below.setCell ?_ (by first | exact hgs | exact Nat.le_succ_of_le hgs | exact hgs2 | exact hgs3) _ | refine Below.drew ?_ | refine bl_drewN ?_ _)))).mono ?_); rintro e w1 ⟨rfl, hb⟩; have hB : Below w.heap.size w w1 := (by refine bl_then ?_ hb; (repeat (first | exact hB | refine bl_al ?_ _ | refine Below.setCell ?_ (by first | exact hgs | exact Nat.le_succ_of_le hgs | exact hgs2 | exact hgs3) _ | refine Below.drew ?_ | refine bl_drewN ?_ _))); (first | with_reducible have hM2 := Mem.later hb (hM.out) | with_reducible have hM2 := Mem.later hb (Mem.al (hM.out) _ _) | with_reducible have hM2 := Mem.later hb (Mem.al (Mem.al (hM.out) _ _) _ _) | with_reducible have hM2 := Mem.later hb (Mem.al (Mem.al (Mem.al (hM.out) _ _) _ _) _ _) | with_reducible have hM2 := Mem.later hb (Mem.al (Mem.al (Mem.al (Mem.al (hM.out) _ _) _ _) _ _) _ _) | with_reducible have hM2 := Mem.later hb (Mem.drew (hM.out)) | with_reducible have hM2 := Mem.later hb (Mem.drew (Mem.al (hM.out) _ _)) | with_reducible have hM2 := Mem.later hb (Mem.al (Mem.drew (hM.out)) _ _) | with_reducible have hM2 := Mem.later hb (Mem.al (Mem.drew (Mem.al (hM.out) _ _)) _ _) | with_reducible have hM2 := Mem.later hb (Mem.drew (Mem.al (Mem.al (hM.out) _ _) _ _)) | with_reducible have hM2 := Mem.later hb (Mem.al (Mem.al (Mem.drew (hM.out)) _ _) _ _) | with_reducible have hM2 := Mem.later hb (Mem.drew (Mem.drew (hM.out))) | with_reducible have hM2 := Mem.later hb (Mem.drew (Mem.al (Mem.drew (hM.out)) _ _)) | with_reducible have hM2 := Mem.later hb (Mem.drew (Mem.al (Mem.al (Mem.al (hM.out) _ _) _ _) _ _)) | with_reducible have hM2 := Mem.later hb (Mem.al (Mem.al (Mem.drew (Mem.al (hM.out) _ _)) _ _) _ _) | with_reducible have hM2 := Mem.later hb (Mem.drew (Mem.al (Mem.drew (Mem.al (hM.out) _ _)) _ _)) | with_reducible have hM2 := Mem.later hb (Mem.al (Mem.al (Mem.al (Mem.al (Mem.al (hM.out) _ _) _ _) _ _) _ _) _ _) | with_reducible have hM2 := Mem.later hb (Mem.al (Mem.al (Mem.al (Mem.al (Mem.al (Mem.al (hM.out) _ _) _ _) _ _) _ _) _ _) _ _) | with_reducible have hM2 := Mem.later hb (Mem.al (Mem.al (Mem.al (Mem.al (Mem.al (Mem.al (Mem.al (hM.out) _ _) _ _) _ _) _ _) _ _) _ _) _ _) | with_reducible have hM2 := Mem.later hb (Mem.al (Mem.al (Mem.al (Mem.al (Mem.al (Mem.al (Mem.al (Mem.al (hM.out) _ _) _ _) _ _) _ _) _ _) _ _) _ _) _ _)); (try simp only [World.size_alloc, size_drew] at hM2); clear hM; have hM := Lib.hid hM2; clear hF; have hF := hM2; (try simp only [Mem, cellsAt, World.size_alloc, Nat.zero_add, Nat.reduceAdd, and_true] at hF); clear hM2; clear hb)
    go_ret
    exact ⟨rfl, by (repeat (first | exact hB | refine bl_al ?_ _ | refine Below.setCell ?_ (by first | exact hgs | exact Nat.le_succ_of_le hgs | exact hgs2 | exact hgs3) _ | refine Below.drew ?_ | refine bl_drewN ?_ _))⟩
  · subst h
    go_enter Tryd.func6, Tryd.ntmps6
    go_wp2_with (go_at_call 8; (with_reducible refine (HA.out _ (by (repeat (first | exact hB | refine bl_al ?_ _ | refine Below.setCell ?_ (by first | exact hgs | exact Nat.le_succ_of_le hgs | exact hgs2 | exact hgs3) _ | refine Below.drew ?_ | refine bl_drewN ?_ _)))).mono ?_); rintro e w1 ⟨rfl, hb⟩; have hB : Below w.heap.size w w1 := (by refine bl_then ?_ hb; (repeat (first | exact hB | refine bl_al ?_ _ | refine Below.setCell ?_ (by first | exact hgs | exact Nat.le_succ_of_le hgs | exact hgs2 | exact hgs3) _ | refine Below.drew ?_ | refine bl_drewN ?_ _))); (first | with_reducible have hM2 := Mem.later hb (hM.out) | with_reducible have hM2 := Mem.later hb (Mem.al (hM.out) _ _) | with_reducible have hM2 := Mem.later hb (Mem.al (Mem.al (hM.out) _ _) _ _) | with_reducible have hM2 := Mem.later hb (Mem.al (Mem.al (Mem.al (hM.out) _ _) _ _) _ _) | with_reducible have hM2 := Mem.later hb (Mem.al (Mem.al (Mem.al (Mem.al (hM.out) _ _) _ _) _ _) _ _) | with_reducible have hM2 := Mem.later hb (Mem.drew (hM.out)) | with_reducible have hM2 := Mem.later hb (Mem.drew (Mem.al (hM.out) _ _)) | with_reducible have hM2 := Mem.later hb (Mem.al (Mem.drew (hM.out)) _ _) | with_reducible have hM2 := Mem.later hb (Mem.al (Mem.drew (Mem.al (hM.out) _ _)) _ _) | with_reducible have hM2 := Mem.later hb (Mem.drew (Mem.al (Mem.al (hM.out) _ _) _ _)) | with_reducible have hM2 := Mem.later hb (Mem.al (Mem.al (Mem.drew (hM.out)) _ _) _ _) | with_reducible have hM2 := Mem.later hb (Mem.drew (Mem.drew (hM.out))) | with_reducible have hM2 := Mem.later hb (Mem.drew (Mem.al (Mem.drew (hM.out)) _ _)) | with_reducible have hM2 := Mem.later hb (Mem.drew (Mem.al (Mem.al (Mem.al (hM.out) _ _) _ _) _ _)) | with_reducible have hM2 := Mem.later hb (Mem.al (Mem.al (Mem.drew (Mem.al (hM.out) _ _)) _ _) _ _) | with_reducible have hM2 := Mem.later hb (Mem.drew (Mem.al (Mem.drew (Mem.al (hM.out) _ _)) _ _)) | with_reducible have hM2 := Mem.later hb (Mem.al (Mem.al (Mem.al (Mem.al (Mem.al (hM.out) _ _) _ _) _ _) _ _) _ _) | with_reducible have hM2 := Mem.later hb (Mem.al (Mem.al (Mem.al (Mem.al (Mem.al (Mem.al (hM.out) _ _) _ _) _ _) _ _) _ _) _ _) | with_reducible have hM2 := Mem.later hb (Mem.al (Mem.al (Mem.al (Mem.al (Mem.al (Mem.al (Mem.al (hM.out) _ _) _ _) _ _) _ _) _ _) _ _) _ _) | with_reducible have hM2 := Mem.later hb (Mem.al (Mem.al (Mem.al (Mem.al (Mem.al (Mem.al (Mem.al (Mem.al (hM.out) _ _) _ _) _ _) _ _) _ _) _ _) _ _) _ _)); (try simp only [World.size_alloc, size_drew] at hM2); clear hM; have hM := Lib.hid hM2; clear hF; have hF := hM2; (try simp only [Mem, cellsAt, World.size_alloc, Nat.zero_add, Nat.reduceAdd, and_true] at hF); clear hM2; clear hb)
    go_ret
    exact ⟨rfl, by (repeat (first | exact hB | refine bl_al ?_ _ | refine Below.setCell ?_ (by first | exact hgs | exact Nat.le_succ_of_le hgs | exact hgs2 | exact hgs3) _ | refine Below.drew ?_ | refine bl_drewN ?_ _))⟩

/-- a tree that is filled: so many are added -/
def ThRel (w : World) (g : Nat) (n : Nat) (i : Value) (wr : World) : Prop :=
  ∃ k : Nat, i = .int .i64 k ∧ k ≤ n ∧ ∃ (best : Int) (ls : List Nd), TreeAt w.heap.size wr g 60 best ls ∧ TW ls ∧ BestT ls best ∧ ls.length ≤ k ∧ (1 ≤ k → ls ≠ []) ∧ Below w.heap.size w wr
theorem addR_len {most : Int} {l l' : List Nd} {h : Hd} {i er : Int} (ha : AddR most l h i er l') (hm : 1 ≤ most) : l'.length ≤ l.length + 1 ∧ l' ≠ [] := by
  rcases ha with ⟨_, rfl, j, hj, _⟩ | ⟨_, _, rfl, _, hl, _⟩ | ⟨_, _, rfl, _, hfull⟩ | ⟨_, _, _, _, x, _, rfl⟩
  · refine ⟨by omega, ?_⟩
    rintro rfl
    exact absurd (findT_lt hj) (Nat.not_lt_zero _)
  · exact ⟨by omega, hl⟩
  · refine ⟨by omega, ?_⟩
    rintro rfl
    simp at hfull
    omega
  · exact ⟨by simp, by simp⟩

set_option maxRecDepth 100000 in
set_option maxHeartbeats 8000000 in
theorem tc_walk (L : Nat → Hd) (hL : ∀ i, HdOk (L i)) (b off n lc : Nat) (k1 k2 : Int) (w : World) (hT : Tab w) (hr : SRow w (some ⟨b, off, none⟩) n lc 68 (fun i => hdL (L i))) (hn : n ≤ 40) (hpos : 0 < n) :
    Calls Tryd.prog 6 #[.slice (some ⟨b, off, none⟩) n lc, .int .i64 k1, .int .i64 k2] w fun e w' => e = .returned (.bool true) ∧ Below w.heap.size w w' := by
  have HA := Lib.hid (fun (x : World) (hb : Below w.heap.size w x) => awake15_any x (hT.later hb))
  have HNw := Lib.hid (fun (x : World) => tnew_any 60 (.inr (.inl rfl)) x)
  obtain ⟨K1, hK1, _⟩ := and_64k k1
  obtain ⟨K2, hK2, _⟩ := and_64k k2
  have HRow := Lib.hid hr
  have HL := Lib.hid hL
  have HT := Lib.hid hT
  have hblt : b < w.heap.size := hr.lt (by decide) hpos _ rfl
  have HBL := Lib.hid hblt
  have HN := Lib.hid (And.intro hn hpos)
  have e1 : ¬ 40 < (n : Int) := by omega
  have e3 : ((n : Int) == 0) = false := by simp; omega
  have hB := Below.refl w.heap.size w
  clear hT hL hr hn hpos hblt
  go_enter Tryd.func6, Tryd.ntmps6
  go_wp2_with (first |
    (go_at_call 8; (with_reducible refine (HA.out _ hB).mono ?_); rintro e w1 ⟨rfl, hb⟩; have hB2 := bl_then hB hb; clear hB; have hB := hB2; clear hB2 hb) |
    (go_at_call 9; (with_reducible refine (HNw.out _).mono ?_); rintro e w2 ⟨g, rfl, htr, hb⟩; have HTr := Lib.hid (htr w.heap.size hB.size); have hB2 := bl_then hB hb; clear hB; have hB := hB2; clear hB2 hb htr))
  have HB0 := Lib.hid hB
  clear hB
  go_loopw [9] (fun i wr => ThRel w g n i wr) (fun i _ => n + 1 - (intOf i).toNat)
  case atStart => exact ⟨0, rfl, Nat.zero_le _, 0, [], HTr.out, tw_nil, .inl ⟨rfl, rfl⟩, Nat.zero_le _, fun h => absurd h (by omega), HB0.out⟩
  case round =>
    obtain ⟨k, rfl, hkn, best, ls, htr, htw, hbt, hls, hne, hB⟩ := hrel
    clear HB0 HTr
    by_cases hlt : k < n
    · have hki : (k : Int) < (n : Int) := by omega
      have hn40 := HN.out.1
      have hw1 : IntKind.i64.wrap ((k : Int) + 1) = (((k + 1 : Nat)) : Int) := by rw [IntKind.wrap_i64]; omega
      have hR : wr.rangeAt b (off + k * 68) (hdL (L k)) := fun i v hv => (hB.cell (p := ⟨b, _, none⟩) HBL.out).trans (srow_head HRow.out k hlt i v hv)
      have HAd := Lib.hid (tadd_any htr htw hbt (by omega) (L k) (HL.out k) (HT.out.later hB))
      have HD := Lib.hid (And.intro hlt hls)
      have HBr := Lib.hid hB
      clear htr htw hbt hls hne hkn hlt hn40 hB
      go_wp2_with (first |
        ((with_reducible_and_instances refine at_load 46 ?_); refine Go.wpList_load_mid rfl 26 (.tmp 46) rfl b (off + k * 68) rfl (hdL (L k)) _ hR Tryd.underlying26 rfl (by rw [hdL_len]; kernel_rfl) ?_) |
        (go_at_call 10; (with_reducible refine (HAd.out).mono ?_); rintro e w3 ⟨i, er, best', l', rfl, hadd, htr, htw, hbt, hb, hkt⟩; have HE := Lib.hid (And.intro (addR_len hadd (by decide)) (And.intro htr (And.intro htw (And.intro hbt (HBr.out.trans hb))))); clear hadd htr htw hbt hb hkt))
      obtain ⟨⟨q1, q2⟩, q3, q4, q5, q6⟩ := HE.out
      obtain ⟨q7, q8⟩ := HD.out
      exact ⟨⟨k + 1, by go_num, by omega, best', l', q3, q4, q5, by omega, fun _ => q2, q6⟩, by simp [intOf]; omega⟩
    · have hki : ¬ (k : Int) < (n : Int) := by omega
      have hk0 : 1 ≤ k := by have := HN.out.2; omega
      have hn40 := HN.out.1
      have hlen : 1 ≤ ls.length := by
        rcases Nat.eq_zero_or_pos ls.length with h0 | h0
        · exact absurd (List.eq_nil_of_length_eq_zero h0) (hne hk0)
        · exact h0
      have hls1 : ls.length ≤ 1000 := by omega
      obtain ⟨m, hm⟩ : ∃ m, ls.length = m := ⟨_, rfl⟩
      obtain ⟨i, hi0⟩ : ∃ r, K1 % m = r := ⟨_, rfl⟩
      obtain ⟨j, hj0⟩ : ∃ r, K2 % m = r := ⟨_, rfl⟩
      have hi : i < ls.length := by rw [← hi0, ← hm]; exact Nat.mod_lt _ hlen
      have hj : j < ls.length := by rw [← hj0, ← hm]; exact Nat.mod_lt _ hlen
      have hiI : (K1 : Int) % (m : Int) = (i : Int) := by rw [← hi0]; exact (Int.natCast_emod K1 m).symm
      have hiT : (K1 : Int).tmod (m : Int) = (i : Int) := by rw [Int.tmod_eq_emod_of_nonneg (by omega)]; exact hiI
      have hjI : (K2 : Int) % (m : Int) = (j : Int) := by rw [← hj0]; exact (Int.natCast_emod K2 m).symm
      have hjT : (K2 : Int).tmod (m : Int) = (j : Int) := by rw [Int.tmod_eq_emod_of_nonneg (by omega)]; exact hjI
      have HLn := Lib.hid (fun (x : World) (hb : Below wr.heap.size wr x) => tlen_any (htr.later hb))
      rw [hm] at HLn
      have m3 : ((m : Int) == 0) = false := by simp; omega
      have m4 : ¬ m = 0 := by omega
      have m5 : ¬ (m : Int) = 0 := by omega
      obtain ⟨c, y, zi, wi, zb, wb, f1, f2, f3, f4, f5, f6, f7, ⟨f8, f9⟩, hfin⟩ := common_facts htr htw hls1 i j hi hj
      have HC1 := Lib.hid f1
      have HC2 := Lib.hid f2
      have HNd := Lib.hid f3
      have HX := Lib.hid f4
      have HY := Lib.hid f5
      have HZ := Lib.hid f6
      have HW := Lib.hid f7
      have hw1 : IntKind.i64.wrap (y.ht + 1) = y.ht + 1 := by rw [IntKind.wrap_i64]; omega
      have cc : ((c : Int) == (c : Int)) = true := by simp
      have HBr := Lib.hid hB
      have hBW := hB.size
      clear hm hi0 hj0 hi hj htr htw hbt hls hne hkn hlt hn40 hB f1 f2 f3 f4 f5 f6 f7 f8 f9 hlen hls1 hk0
      have hM := Lib.hid (mem_nil wr)
      have hB := Below.refl wr.heap.size wr
      have hz0 : ∀ x : World, (zeroValue 44).run Tryd.prog x = .ok (.agg (ndL nd0).toArray) x := fun x => by kernel_rfl
      rcases hfin with rfl | ⟨rfl, rfl⟩ | ⟨rfl, rfl, hzw⟩
      all_goals (
        go_wp2_with (first |
          (go_at_call 16; (with_reducible refine (HLn.out _ hB).mono ?_); rintro e w3 ⟨rfl, hb⟩; have hB2 := bl_then hB hb; have hM2 := Lib.hid (hM.out.later hb); clear hB hM; have hB := hB2; have hM := hM2; clear hB2 hM2 hb) |
          (go_at_call 15; (first | (with_reducible refine (HC1.out _ hB).mono ?_) | (with_reducible refine (HC2.out _ hB).mono ?_)); rintro e w4 ⟨rfl, hb⟩; have hB2 := bl_then hB hb; have hM2 := Lib.hid (hM.out.later hb); clear hB hM; have hB := hB2; have hM := hM2; clear hB2 hM2 hb) |
          (go_at_call 12; (with_reducible refine (HNd.out _ hB).mono ?_); rintro e w5 ⟨rfl, hb⟩; have hB2 := bl_then hB hb; have hM2 := Lib.hid (hM.out.later hb); clear hB hM; have hB := hB2; have hM := hM2; clear hB2 hM2 hb) |
          ((with_reducible_and_instances refine at_store 16 ?_); refine wpList_store_newV rfl (.tmp 16) (.tmp 80) 44 rfl _ (ndL y) _ Tryd.underlying44 rfl (by rw [ndL_len]; kernel_rfl) (by rw [ndL_len]; rfl) (ndL_one y) rfl (rfl) hM.out ?_; intro W2 hMW hbW; have hBW2 := bl_then hB hbW; obtain ⟨g8, hg8⟩ : ∃ b, w5.heap.size = b := ⟨_, rfl⟩; rw [hg8] at hMW; simp only [hg8]; clear hg8; clear hM hB; have hM := Lib.hid hMW; have hB := hBW2; clear hMW hbW hBW2; have ch := cellsAt_get (Mem.get hM.out List.mem_cons_self) (ndL_ht y)) |
          (go_at_call 22; (first | (with_reducible refine (HX.out _ hB).mono ?_) | (with_reducible refine (HY.out _ hB).mono ?_) | (with_reducible refine (HZ.out _ hB).mono ?_) | (with_reducible refine (HW.out _ hB).mono ?_)); rintro e w6 ⟨rfl, hb⟩; have hB2 := bl_then hB hb; have hM2 := Lib.hid (hM.out.later hb); clear hB hM ch; have hB := hB2; have hM := hM2; clear hB2 hM2 hb; have ch := cellsAt_get (Mem.get hM.out List.mem_cons_self) (ndL_ht y)))
        go_ret
        exact ⟨rfl, HBr.out.trans (hB.mono hBW)⟩)
end Go.Proofs.YtfbhpkhpkaeagaaDoor

/- Package tree: Line. (hM) -/
namespace Go.Proofs.YtfbhpkhpkaeagaaDoor
set_option linter.unusedVariables false
set_option linter.unusedSimpArgs false
open Go.RowKit

theorem eltI : Elt Tryd.prog 51 3 (.int .i64 0) 1 8 := ⟨Tryd.underlying51, by kernel_rfl, rfl, by decide, by decide⟩
/-- make([]int, n) -/
theorem wpList_makeI {P : Program} {T E : TypeId} (he : Elt P T E (.int .i64 0) 1 8) (w : World) {ops : Array Oper} {rest : List Oper} {o : Oper} {a : Act} {Q : Exit → Act → World → Prop} (hgd : o.guard = none) (l : Operand) (hop : o.op = Op.makeSlice T l l)
    (n : Nat) (hl : a.eval l = .int .i64 (n : Int)) (hn : n ≤ 1000000)
    (h : ∀ w', w'.ownsRow w.heap.size E 1 (.slice (some ⟨w.heap.size, 0, none⟩) n n) n (List.replicate n (.int .i64 0)) → w.grownBy w' none → wpList P ops Q rest (a.put o.dst (.slice (some ⟨w.heap.size, 0, none⟩) n n)) w') : wpList P ops Q (o :: rest) a w := by
  obtain ⟨i, hi, hz0, hz1, hz2⟩ := info_parts he.hi
  refine wpList_make_full w hgd l l T hop w.heap.size E i (.int .i64 0) 1 he.ht hi hz0 hz1 .i64 .i64 n n n hl hl rfl rfl (by rw [hz2]; omega) (by unfold maxLen; omega) (Nat.le_refl _) fun w' h1 h2 => h w' ?_ h2
  have e : (madeCells (Value.cells (.int .i64 0)) (n * 1)).toList = List.replicate n (.int .i64 0) := by
    rw [show (Value.cells (.int .i64 0)) = #[Value.int .i64 0] from rfl, toList_madeCells_one, Nat.mul_one]
  rw [← e]
  exact h1

/-- a line, filled from q on -/
def linL (l : List Nd) (i H q : Nat) : List Value := (List.range (H + 1)).map fun p => .int .i64 (if q ≤ p then (ancN l i (H - p) : Int) else 0)
theorem linL_len (l : List Nd) (i H q : Nat) : (linL l i H q).length = H + 1 := by simp [linL]
theorem linL_zero (l : List Nd) (i H : Nat) : linL l i H (H + 1) = List.replicate (H + 1) (.int .i64 0) := by
  apply List.ext_getElem (by simp [linL])
  intro p h1 h2
  have : p < H + 1 := by simpa [linL] using h1
  simp [linL]
  omega
theorem linL_set (l : List Nd) (i H q : Nat) (hq : q ≤ H) : (linL l i H (q + 1)).set q (.int .i64 (ancN l i (H - q) : Int)) = linL l i H q := by
  apply List.ext_getElem (by simp [linL])
  intro p h1 h2
  rw [List.getElem_set]
  simp only [linL, List.getElem_map, List.getElem_range]
  split
  · next h => subst h; simp
  · next h =>
    have e : (q + 1 ≤ p) = (q ≤ p) := by apply propext; omega
    simp only [e]
theorem linL_get (l : List Nd) (i H p : Nat) (hp : p ≤ H) : (linL l i H 0)[p]? = some (.int .i64 (ancN l i (H - p) : Int)) := by
  simp [linL, List.getElem?_map, List.getElem?_range (show p < H + 1 by omega)]
theorem linL_one (l : List Nd) (i H q : Nat) : ∀ u ∈ linL l i H q, u.oneCell' = true := by
  intro u hu
  obtain ⟨p, _, rfl⟩ := List.mem_map.1 hu
  rfl

theorem own_memT {w : World} {B g n c : Nat} {E : TypeId} {xs : List Value} (h : w.ownsRow B E 1 (.slice (some ⟨g, 0, none⟩) n c) n xs) : g < w.heap.size ∧ (∀ i, w.frozen? ⟨g, i, none⟩ = false) ∧ cellsAt w g 0 xs := by
  refine ⟨(World.ownsRow.lt h g rfl).2, fun i => h.frozenAt i, cellsAt_ofW fun j v hv => ?_⟩
  rw [Nat.zero_add]
  have hj : j < n := by
    have := (List.getElem?_eq_some_iff.1 hv).1
    have := h.1
    omega
  rw [h.cellAt j (by omega), hv]

def LnRel (w : World) (l : List Nd) (i H N G : Nat) (a k : Value) (wr : World) : Prop :=
  ∃ (q : Nat) (kk z : Int), q ≤ H + 1 ∧ k = .int .i64 kk ∧ kk = (q : Int) - 1 ∧ a = .int .i64 z ∧ (1 ≤ q → z = (ancN l i (H + 1 - q) : Int)) ∧ wr.ownsRow G 3 1 (.slice (some ⟨G, 0, none⟩) N N) N (linL l i H q) ∧ Below w.heap.size w wr

set_option maxRecDepth 100000 in
set_option maxHeartbeats 8000000 in
theorem tline_any {B : Nat} {w : World} {g : Nat} {most best : Int} {l : List Nd} (ht : TreeAt B w g most best l) (hw : TW l) (hlen : l.length ≤ 1000) (i : Nat) (hi : i < l.length) :
    Calls Tryd.prog 17 #[.pointer (some ⟨g, 0, none⟩), .int .i64 (i : Int)] w fun e w' => ∃ G, e = .returned (.slice (some ⟨G, 0, none⟩) (htN l i + 1) (htN l i + 1)) ∧ Mem w' [(G, linL l i (htN l i) 0)] ∧ Below w.heap.size w w' := by
  obtain ⟨y, hy⟩ := get_lt hi
  have hyh := htN_of hw hy
  have hy1 := (hw i y hy).ht1
  have hne : l ≠ [] := by rintro rfl; simp at hi
  have HNd := Lib.hid (fun (x : World) (hb : Below w.heap.size w x) => tnode_yes (ht.later hb) i y hy)
  obtain ⟨H, hH⟩ : ∃ H, htN l i = H := ⟨_, rfl⟩
  obtain ⟨N, hN⟩ : ∃ N, H + 1 = N := ⟨_, rfl⟩
  rw [hH] at hyh
  have hN2 : N ≤ 1001 := by omega
  have hw1 : IntKind.i64.wrap ((H : Int) + 1) = (N : Int) := by rw [IntKind.wrap_i64]; omega
  obtain ⟨gr, cap, hc2, hcn⟩ := node_cells ht hne
  have HC2 := Lib.hid hc2
  have HCn := Lib.hid hcn
  have HW := Lib.hid hw
  have HI := Lib.hid (And.intro hi (And.intro hH (And.intro hN hN2)))
  have HY := Lib.hid hyh
  have HGl := Lib.hid (fun b (x : World) (hx : x.heap.size = b) (hb : Below w.heap.size w x) => (show w.heap.size ≤ b from hx ▸ hb.size))
  have hM := Lib.hid (mem_nil w)
  have hB := Below.refl w.heap.size w
  have hF : True := trivial
  have hz : ∀ x : World, (zeroValue 44).run Tryd.prog x = .ok (.agg (ndL nd0).toArray) x := fun x => by kernel_rfl
  rw [hH]
  clear hyh hy1 hne hc2 hcn hy ht hw hi hH hN hlen
  go_enter Tryd.func17, Tryd.ntmps17
  go_wp2_with (first |
    (go_at_call 12; (with_reducible refine (HNd.out _ hB).mono ?_); rintro e w1 ⟨rfl, hb⟩; have hB : Below w.heap.size w w1 := (by refine bl_then ?_ hb; (repeat (first | exact hB | refine bl_al ?_ _ | refine Below.setCell ?_ (by first | exact hgs | exact Nat.le_succ_of_le hgs | exact hgs2 | exact hgs3) _ | refine Below.drew ?_ | refine bl_drewN ?_ _))); (first | with_reducible have hM2 := Mem.later hb (hM.out) | with_reducible have hM2 := Mem.later hb (Mem.al (hM.out) _ _) | with_reducible have hM2 := Mem.later hb (Mem.al (Mem.al (hM.out) _ _) _ _) | with_reducible have hM2 := Mem.later hb (Mem.al (Mem.al (Mem.al (hM.out) _ _) _ _) _ _) | with_reducible have hM2 := Mem.later hb (Mem.al (Mem.al (Mem.al (Mem.al (hM.out) _ _) _ _) _ _) _ _) | with_reducible have hM2 := Mem.later hb (Mem.drew (hM.out)) | with_reducible have hM2 := Mem.later hb (Mem.drew (Mem.al (hM.out) _ _)) | with_reducible have hM2 := Mem.later hb (Mem.al (Mem.drew (hM.out)) _ _) | with_reducible have hM2 := Mem.later hb (Mem.al (Mem.drew (Mem.al (hM.out) _ _)) _ _) | with_reducible have hM2 := Mem.later hb (Mem.drew (Mem.al (Mem.al (hM.out) _ _) _ _)) | with_reducible have hM2 := Mem.later hb (Mem.al (Mem.al (Mem.drew (hM.out)) _ _) _ _) | with_reducible have hM2 := Mem.later hb (Mem.drew (Mem.drew (hM.out))) | with_reducible have hM2 := Mem.later hb (Mem.drew (Mem.al (Mem.drew (hM.out)) _ _)) | with_reducible have hM2 := Mem.later hb (Mem.drew (Mem.al (Mem.al (Mem.al (hM.out) _ _) _ _) _ _)) | with_reducible have hM2 := Mem.later hb (Mem.al (Mem.al (Mem.drew (Mem.al (hM.out) _ _)) _ _) _ _) | with_reducible have hM2 := Mem.later hb (Mem.drew (Mem.al (Mem.drew (Mem.al (hM.out) _ _)) _ _)) | with_reducible have hM2 := Mem.later hb (Mem.al (Mem.al (Mem.al (Mem.al (Mem.al (hM.out) _ _) _ _) _ _) _ _) _ _) | with_reducible have hM2 := Mem.later hb (Mem.al (Mem.al (Mem.al (Mem.al (Mem.al (Mem.al (hM.out) _ _) _ _) _ _) _ _) _ _) _ _) | with_reducible have hM2 := Mem.later hb (Mem.al (Mem.al (Mem.al (Mem.al (Mem.al (Mem.al (Mem.al (hM.out) _ _) _ _) _ _) _ _) _ _) _ _) _ _) | with_reducible have hM2 := Mem.later hb (Mem.al (Mem.al (Mem.al (Mem.al (Mem.al (Mem.al (Mem.al (Mem.al (hM.out) _ _) _ _) _ _) _ _) _ _) _ _) _ _) _ _)); (try simp only [World.size_alloc, size_drew] at hM2); clear hM; have hM := Lib.hid hM2; clear hF; have hF := hM2; (try simp only [Mem, cellsAt, World.size_alloc, Nat.zero_add, Nat.reduceAdd, and_true] at hF); clear hM2; clear hb; clear hF; have hF : True := trivial) |
    ((with_reducible_and_instances refine at_store 5 ?_); refine wpList_store_newV rfl (.tmp 5) (.tmp 13) 44 rfl _ (ndL y) _ Tryd.underlying44 rfl (by rw [ndL_len]; kernel_rfl) (by rw [ndL_len]; rfl) (ndL_one y) rfl (rfl) hM.out ?_; intro W2 hMW hbW; have hBW := bl_then hB hbW; obtain ⟨g8, hg8⟩ : ∃ b, w1.heap.size = b := ⟨_, rfl⟩; rw [hg8] at hMW; simp only [hg8]; clear hg8; clear hM hF hB; have hM := Lib.hid hMW; have hB := hBW; have hF : True := trivial; clear hMW hbW hBW; have ch := cellsAt_get (Mem.get hM.out List.mem_cons_self) (ndL_ht y); rw [← HY.out] at ch) |
    (refine wpList_makeI eltI _ rfl (.tmp 19) rfl N rfl (by omega) ?_; intro w4 hown hgrow; have hb4 := below_grown (Below.refl W2.heap.size W2) hgrow (fun _ h => by cases h); have HOwn := Lib.hid hown; have hM2 := Lib.hid (hM.out.later hb4); have hB2 := bl_then hB hb4; obtain ⟨G, hG⟩ : ∃ b, W2.heap.size = b := ⟨_, rfl⟩; have HGw := HGl.out _ _ hG hB; rw [hG] at HOwn; simp only [hG]; clear hG hown hgrow hb4 hM hB ch; have hM := hM2; have hB := hB2; clear hM2 hB2; have ch := cellsAt_get (Mem.get hM.out List.mem_cons_self) (ndL_ht y); rw [← HY.out] at ch))
  have HB0 := Lib.hid hB
  have e0 := linL_zero l i H
  rw [HI.out.2.2.1] at e0
  rw [← e0] at HOwn
  have HG := Lib.hid HGw
  clear hM hB hF ch hz e0 HGw
  go_loopw [1, 8] (fun a k wr => LnRel w l i H N G a k wr) (fun _ k _ => (intOf k + 1).toNat)
  case atStart => exact ⟨N, H, i, by have := HI.out.2.2.1; omega, rfl, by have := HI.out.2.2.1; omega, rfl, fun _ => by rw [← HI.out.2.2.1, Nat.sub_self]; rfl, HOwn.out, HB0.out⟩
  case round =>
    obtain ⟨q, kk, z, hq, rfl, hkk, rfl, hz, hown, hB⟩ := hrel
    clear HB0 HOwn
    obtain ⟨h1, h2, h3, h4⟩ := HI.out
    cases q with
    | zero =>
      have hk : ¬ 0 ≤ kk := by omega
      have hk2 : kk < 0 := by omega
      have HO := Lib.hid hown
      have HD := Lib.hid (And.intro hkk hq)
      clear hown h1 h2 h3 h4 hkk hq hz
      go_wp2
      go_ret
      refine ⟨G, by rw [HI.out.2.2.1]; rfl, ?_, hB⟩
      exact ⟨own_memT HO.out, trivial⟩
    | succ q =>
      obtain rfl : kk = (q : Int) := by omega
      have hqH : q ≤ H := by omega
      obtain rfl : z = (ancN l i (H - q) : Int) := by rw [hz (by omega)]; congr 2; omega
      obtain ⟨a1, a2⟩ := anc_ok HW.out h1 (H - q) (by omega)
      obtain ⟨a, hae⟩ : ∃ a, ancN l i (H - q) = a := ⟨_, rfl⟩
      rw [hae] at a1 a2 ⊢
      obtain ⟨x, hx⟩ := get_lt a1
      have hk : 0 ≤ (q : Int) := by omega
      have hqN : (q : Int) < (N : Int) := by omega
      have hw2 : IntKind.i64.wrap ((q : Int) - 1) = (q : Int) - 1 := by rw [IntKind.wrap_i64]; omega
      have hcg := hown.cellAt q (by omega)
      obtain ⟨u0, hu0⟩ : ∃ u, (linL l i H (q + 1))[q]? = some u := ⟨_, List.getElem?_eq_getElem (by rw [linL_len]; omega)⟩
      rw [hu0] at hcg
      have hfg := hown.frozenAt q
      have hGw := HG.out
      have hB2 := hB.setCell (p := ⟨G, q, none⟩) hGw (.int .i64 (a : Int))
      have c2 := HC2.out _ hB2
      obtain ⟨cp, _⟩ := HCn.out _ hB2 a x hx
      have hai : (a : Int) < (l.length : Int) := by omega
      have HO := Lib.hid hown
      have HD := Lib.hid (And.intro hqH (And.intro hae (And.intro a1 (And.intro a2 hx))))
      obtain ⟨n, hn⟩ : ∃ n, l.length = n := ⟨_, rfl⟩
      rw [hn] at c2 hai
      clear hown h1 h2 h3 h4 hkk hq hz hqH hae a1 a2 hx hu0 hn
      go_wp2
      obtain ⟨d1, d2, d3, d4, d5⟩ := HD.out
      obtain ⟨h1, h2, h3, h4⟩ := HI.out
      refine ⟨⟨q, (q : Int) - 1, x.par, by omega, rfl, rfl, rfl, ?_, ?_, hB2⟩, by simp only [intOf]; omega⟩
      · intro hq1
        obtain ⟨p1, _, _⟩ := prN_of HW.out d5 (by omega)
        rw [p1, show H + 1 - q = (H - q) + 1 by omega]
        show _ = ((prN l (ancN l i (H - q)) : Nat) : Int)
        rw [d2]
      · rw [← linL_set l i H q d1, d2]
        exact (HO.out.stored q (.int .i64 (a : Int))).1
end Go.Proofs.YtfbhpkhpkaeagaaDoor
