/- Trees of hashes: levels, heights, roots, by plain lists. (hM) Merged: MkP, MkI. -/
import Derived.Test.YtddcceifblpmbaaDoorMk1
import Derived.Test.YtddcceifblpmbaaDoorRfC
import Derived.Shelf.Abstract
import Derived.OwnWalkIn
import Derived.TacticsInMore
import Derived.LoopNIn
import Derived.LoopIn
/- Trees of hashes: levels, heights, roots, by plain lists. -/
namespace Go.Proofs.YtddcceifblpmbaaDoor
set_option linter.unusedVariables false
set_option linter.unusedSimpArgs false
open Go.RowKit

/-- a level -/
def lev (L : List HF) : Nat → List HF
  | 0 => L
  | k + 1 => upL (lev L k)
/-- how wide a level is -/
def wid (n : Nat) : Nat → Nat
  | 0 => n
  | k + 1 => (wid n k + 1) / 2
theorem lev_len (L : List HF) : ∀ k, (lev L k).length = wid L.length k
  | 0 => rfl
  | k + 1 => by rw [lev, upL_len, lev_len L k]; rfl
theorem lev_b {L : List HF} (h : ∀ f ∈ L, HB f) : ∀ k, ∀ f ∈ lev L k, HB f
  | 0 => h
  | _ + 1 => upL_b _
theorem lev_shift (L : List HF) : ∀ k, lev L (k + 1) = lev (upL L) k
  | 0 => rfl
  | k + 1 => by rw [lev, lev_shift L k]; rfl
theorem wid_shift (n : Nat) : ∀ k, wid n (k + 1) = wid ((n + 1) / 2) k
  | 0 => rfl
  | k + 1 => by rw [wid, wid_shift n k]; rfl
theorem wid_pos {n : Nat} (h : 1 ≤ n) : ∀ k, 1 ≤ wid n k
  | 0 => h
  | k + 1 => by have := wid_pos h k; rw [wid]; omega
theorem wid_le (n : Nat) (h : 1 ≤ n) : ∀ k, wid n k ≤ n
  | 0 => Nat.le_refl _
  | k + 1 => by have := wid_le n h k; have := wid_pos h k; rw [wid]; omega
theorem wid_mono {n : Nat} (h : 1 ≤ n) : ∀ k, wid n (k + 1) ≤ wid n k := fun k => by have := wid_pos h k; rw [wid]; omega
theorem wid_one {n k : Nat} (h : wid n k = 1) : ∀ j, wid n (k + j) = 1
  | 0 => h
  | j + 1 => by rw [← Nat.add_assoc, wid, wid_one h j]
/-- the level with one hash -/
def hgt (n : Nat) : Nat := if h : n ≤ 1 then 0 else hgt ((n + 1) / 2) + 1
termination_by n
decreasing_by omega
theorem hgt_le {n : Nat} (h : n ≤ 1) : hgt n = 0 := by rw [hgt, dif_pos h]
theorem hgt_gt {n : Nat} (h : 1 < n) : hgt n = hgt ((n + 1) / 2) + 1 := by rw [hgt, dif_neg (by omega)]
theorem hgt_top : ∀ (m n : Nat), n ≤ m → 1 ≤ n → wid n (hgt n) = 1 := by
  intro m
  induction m with
  | zero => intro n h1 h2; omega
  | succ m ih =>
    intro n h1 h2
    by_cases h : n ≤ 1
    · rw [hgt_le h]; show n = 1; omega
    · rw [hgt_gt (by omega), wid_shift]
      exact ih _ (by omega) (by omega)
theorem wid_top {n : Nat} (h : 1 ≤ n) : wid n (hgt n) = 1 := hgt_top n n (Nat.le_refl _) h
theorem hgt_low : ∀ (m n k : Nat), n ≤ m → k < hgt n → 1 < wid n k := by
  intro m
  induction m with
  | zero => intro n k h1 h2; rw [hgt_le (by omega)] at h2; omega
  | succ m ih =>
    intro n k h1 h2
    by_cases h : n ≤ 1
    · rw [hgt_le h] at h2; omega
    · rw [hgt_gt (by omega)] at h2
      cases k with
      | zero => show 1 < n; omega
      | succ k => rw [wid_shift]; exact ih _ k (by omega) (by omega)
theorem wid_low {n k : Nat} (h : k < hgt n) : 1 < wid n k := hgt_low n n k (Nat.le_refl _) h
theorem hgt_of {n k : Nat} (h1 : 1 ≤ n) (h : ¬ 1 < wid n k) (hk : k ≤ hgt n) : k = hgt n := by
  rcases Nat.lt_or_ge k (hgt n) with h2 | h2
  · exact absurd (wid_low h2) h
  · omega
theorem hgt_small : ∀ (m n : Nat), n ≤ 2 ^ m → hgt n ≤ m := by
  intro m
  induction m with
  | zero => intro n h; rw [hgt_le (by simpa using h)]; omega
  | succ m ih =>
    intro n h
    by_cases h1 : n ≤ 1
    · rw [hgt_le h1]; omega
    · rw [hgt_gt (by omega)]
      have := ih ((n + 1) / 2) (by rw [Nat.pow_succ] at h; omega)
      omega
/-- how many levels a tree has; none where there are no leaves, or too many -/
def levN (n : Nat) : Nat := if n = 0 ∨ 4096 < n then 0 else hgt n + 1
theorem levN_le (n : Nat) : levN n ≤ 13 := by
  unfold levN
  split
  · omega
  · have := hgt_small 12 n (by simp; omega); omega
/-- the root -/
def rootF (L : List HF) : HF := if levN L.length = 0 then zH else (lev L (hgt L.length)).getD 0 zH
/-- are two alike that are paired? -/
def likeAt (L : List HF) (j : Nat) : Prop := 2 * j + 1 < L.length ∧ hl (L.getD (2 * j) zH) = hl (L.getD (2 * j + 1) zH)
def likeL (L : List HF) : Prop := ∃ j, likeAt L j
def likeT (L : List HF) (k : Nat) : Prop := ∃ i, i < k ∧ likeL (lev L i)
/-- what stands beside on the way up -/
def brL (L : List HF) (i : Nat) : Nat → List HF
  | 0 => []
  | k + 1 => brL L i k ++ [(lev L k).getD (sibN (wid L.length k) (i / 2 ^ k)) zH]
def climbF (x : HF) : List HF → Nat → HF
  | [], _ => x
  | o :: r, i => climbF (if i % 2 = 1 then pairF o x else pairF x o) r (i / 2)
theorem climb_snoc (o : HF) : ∀ (r : List HF) (x : HF) (i : Nat), climbF x (r ++ [o]) i = if i / 2 ^ r.length % 2 = 1 then pairF o (climbF x r i) else pairF (climbF x r i) o
  | [], x, i => by simp [climbF]
  | y :: r, x, i => by
    rw [List.cons_append, climbF, climb_snoc o r, climbF, List.length_cons, Nat.pow_succ, Nat.div_div_eq_div_mul, Nat.mul_comm 2]
theorem brL_len (L : List HF) (i : Nat) : ∀ k, (brL L i k).length = k
  | 0 => rfl
  | k + 1 => by rw [brL, List.length_append, brL_len L i k]; rfl
theorem sib_even {n i : Nat} (h : i % 2 = 0) : sibN n i = if i + 1 < n then i + 1 else i := by
  have e : (if i % 2 = 0 then i + 1 else i - 1) = i + 1 := if_pos h
  unfold sibN; rw [e]
theorem sib_odd {n i : Nat} (h : i % 2 = 1) (hi : i < n) : sibN n i = i - 1 := by
  have e : (if i % 2 = 0 then i + 1 else i - 1) = i - 1 := if_neg (by omega)
  unfold sibN; rw [e, if_pos (by omega)]
theorem up_get {L : List HF} {j : Nat} (h : j < (L.length + 1) / 2) : (upL L).getD j zH = upE L j := by rw [List.getD_eq_getElem?_getD, upL_get L j h]; rfl
/-- a leaf climbs to the hash above it -/
theorem climb_lev {L : List HF} {i : Nat} (hi : i < L.length) : ∀ k, climbF (L.getD i zH) (brL L i k) i = (lev L k).getD (i / 2 ^ k) zH ∧ i / 2 ^ k < wid L.length k
  | 0 => by simp [brL, climbF, lev, wid]; exact hi
  | k + 1 => by
    obtain ⟨h1, h2⟩ := climb_lev hi k
    have h3 : i / 2 ^ (k + 1) = i / 2 ^ k / 2 := by rw [Nat.pow_succ, Nat.div_div_eq_div_mul]
    have h4 : i / 2 ^ k / 2 < (wid L.length k + 1) / 2 := by omega
    have hl := lev_len L k
    refine ⟨?_, by rw [h3]; exact h4⟩
    rw [brL, climb_snoc, brL_len, h1, h3, lev, up_get (by rw [hl]; exact h4)]
    unfold upE
    rw [hl]
    generalize i / 2 ^ k = q at *
    by_cases ho : q % 2 = 1
    · rw [if_pos ho, sib_odd ho h2, sib_even (by omega), show 2 * (q / 2) = q - 1 by omega, if_pos (by omega), show q - 1 + 1 = q by omega]
    · rw [if_neg ho, show 2 * (q / 2) = q by omega]
theorem climb_root {L : List HF} {i : Nat} (hi : i < L.length) (hn : L.length ≤ 4096) : climbF (L.getD i zH) (brL L i (hgt L.length)) i = rootF L := by
  obtain ⟨h1, h2⟩ := climb_lev hi (hgt L.length)
  rw [h1]
  have h3 := wid_top (n := L.length) (by omega)
  unfold rootF levN
  rw [if_neg (by rw [if_neg (by omega)]; omega)]
  rw [h3] at h2
  generalize i / 2 ^ hgt L.length = q at *
  rw [show q = 0 by omega]
/-- one more, the last one again: the same tree from the level above on -/
theorem up_dup {L : List HF} (h : L.length % 2 = 1) : upL (L ++ [L.getD (L.length - 1) zH]) = upL L := by
  have hl : 1 ≤ L.length := by omega
  unfold upL
  rw [List.length_append, show (L.length + [L.getD (L.length - 1) zH].length + 1) / 2 = (L.length + 1) / 2 by simp; omega]
  refine List.map_congr_left fun j hj => ?_
  have hj := List.mem_range.1 hj
  have get : ∀ i, i < L.length → (L ++ [L.getD (L.length - 1) zH]).getD i zH = L.getD i zH := fun i hi => by
    rw [List.getD_eq_getElem?_getD, List.getElem?_append_left hi, ← List.getD_eq_getElem?_getD]
  unfold upE
  rw [List.length_append, get (2 * j) (by omega), sib_even (by omega), sib_even (by omega)]
  by_cases hs : 2 * j + 1 < L.length
  · rw [if_pos (by simp; omega), if_pos hs, get _ hs]
  · rw [if_pos (by simp; omega), if_neg hs, show 2 * j = L.length - 1 by omega, show L.length - 1 + 1 = L.length by omega]
    congr 1
    rw [List.getD_eq_getElem?_getD, List.getElem?_append_right (Nat.le_refl _)]
    simp
theorem root_dup {L : List HF} (h : L.length % 2 = 1) (h3 : 2 ≤ L.length) (hn : L.length ≤ 4095) : rootF (L ++ [L.getD (L.length - 1) zH]) = rootF L := by
  have hl : (L ++ [L.getD (L.length - 1) zH]).length = L.length + 1 := by simp
  unfold rootF levN
  rw [hl, if_neg (by rw [if_neg (by omega)]; omega), if_neg (by rw [if_neg (by omega)]; omega), hgt_gt (n := L.length + 1) (by omega), hgt_gt (n := L.length) (by omega),
    show (L.length + 1 + 1) / 2 = (L.length + 1) / 2 by omega, lev_shift, lev_shift, up_dup h]
theorem like_dup {L : List HF} (h : L.length % 2 = 1) : likeL (L ++ [L.getD (L.length - 1) zH]) := by
  refine ⟨L.length / 2, by simp; omega, ?_⟩
  rw [show 2 * (L.length / 2) = L.length - 1 by omega, show L.length - 1 + 1 = L.length by omega]
  congr 1
  have e1 : (L ++ [L.getD (L.length - 1) zH]).getD (L.length - 1) zH = L.getD (L.length - 1) zH := by
    rw [List.getD_eq_getElem?_getD, List.getElem?_append_left (by omega), ← List.getD_eq_getElem?_getD]
  have e2 : (L ++ [L.getD (L.length - 1) zH]).getD L.length zH = L.getD (L.length - 1) zH := by
    rw [List.getD_eq_getElem?_getD, List.getElem?_append_right (Nat.le_refl _), Nat.sub_self]; rfl
  rw [e1, e2]
/-- a tree of twice a power of two is its halves -/
theorem up_app {A B : List HF} (h : A.length % 2 = 0) : upL (A ++ B) = upL A ++ upL B := by
  apply List.ext_getElem?
  intro j
  have hA : A.length = 2 * (A.length / 2) := by omega
  have getL : ∀ i, i < A.length → (A ++ B).getD i zH = A.getD i zH := fun i hi => by
    rw [List.getD_eq_getElem?_getD, List.getD_eq_getElem?_getD, List.getElem?_append_left hi]
  have getR : ∀ i, (A ++ B).getD (A.length + i) zH = B.getD i zH := fun i => by
    rw [List.getD_eq_getElem?_getD, List.getD_eq_getElem?_getD, List.getElem?_append_right (by omega)]
    congr 2; omega
  by_cases hj : j < (A.length + B.length + 1) / 2
  · rw [upL_get (A ++ B) j (by rw [List.length_append]; exact hj)]
    by_cases hjA : j < A.length / 2
    · rw [List.getElem?_append_left (by rw [upL_len]; omega), upL_get A j (by omega)]
      unfold upE
      rw [List.length_append, getL _ (by omega), sib_even (by omega), sib_even (by omega), if_pos (by omega), if_pos (by omega), getL _ (by omega)]
    · obtain ⟨k, rfl⟩ : ∃ k, j = A.length / 2 + k := ⟨j - A.length / 2, by omega⟩
      rw [List.getElem?_append_right (by rw [upL_len]; omega), upL_len, show A.length / 2 + k - (A.length + 1) / 2 = k by omega, upL_get B k (by omega)]
      unfold upE
      rw [List.length_append, show 2 * (A.length / 2 + k) = A.length + 2 * k by omega, getR, sib_even (by omega), sib_even (by omega)]
      by_cases hs : 2 * k + 1 < B.length
      · rw [if_pos (by omega), if_pos hs, show A.length + 2 * k + 1 = A.length + (2 * k + 1) by omega, getR]
      · rw [if_neg (by omega), if_neg hs, getR]
  · rw [List.getElem?_eq_none (by rw [upL_len, List.length_append]; omega), List.getElem?_eq_none (by rw [List.length_append, upL_len, upL_len]; omega)]
theorem lev_app {A B : List HF} : ∀ (k h : Nat), k ≤ h → A.length = 2 ^ h → B.length = 2 ^ h → lev (A ++ B) k = lev A k ++ lev B k ∧ (lev A k).length = 2 ^ (h - k) ∧ (lev B k).length = 2 ^ (h - k)
  | 0, h, _, hA, hB => ⟨rfl, hA, hB⟩
  | k + 1, h, hk, hA, hB => by
    obtain ⟨h1, h2, h3⟩ := lev_app k h (by omega) hA hB
    have e : 2 ^ (h - k) = 2 * 2 ^ (h - (k + 1)) := by rw [show h - k = h - (k + 1) + 1 by omega, Nat.pow_succ, Nat.mul_comm]
    rw [e] at h2 h3
    refine ⟨?_, ?_, ?_⟩
    · rw [lev, h1, up_app (by omega)]; rfl
    · rw [lev, upL_len]; omega
    · rw [lev, upL_len]; omega
theorem hgt_pow : ∀ h, hgt (2 ^ h) = h
  | 0 => hgt_le (Nat.le_refl _)
  | h + 1 => by
    have : 1 ≤ 2 ^ h := Nat.one_le_two_pow
    rw [hgt_gt (by rw [Nat.pow_succ]; omega), show (2 ^ (h + 1) + 1) / 2 = 2 ^ h by rw [Nat.pow_succ]; omega, hgt_pow h]
theorem root_halves {A B : List HF} {h : Nat} (hA : A.length = 2 ^ h) (hB : B.length = 2 ^ h) (hh : h ≤ 11) : rootF (A ++ B) = pairF (rootF A) (rootF B) := by
  obtain ⟨h1, h2, h3⟩ := lev_app h h (Nat.le_refl _) hA hB
  rw [Nat.sub_self, Nat.pow_zero] at h2 h3
  have hp : 1 ≤ 2 ^ h := Nat.one_le_two_pow
  have hp2 : 2 ^ h ≤ 2 ^ 11 := Nat.pow_le_pow_right (by omega) hh
  simp only [Nat.reducePow] at hp2
  have e : (A ++ B).length = 2 ^ (h + 1) := by rw [List.length_append, hA, hB, Nat.pow_succ]; omega
  unfold rootF levN
  rw [e, hA, hB, if_neg (by rw [if_neg (by rw [Nat.pow_succ]; omega)]; omega), if_neg (by rw [if_neg (by omega)]; omega), if_neg (by rw [if_neg (by omega)]; omega), hgt_pow, hgt_pow, lev, h1,
    up_get (by rw [List.length_append]; omega)]
  unfold upE
  rw [List.length_append, h2, h3, sib_even (by omega), if_pos (by omega)]
  congr 1
  · rw [List.getD_eq_getElem?_getD, List.getElem?_append_left (by omega), ← List.getD_eq_getElem?_getD]
  · rw [List.getD_eq_getElem?_getD, List.getElem?_append_right (by omega), h2, ← List.getD_eq_getElem?_getD]
end Go.Proofs.YtddcceifblpmbaaDoor

/- merkle.levels: what its iterator gives, round by round. (hM) -/
namespace Go.Proofs.YtddcceifblpmbaaDoor
set_option linter.unusedVariables false
set_option linter.unusedSimpArgs false
open Go.RowKit Go.Shelf
attribute [local go_sem] Oper.semAt_some

/-- a level as it is handed on -/
def VL (L : List HF) (k : Nat) (v : Value) (W : World) : Prop := ∃ ao n c, v = .slice ao n c ∧ Row W ao n c 32 (hsL (lev L k))
/-- the first one is the argument; each other one is new -/
def FL (v0 : Value) (k : Nat) (v : Value) (B : Nat) : Prop := (k = 0 ∧ v = v0) ∨ ∃ ao n c, v = .slice ao n c ∧ ∀ ad, ao = some ad → B ≤ ad.block
def BL (X Y : World) : Prop := Below X.heap.size X Y
theorem VL.book {L : List HF} (B : Nat) (k : Nat) (v : Value) (X Y : World) (h : VL L k v X) (hb : Book B X Y) : VL L k v Y := by
  obtain ⟨ao, n, c, e, hr⟩ := h
  exact ⟨ao, n, c, e, hr.book hb⟩
/-- what the loop of the iterator carries -/
def LvRel (wl : World) (L : List HF) (m : Nat) (v0 : Value) (J : Nat → World → Prop) (p : Value) (wr : World) : Prop :=
  ∃ (k : Nat) (W0 : World), k ≤ hgt m ∧ VL L k p wr ∧ J k W0 ∧ Below W0.heap.size W0 wr ∧ FL v0 k p W0.heap.size ∧ Below wl.heap.size wl wr

set_option maxRecDepth 100000 in
set_option maxHeartbeats 4000000 in
theorem levels_rounds (n : Nat) (wl : World) (hT : Tab wl) (ao : Option Addr) (m c : Nat) (L : List HF) (hr : Row wl ao m c 32 (hsL L)) (hL : ∀ f ∈ L, HB f) (w0 : World) (hb : Below wl.heap.size wl w0) (Bx : Nat) (hbx : Bx < w0.heap.size)
    (hc : w0.cell? ⟨Bx, 0, none⟩ = some (.slice ao m c)) : Rounds n Tryd.prog 103 #[.pointer (some ⟨Bx, 0, none⟩)] wl.heap.size (levN m) (VL L) (FL (.slice ao m c)) BL w0 := by
  intro l J W hW hY h0
  have hlm := hs_len hr
  have hcW := (hW.cell (p := ⟨Bx, 0, none⟩) hbx).trans hc
  have HY := Lib.hid hY
  have H0 := Lib.hid h0
  have HL := Lib.hid hL
  have HT := Lib.hid hT
  have HLm := Lib.hid hlm
  have hbW : Below wl.heap.size wl W := hb.trans (hW.mono hb.size)
  have HR := Lib.hid (hr.later hbW)
  clear hY h0 hL hT hlm hr hc
  refine callsIn_of_wp Tryd.func103 rfl trivial ?_ rfl
  simp only [Tryd.ntmps103, List.size_toArray, List.length_cons, List.length_nil, Nat.reduceAdd, Nat.reduceSub, Array.replicate_succ, Array.replicate_zero, List.push_toArray, List.append_toArray, List.nil_append, List.cons_append]
  by_cases hm0 : m = 0
  · have hz : levN m = 0 := by unfold levN; rw [if_pos (.inl hm0)]
    rw [hz]
    clear hz
    subst hm0
    gi_wp2
    refine bodyPost_ret (results_none rfl _ _ _) rfl ?_
    exact ⟨⟨_, rfl⟩, W, H0.out, Below.refl _ _⟩
  by_cases hm1 : 4096 < m
  · have hz : levN m = 0 := by unfold levN; rw [if_pos (.inr hm1)]
    rw [hz]
    clear hz
    have e0 : ((m : Int) == 0) = false := by simp; omega
    have e1 : (4096 : Int) < (m : Int) := by omega
    have e2 : ¬ (m : Int) = 0 := by omega
    clear hm0 hm1
    gi_wp2
    refine bodyPost_ret (results_none rfl _ _ _) rfl ?_
    exact ⟨⟨_, rfl⟩, W, H0.out, Below.refl _ _⟩
  have hz : levN m = hgt m + 1 := by unfold levN; rw [if_neg (by omega)]
  rw [hz] at HY ⊢
  have HZ := Lib.hid hz
  have HM0 := Lib.hid hm0
  have HM1 := Lib.hid hm1
  have e0 : ((m : Int) == 0) = false := by simp; omega
  have e1 : ¬ (4096 : Int) < (m : Int) := by omega
  have e2 : ¬ (m : Int) = 0 := by omega
  clear hm0 hm1 hz
  gi_wp2
  gi_loopw [3] (fun p wr => LvRel wl L m (.slice ao m c) J p wr) (fun p _ => slLen p)
  case atStart => exact ⟨0, W, Nat.zero_le _, ⟨ao, m, c, rfl, HR.out⟩, H0.out, Below.refl _ _, .inl ⟨rfl, rfl⟩, hbW⟩
  case round =>
    obtain ⟨k, W0, hk, ⟨ao, q, cq, rfl, hrow⟩, hj, hb0, hf, hbl⟩ := hrel
    have hql : q = wid m k := by have := hs_len hrow; rw [lev_len, HLm.out] at this; exact this.symm
    have hVk : VL L k (.slice ao q cq) wr := ⟨ao, q, cq, rfl, hrow⟩
    have hy0 := HY.out k (.slice ao q cq) W0 wr (by omega) hj hb0 hVk hf
    have HQ := Lib.hid hql
    have HK := Lib.hid hk
    clear hj hb0 hf hVk hrow hql hk
    obtain ⟨fn, tmps, assign, body, hy, hR⟩ := hy0
    by_cases h1 : 1 < q
    · have e3 : (1 : Int) < (q : Int) := by omega
      gi_wp2
      refine ⟨fun h => (by cases h), hR.mono ?_⟩
      rintro e W3 ⟨rfl, hJ3, ⟨ao3, q3, c3, e33, hrow3⟩, hb3⟩
      simp only [Value.slice.injEq] at e33
      obtain ⟨rfl, rfl, rfl⟩ := e33
      have hbl3 := hbl.trans hb3
      have hab := above_any ao q cq (lev L k) W3 (HT.out.later hbl3) hrow3 (lev_b HL.out k) (by have := HQ.out; have := HM0.out; have := HM1.out; have := wid_le m (by omega) k; omega)
      have HAb := Lib.hid hab
      have HJ3 := Lib.hid hJ3
      clear hab hrow3 hR hy hJ3
      gi_wp2_with (refine ⟨trivial, fun h => (by cases h), ?_⟩; refine (callsIn_wide.2 HAb.out).mono ?_; rintro e W4 ⟨lo4, m4, c4, rfl, hm4, ho4, hb4⟩; have HO4 := Lib.hid ho4; have HM4 := Lib.hid hm4; clear ho4 hm4)
      go_roundw
      case rel =>
        refine ⟨k + 1, W3, ?_, ⟨lo4, m4, c4, rfl, HO4.out.row (hsL_one _)⟩, HJ3.out, hb4, .inr ⟨lo4, m4, c4, rfl, fun ad ha => ?_⟩, hbl3.trans (hb4.mono hbl3.size)⟩
        · rcases Nat.lt_or_ge k (hgt m) with h | h
          · omega
          · have := HQ.out
            have e : k = hgt m := by have := HK.out; omega
            rw [e, wid_top (by have := HM0.out; omega)] at this
            omega
        · subst ha
          rcases HO4.out with ⟨h, _⟩ | ⟨g, h1, h2⟩
          · cases h
          · cases h1; exact (h2.lt g rfl).1
      case measure => have := HM4.out; simp only [slLen]; omega
    · have e3 : ¬ (1 : Int) < (q : Int) := by omega
      have hkt : k = hgt m := hgt_of (by have := HM0.out; omega) (by rw [← HQ.out]; exact h1) HK.out
      have HKt := Lib.hid hkt
      clear hkt
      gi_wp2
      refine ⟨fun h => (by cases h), hR.mono ?_⟩
      rintro e W3 ⟨rfl, hJ3, _, hb3⟩
      have HJ3 := Lib.hid hJ3
      clear hJ3
      gi_wp2
      go_end0
      exact ⟨⟨_, rfl⟩, W3, by rw [← HKt.out]; exact HJ3.out, Below.refl _ _⟩
/-- levels: the function value captures a box of the leaves -/
theorem levels_any (ao : Option Addr) (m c : Nat) (w : World) : Calls Tryd.prog 84 #[.slice ao m c] w fun e w' =>
    e = .returned (.func (.func 103) #[] #[.pointer (some ⟨w.heap.size, 0, none⟩)]) ∧ w' = w.alloc (.cells #[.slice ao m c] 60) := by
  go_enter Tryd.func84, Tryd.ntmps84
  go_wp2
  go_ret
  exact ⟨rfl, rfl⟩
end Go.Proofs.YtddcceifblpmbaaDoor
