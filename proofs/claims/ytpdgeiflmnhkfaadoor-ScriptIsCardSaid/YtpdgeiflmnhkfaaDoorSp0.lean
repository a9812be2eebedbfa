/- Scripts, the plain side. -/
import Derived.Test.YtpdgeiflmnhkfaaDoorBase
namespace Go.Proofs.YtpdgeiflmnhkfaaDoor
set_option linter.unusedVariables false
set_option linter.unusedSimpArgs false
open Go.RowKit

/-- a step, plainly: kind, peer, number, data -/
structure PS where
  k : Int
  p : Int
  n : Int
  d : List Int
def fitsP (s : PS) : Bool := decide (0 ≤ s.k) && decide (s.k ≤ 9) && (decide (0 ≤ s.p) && decide (s.p ≤ 255)) && (decide (0 ≤ s.n) && decide (s.n ≤ 65535)) && decide ((s.d.length : Int) ≤ 65535)
def headP (s : PS) : List Int := [s.k, s.p, s.n % 256, s.n / 256, (s.d.length : Int) % 256, (s.d.length : Int) / 256]
def putP (l : List PS) : List Int := l.flatMap fun s => if fitsP s then headP s ++ s.d else []
def atP (b : List Int) (i : Nat) : Int := b.getD i 0
def szP (b : List Int) : Nat := min (atP b 4 + 256 * atP b 5).toNat (b.length - 6)
def oneP (b : List Int) : PS := ⟨atP b 0 % 10, atP b 1, atP b 2 + 256 * atP b 3, (b.drop 6).take (szP b)⟩
def getP : Nat → List Int → List PS
  | 0, _ => []
  | _ + 1, [] => []
  | k + 1, b :: bs => oneP (b :: bs) :: getP k ((b :: bs).drop (6 + szP (b :: bs)))

theorem getP_nil (k : Nat) : getP k [] = [] := by cases k <;> rfl
theorem getP_cons (k : Nat) (x : Int) (b : List Int) : getP (k + 1) (x :: b) = oneP (x :: b) :: getP k ((x :: b).drop (6 + szP (x :: b))) := rfl
theorem getP_ne (k : Nat) (b : List Int) (h : 0 < b.length) : getP (k + 1) b = oneP b :: getP k (b.drop (6 + szP b)) := by
  cases b with
  | nil => simp at h
  | cons x b => rfl

theorem fitsP_iff (s : PS) : fitsP s = true ↔ (0 ≤ s.k ∧ s.k ≤ 9) ∧ (0 ≤ s.p ∧ s.p ≤ 255) ∧ (0 ≤ s.n ∧ s.n ≤ 65535) ∧ s.d.length ≤ 65535 := by
  unfold fitsP
  simp only [Bool.and_eq_true, decide_eq_true_eq]
  omega
theorem putP_nil : putP [] = [] := rfl
theorem putP_cons (s : PS) (l : List PS) : putP (s :: l) = (if fitsP s then headP s ++ s.d else []) ++ putP l := by simp [putP]
theorem putP_app (a b : List PS) : putP (a ++ b) = putP a ++ putP b := by simp [putP]
/-- one step, whatever stands behind it -/
theorem getP_put1 (s : PS) (h : fitsP s = true) (k : Nat) (r : List Int) : getP (k + 1) (headP s ++ s.d ++ r) = s :: getP k r := by
  obtain ⟨h1, h2, h3, h4⟩ := (fitsP_iff s).1 h
  have e : headP s ++ s.d ++ r = s.k :: ([s.p, s.n % 256, s.n / 256, (s.d.length : Int) % 256, (s.d.length : Int) / 256] ++ s.d ++ r) := rfl
  rw [e, getP_cons, ← e]
  have hsz : szP (headP s ++ s.d ++ r) = s.d.length := by
    unfold szP atP headP
    simp
    omega
  have hone : oneP (headP s ++ s.d ++ r) = s := by
    unfold oneP
    rw [hsz]
    have hd : ((headP s ++ s.d ++ r).drop 6).take s.d.length = s.d := by
      have : headP s ++ s.d ++ r = headP s ++ (s.d ++ r) := by simp
      rw [this, show (6 : Nat) = (headP s).length from rfl, List.drop_left]
      exact List.take_left
    rw [hd]
    have a0 : atP (headP s ++ s.d ++ r) 0 = s.k := rfl
    have a1 : atP (headP s ++ s.d ++ r) 1 = s.p := rfl
    have a2 : atP (headP s ++ s.d ++ r) 2 = s.n % 256 := rfl
    have a3 : atP (headP s ++ s.d ++ r) 3 = s.n / 256 := rfl
    rw [a0, a1, a2, a3, show s.k % 10 = s.k by omega, show s.n % 256 + 256 * (s.n / 256) = s.n by omega]
  rw [hone, hsz]
  have : headP s ++ s.d ++ r = (headP s ++ s.d) ++ r := by simp
  rw [this, show 6 + s.d.length = (headP s ++ s.d).length by simp [headP]; omega, List.drop_left]
/-- steps that were put, and whatever stands behind them -/
theorem getP_put (l : List PS) (r : List Int) : ∀ k, getP (k + (l.filter fitsP).length) (putP l ++ r) = l.filter fitsP ++ getP k r := by
  induction l with
  | nil => intro k; simp [putP_nil]
  | cons s l ih =>
    intro k
    rw [putP_cons]
    by_cases h : fitsP s = true
    · rw [if_pos h, List.filter_cons_of_pos h, List.length_cons]
      rw [List.append_assoc, ← Nat.add_assoc, getP_put1 s h, ih]
      rfl
    · rw [if_neg h, List.filter_cons_of_neg h, List.nil_append, ih]
theorem getP_all (k : Nat) (l : List PS) (h : l.length ≤ k) : getP k (putP l) = l.filter fitsP := by
  have hl := List.length_filter_le fitsP l
  have := getP_put l [] (k - (l.filter fitsP).length)
  rw [List.append_nil, show k - (l.filter fitsP).length + (l.filter fitsP).length = k by omega] at this
  rw [this]
  rw [getP_nil, List.append_nil]
def bytesP (b : List Int) : Prop := ∀ x ∈ b, 0 ≤ x ∧ x < 256
theorem atP_b {b : List Int} (h : bytesP b) (i : Nat) : 0 ≤ atP b i ∧ atP b i < 256 := by
  unfold atP
  by_cases hi : i < b.length
  · rw [List.getD_eq_getElem?_getD, List.getElem?_eq_getElem hi]
    exact h _ (List.getElem_mem _)
  · rw [List.getD_eq_getElem?_getD, List.getElem?_eq_none (by omega)]
    simp
theorem oneP_fits {b : List Int} (h : bytesP b) : fitsP (oneP b) = true := by
  rw [fitsP_iff]
  have h0 := atP_b h 0
  have h1 := atP_b h 1
  have h2 := atP_b h 2
  have h3 := atP_b h 3
  have h4 := atP_b h 4
  have h5 := atP_b h 5
  unfold oneP
  refine ⟨by simp only; omega, by simp only; omega, by simp only; omega, ?_⟩
  simp only [List.length_take]
  unfold szP
  omega
theorem bytesP_drop {b : List Int} (h : bytesP b) (k : Nat) : bytesP (b.drop k) := fun x hx => h x (List.mem_of_mem_drop hx)
theorem bytesP_take {b : List Int} (h : bytesP b) (k : Nat) : bytesP (b.take k) := fun x hx => h x (List.mem_of_mem_take hx)
/-- every text of bytes is a script -/
theorem getP_fits : ∀ (k : Nat) (b : List Int), bytesP b → ∀ s ∈ getP k b, fitsP s = true
  | 0, b, _, s, hs => by cases hs
  | k + 1, [], _, s, hs => by cases hs
  | k + 1, x :: b, h, s, hs => by
    rw [getP_cons] at hs
    rcases List.mem_cons.1 hs with rfl | hs
    · exact oneP_fits h
    · exact getP_fits k _ (bytesP_drop h _) s hs
theorem getP_len : ∀ (k : Nat) (b : List Int), (getP k b).length ≤ k
  | 0, b => Nat.le_refl _
  | k + 1, [] => Nat.zero_le _
  | k + 1, x :: b => by rw [getP_cons, List.length_cons]; exact Nat.succ_le_succ (getP_len k _)
theorem getP_bytes : ∀ (k : Nat) (b : List Int), bytesP b → ∀ s ∈ getP k b, bytesP s.d
  | 0, b, _, s, hs => by cases hs
  | k + 1, [], _, s, hs => by cases hs
  | k + 1, x :: b, h, s, hs => by
    rw [getP_cons] at hs
    rcases List.mem_cons.1 hs with rfl | hs
    · exact bytesP_take (bytesP_drop h 6) _
    · exact getP_bytes k _ (bytesP_drop h _) s hs
/-- how many bytes steps are -/
def sumP (l : List PS) : Nat := (l.map fun s => 6 + s.d.length).sum
theorem sumP_cons (s : PS) (l : List PS) : sumP (s :: l) = 6 + s.d.length + sumP l := by simp [sumP]
theorem getP_sum : ∀ (k : Nat) (b : List Int), sumP (getP k b) < b.length + 6 ∧ ((getP k b).length = k ∨ b.length ≤ sumP (getP k b))
  | 0, b => ⟨by simp [getP, sumP], .inl rfl⟩
  | k + 1, [] => ⟨by simp [getP, sumP], .inr (by simp)⟩
  | k + 1, x :: b => by
    rw [getP_cons, sumP_cons]
    obtain ⟨h1, h2⟩ := getP_sum k ((x :: b).drop (6 + szP (x :: b)))
    have hd : (oneP (x :: b)).d.length = szP (x :: b) := by
      unfold oneP
      simp only [List.length_take, List.length_drop]
      unfold szP
      omega
    rw [hd]
    rw [List.length_drop] at h1 h2
    have hs : szP (x :: b) ≤ (x :: b).length - 6 := by unfold szP; omega
    have hl : (x :: b).length = b.length + 1 := rfl
    by_cases hb : 6 + szP (x :: b) < (x :: b).length
    · refine ⟨by omega, ?_⟩
      rcases h2 with h2 | h2
      · left; simp [h2]
      · right; omega
    · have he : (x :: b).drop (6 + szP (x :: b)) = [] := List.drop_of_length_le (by omega)
      rw [he, getP_nil]
      refine ⟨by simp [sumP]; omega, .inr (by simp [sumP]; omega)⟩
theorem getP_pos (k : Nat) (b : List Int) : (getP (k + 1) b).length = 0 ↔ b.length = 0 := by
  cases b with
  | nil => simp [getP]
  | cons x b => simp [getP]
theorem filter_all {l : List PS} (h : ∀ s ∈ l, fitsP s = true) : l.filter fitsP = l := List.filter_eq_self.2 h
end Go.Proofs.YtpdgeiflmnhkfaaDoor
