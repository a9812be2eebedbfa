/- florinlaw07: HeaderBytes, the plain side. (hM) -/
import Derived.Test.YtpdgeiflmnhkfaaDoorHd10
import Derived.Test.YtpdgeiflmnhkfaaDoorAndI
import Derived.Laws.BitsAllLaws
namespace Go.Proofs.YtpdgeiflmnhkfaaDoor
set_option linter.unusedVariables false
set_option linter.unusedSimpArgs false
open Go.RowKit

/-- the bytes of a number that was got -/
theorem le4_numB (f : Nat → Int) (at0 : Nat) (hf : ∀ i, 0 ≤ f i ∧ f i < 256) (i : Nat) (hi : i < 4) : le4 (numV f at0 4) i = f (at0 + i) := by
  have h0 := hf at0
  have h1 := hf (at0 + 1)
  have h2 := hf (at0 + 2)
  have h3 := hf (at0 + 3)
  have e : numV f at0 4 = f at0 + f (at0 + 1) * 256 + f (at0 + 2) * 65536 + f (at0 + 3) * 16777216 := by
    show 0 + f (at0 + 0) * 256 ^ 0 + f (at0 + 1) * 256 ^ 1 + f (at0 + 2) * 256 ^ 2 + f (at0 + 3) * 256 ^ 3 = _
    have e1 : (256 : Int) ^ 0 = 1 := by decide
    have e2 : (256 : Int) ^ 1 = 256 := by decide
    have e3 : (256 : Int) ^ 2 = 65536 := by decide
    have e4 : (256 : Int) ^ 3 = 16777216 := by decide
    rw [e1, e2, e3, e4, Nat.add_zero]
    omega
  unfold le4
  rw [e]
  have : i = 0 ∨ i = 1 ∨ i = 2 ∨ i = 3 := by omega
  rcases this with rfl | rfl | rfl | rfl
  · have e0 : f (at0 + 0) = f at0 := rfl
    rw [show (256 : Int) ^ 0 = 1 by decide, e0, Int.ediv_one]; omega
  · rw [show (256 : Int) ^ 1 = 256 by decide]; omega
  · rw [show (256 : Int) ^ 2 = 65536 by decide]; omega
  · rw [show (256 : Int) ^ 3 = 16777216 by decide]; omega
/-- one byte turned -/
def turnF (F : Nat → Int) (a : Nat) : Nat → Int := setF F a (255 - F a)
theorem turnF_at (F : Nat → Int) (a : Nat) : turnF F a a = 255 - F a := by unfold turnF setF; rw [if_pos rfl]
theorem turnF_ne (F : Nat → Int) {a i : Nat} (h : i ≠ a) : turnF F a i = F i := by unfold turnF setF; rw [if_neg h]
theorem turnF_b {F : Nat → Int} (hF : ∀ i, 0 ≤ F i ∧ F i < 256) (a : Nat) (i : Nat) : 0 ≤ turnF F a i ∧ turnF F a i < 256 := by
  by_cases h : i = a
  · subst h
    rw [turnF_at]
    have := hF i
    omega
  · rw [turnF_ne F h]
    exact hF i
set_option maxRecDepth 100000 in
theorem xor_255 : ∀ A : Nat, A < 256 → A ^^^ 255 = 255 - A := by decide +kernel
theorem turn_u8 (x : Int) (h : 0 ≤ x ∧ x < 256) : bits .xor .u8 x 255 = 255 - x := by
  obtain ⟨A, rfl⟩ := Int.eq_ofNat_of_zero_le h.1
  have e := u8_xor_nat A 255 (by omega) (by omega)
  rw [xor_255 A (by omega)] at e
  refine e.trans ?_
  omega
theorem num_turn {F : Nat → Int} (hF : ∀ i, 0 ≤ F i ∧ F i < 256) (at0 a : Nat) (x : Int) (hx : 0 ≤ x ∧ x < 4294967296) (h : ∀ i, i < 4 → F (at0 + i) = le4 x i) : numV (turnF F a) at0 4 = x ↔ ¬ (at0 ≤ a ∧ a < at0 + 4) := by
  constructor
  · intro e hin
    have h1 := le4_numB (turnF F a) at0 (turnF_b hF a) (a - at0) (by omega)
    rw [e, ← h (a - at0) (by omega), show at0 + (a - at0) = a by omega, turnF_at] at h1
    omega
  · intro hno
    exact num_le4 x at0 _ hx fun i hi => by rw [turnF_ne F (by omega)]; exact h i hi
theorem hash_turn {F p : Nat → Int} (at0 a : Nat) (h : ∀ i, i < 32 → F (at0 + i) = p i) : (hl (fun i => turnF F a (at0 + i)) = hl p) ↔ ¬ (at0 ≤ a ∧ a < at0 + 32) := by
  rw [hl_eq]
  constructor
  · intro e hin
    have h1 : turnF F a (at0 + (a - at0)) = p (a - at0) := e (a - at0) (by omega)
    have h2 := h (a - at0) (by omega)
    rw [← h2, show at0 + (a - at0) = a by omega, turnF_at] at h1
    omega
  · intro hno i hi
    show turnF F a (at0 + i) = p i
    rw [turnF_ne F (by omega)]
    exact h i hi
theorem hdF_v (h : Hd) (i : Nat) (hi : i < 4) : hdF h (0 + i) = le4 h.v i := by unfold hdF; rw [Nat.zero_add, if_pos hi]
theorem hdF_p (h : Hd) (i : Nat) (hi : i < 32) : hdF h (4 + i) = h.p i := by unfold hdF; rw [if_neg (by omega), if_pos (by omega), show 4 + i - 4 = i by omega]
theorem hdF_r (h : Hd) (i : Nat) (hi : i < 32) : hdF h (36 + i) = h.r i := by unfold hdF; rw [if_neg (by omega), if_neg (by omega), if_pos (by omega), show 36 + i - 36 = i by omega]
theorem hdF_t (h : Hd) (i : Nat) (hi : i < 4) : hdF h (68 + i) = le4 h.t i := by unfold hdF; rw [if_neg (by omega), if_neg (by omega), if_neg (by omega), if_pos (by omega), show 68 + i - 68 = i by omega]
theorem hdF_bt (h : Hd) (i : Nat) (hi : i < 4) : hdF h (72 + i) = le4 h.b i := by unfold hdF; rw [if_neg (by omega), if_neg (by omega), if_neg (by omega), if_neg (by omega), if_pos (by omega), show 72 + i - 72 = i by omega]
theorem hdF_n (h : Hd) (i : Nat) (hi : i < 4) : hdF h (76 + i) = le4 h.n i := by unfold hdF; rw [if_neg (by omega), if_neg (by omega), if_neg (by omega), if_neg (by omega), if_neg (by omega), show 76 + i - 76 = i by omega]
/-- which parts are the same once a byte is turned -/
structure Turned (h G : Hd) (a : Nat) : Prop where
  v : G.v = h.v ↔ ¬ (a < 4)
  p : hl G.p = hl h.p ↔ ¬ (4 ≤ a ∧ a < 36)
  t : G.t = h.t ↔ ¬ (68 ≤ a ∧ a < 72)
  n : G.n = h.n ↔ ¬ (76 ≤ a)
  e : hdEq G h = false
theorem turned_get {h : Hd} (ho : HdOk h) (a : Nat) (ha : a < 80) : Turned h (getH (turnF (hdF h) a)) a := by
  have hv := num_turn (hdF_b ho) 0 a h.v ho.v (hdF_v h)
  have hp := hash_turn (F := hdF h) (p := h.p) 4 a (hdF_p h)
  have hr := hash_turn (F := hdF h) (p := h.r) 36 a (hdF_r h)
  have ht := num_turn (hdF_b ho) 68 a h.t ho.t (hdF_t h)
  have hb := num_turn (hdF_b ho) 72 a h.b ho.b (hdF_bt h)
  have hn := num_turn (hdF_b ho) 76 a h.n ho.n (hdF_n h)
  refine ⟨hv.trans (by omega), hp, ht, hn.trans (by omega), ?_⟩
  cases he : hdEq (getH (turnF (hdF h) a)) h with
  | false => rfl
  | true =>
    unfold hdEq getH at he
    simp only [Bool.and_eq_true, beq_iff_eq] at he
    obtain ⟨e1, e2, e3, e4, e5, e6⟩ := he
    have a1 := hv.1 e1
    have a2 := hp.1 e2
    have a3 := hr.1 e3
    have a4 := ht.1 e4
    have a5 := hb.1 e5
    have a6 := hn.1 e6
    omega
theorem bits_step (b : Int) (hb : 0 ≤ b ∧ b < 4294967296) (j : Nat) (hj : j < 4) : bits .or .u32 (b / 256 ^ (j + 1) * 256 % 4294967296) (le4 b j) = b / 256 ^ j := by
  have hq : 0 ≤ b / 256 ^ j ∧ b / 256 ^ j < 4294967296 := by
    have hp : (0 : Int) < 256 ^ j := Int.pow_pos (by decide)
    exact ⟨Int.ediv_nonneg hb.1 (Int.le_of_lt hp), Int.lt_of_le_of_lt (Int.ediv_le_self _ hb.1) hb.2⟩
  have e0 : b / 256 ^ (j + 1) = b / 256 ^ j / 256 := by rw [Int.pow_succ, Int.ediv_ediv_of_nonneg (Int.le_of_lt (Int.pow_pos (by decide)))]
  unfold le4
  rw [e0]
  generalize b / 256 ^ j = q at hq
  obtain ⟨Q, rfl⟩ := Int.eq_ofNat_of_zero_le hq.1
  have e1 : (Q : Int) / 256 * 256 % 4294967296 = ((2 ^ 8 * (Q / 256) : Nat) : Int) := by omega
  have e2 : (Q : Int) % 256 = ((Q % 256 : Nat) : Int) := by omega
  rw [e1, e2, u32_or_nat _ _ (by omega) (by omega), ← Nat.two_pow_add_eq_or_of_lt (show Q % 256 < 2 ^ 8 by omega)]
  omega
theorem row_rng {w : World} {b o n c : Nat} {f : Nat → Int} (hc : n ≤ c) (h : w.rangeAt b o (b8l f n)) : Row w (some ⟨b, o, none⟩) n c 1 (bcells f n) :=
  ⟨by rw [bcells_len, Nat.mul_one], hc, (fun h => by cases h), (fun ad ha j u hu => by
    simp only [Option.some.injEq] at ha
    subst ha
    exact ⟨rfl, h j u hu⟩), bcells_one _ _⟩
theorem eql_hash (f : Nat → Int) (w : World) : (binOp .eql 30 (arr32 f) (arr32 f)).run Tryd.prog w = .ok (.bool true) w := by
  have := eqlArr Tryd.prog 32 30 5 .u8 Tryd.underlying30 Tryd.underlying5 (by kernel_rfl) (hl f) (hl f) (hl_len f) (hl_len f) w
  unfold arr32
  rw [hl_cells]
  rw [beq_self_eq_true] at this
  exact this
theorem neq_hash7 (f g : Nat → Int) (b : Bool) (hb : (!(hl f == hl g)) = b) (w : World) : (binOp .neq 30 (arr32 f) (arr32 g)).run Tryd.prog w = .ok (.bool b) w := by
  have := neqArr Tryd.prog 32 30 5 .u8 Tryd.underlying30 Tryd.underlying5 (by kernel_rfl) (hl f) (hl g) (hl_len f) (hl_len g) w
  rw [hb] at this
  unfold arr32
  rw [hl_cells, hl_cells]
  exact this
end Go.Proofs.YtpdgeiflmnhkfaaDoor
