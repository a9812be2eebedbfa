/- Package u256: Bytes. (hM) Merged: By1, By2, By3, By4. -/
import Derived.Test.YtfbhpkhpkaeagaaDoorMm
/- Package u256: Bytes. (hM) -/
namespace Go.Proofs.YtfbhpkhpkaeagaaDoor
set_option linter.unusedVariables false
set_option linter.unusedSimpArgs false
open Go.RowKit

/-- a number's byte -/
def byteN (N : Int) (i : Nat) : Int := N / 256 ^ i % 256
/-- bytes as cells -/
def b8l (f : Nat → Int) (n : Nat) : List Value := (List.range n).map fun i => .int .u8 (f i)
theorem b8l_len (f : Nat → Int) (n : Nat) : (b8l f n).length = n := by simp [b8l]
theorem b8l_get (f : Nat → Int) (n i : Nat) (h : i < n) : (b8l f n)[i]? = some (.int .u8 (f i)) := by simp [b8l, h]
theorem b8l_one (f : Nat → Int) (n : Nat) : ∀ u ∈ b8l f n, u.oneCell' = true := by
  intro u hu
  simp only [b8l, List.mem_map] at hu
  obtain ⟨x, _, rfl⟩ := hu
  rfl
theorem b8l_congr {f g : Nat → Int} {n : Nat} (h : ∀ i, i < n → f i = g i) : b8l f n = b8l g n := by
  unfold b8l
  refine List.map_congr_left fun i hi => ?_
  rw [h i (List.mem_range.1 hi)]
theorem b8l_set (f : Nat → Int) (n j : Nat) (v : Int) : (b8l f n).set j (.int .u8 v) = b8l (setF f j v) n := bcells_set f n j v
/-- 32 bytes as a value -/
abbrev arr32 (f : Nat → Int) : Value := .agg (b8l f 32).toArray
theorem byte_of {a0 a1 a2 a3 : Int} (ha : B4 a0 a1 a2 a3) (j : Nat) (hj : j < 32) : IntKind.u8.wrap (limbN a0 a1 a2 a3 (j / 8) / 2 ^ (j % 8 * 8)) = byteN (N4 a0 a1 a2 a3) j := by
  obtain ⟨rest, hrest, he⟩ := limb_split ha (j / 8) (by omega)
  obtain ⟨q, hq⟩ : ∃ q, j / 8 = q := ⟨_, rfl⟩
  obtain ⟨r, hr⟩ : ∃ r, j % 8 = r := ⟨_, rfl⟩
  have hr8 : r < 8 := by omega
  have hjr : j = 8 * q + r := by omega
  rw [hq, hr]
  rw [hq] at he
  unfold byteN
  have e1 : (256 : Int) ^ j = 2 ^ (64 * q) * 2 ^ (r * 8) := by
    rw [show (256 : Int) = 2 ^ 8 by decide, ← Int.pow_mul, ← Int.pow_add]
    congr 1
    omega
  have hp := two_pow_pos (r * 8)
  rw [e1, ← Int.ediv_ediv_of_nonneg (Int.le_of_lt (two_pow_pos _)), he]
  obtain ⟨m, hm⟩ : ∃ m, 8 = r + 1 + m := ⟨7 - r, by omega⟩
  have e2 : WI * rest = 2 ^ (r * 8) * (256 * (2 ^ (m * 8) * rest)) := by
    rw [WI_eq, show (18446744073709551616 : Int) = 2 ^ (r * 8) * (256 * 2 ^ (m * 8)) by
      rw [show (256 : Int) = 2 ^ 8 by decide, ← Int.pow_add, ← Int.pow_add]
      rw [show r * 8 + (8 + m * 8) = 64 by omega]
      decide]
    simp only [Int.mul_assoc]
  rw [e2, Int.add_mul_ediv_left _ _ (Int.ne_of_gt hp)]
  show (limbN a0 a1 a2 a3 q / 2 ^ (r * 8)) % 256 = _
  omega

theorem bl_setCells {a : World} {b : Nat} (hb : a.heap.size ≤ b) : ∀ (vs : List Value) (o : Nat) (w : World), Below a.heap.size a w → Below a.heap.size a (w.setCells b o vs)
  | [], _, _, h => h
  | v :: r, o, w, h => by
    rw [World.setCells]
    exact bl_setCells hb r (o + 1) _ (h.setCell (p := ⟨b, o, none⟩) hb _)
/-- the relation of Bytes' loop -/
def ByteRel (w : World) (a0 a1 a2 a3 : Int) (i : Value) (wr : World) : Prop :=
  ∃ (j : Nat) (f : Nat → Int), j ≤ 32 ∧ i = .int .i64 j ∧ (∀ k, k < j → f (31 - k) = byteN (N4 a0 a1 a2 a3) k) ∧ Below w.heap.size w wr ∧
    Mem wr [(w.heap.size + 1 + 1, b8l f 32), (w.heap.size + 1, b8l (fun _ => 0) 32), (w.heap.size, [.int .u64 a0, .int .u64 a1, .int .u64 a2, .int .u64 a3])]

end Go.Proofs.YtfbhpkhpkaeagaaDoor

/- Package u256: FromBytes. (hM) -/
namespace Go.Proofs.YtfbhpkhpkaeagaaDoor
set_option linter.unusedVariables false
set_option linter.unusedSimpArgs false
open Go.RowKit

/-- the lowest j bytes of n, told -/
def accV (f : Nat → Int) (n : Nat) : Nat → Int
  | 0 => 0
  | j + 1 => accV f n j + f (n - 1 - j) * 256 ^ j
theorem accV_b (f : Nat → Int) (n : Nat) (hf : ∀ i, 0 ≤ f i ∧ f i < 256) : ∀ j, 0 ≤ accV f n j ∧ accV f n j < 256 ^ j
  | 0 => by simp [accV]
  | j + 1 => by
    have h := accV_b f n hf j
    have hb := hf (n - 1 - j)
    have hp : (0 : Int) < 256 ^ j := Int.pow_pos (by decide)
    have h1 : 0 ≤ f (n - 1 - j) * 256 ^ j := Int.mul_nonneg hb.1 (Int.le_of_lt hp)
    have h2 : f (n - 1 - j) * 256 ^ j ≤ 255 * 256 ^ j := Int.mul_le_mul_of_nonneg_right (by omega) (Int.le_of_lt hp)
    unfold accV
    rw [Int.pow_succ]
    omega
/-- four parts as cells -/
def l4 (c : Nat → Int) : List Value := (List.range 4).map fun k => .int .u64 (c k)
theorem l4_get (c : Nat → Int) (i : Nat) (h : i < 4) : (l4 c)[i]? = some (.int .u64 (c i)) := by simp [l4, h]
theorem l4_set (c : Nat → Int) (q : Nat) (v : Int) : (l4 c).set q (.int .u64 v) = l4 (setF c q v) := by
  apply List.ext_getElem
  · simp [l4]
  · intro i h1 h2
    by_cases hq : i = q
    · subst hq; simp [l4, setF]
    · have : ¬ q = i := fun h => hq h.symm
      simp [l4, setF, List.getElem_set, this, hq]
def nF (c : Nat → Int) : Int := N4 (c 0) (c 1) (c 2) (c 3)
def bF (c : Nat → Int) : Prop := ∀ k, 0 ≤ c k ∧ c k < WI
theorem bF.b4 {c : Nat → Int} (h : bF c) : B4 (c 0) (c 1) (c 2) (c 3) := ⟨h 0, h 1, h 2, h 3⟩
theorem limb_nF (c : Nat → Int) (q : Nat) (hq : q < 4) : limbN (c 0) (c 1) (c 2) (c 3) q = c q := by
  have : q = 0 ∨ q = 1 ∨ q = 2 ∨ q = 3 := by omega
  rcases this with rfl | rfl | rfl | rfl <;> rfl
/-- one byte more -/
theorem byte_step (c : Nat → Int) (hc : bF c) (j : Nat) (hj : j < 32) (hn : nF c < 256 ^ j) (y : Int) (hy : 0 ≤ y ∧ y < 256) :
    ∃ z, bits .or .u64 (c (j / 8)) (IntKind.u64.wrap (y * 2 ^ (j % 8 * 8))) = z ∧ (0 ≤ z ∧ z < WI) ∧ nF (setF c (j / 8) z) = nF c + y * 256 ^ j := by
  obtain ⟨rest, hrest, he⟩ := limb_split hc.b4 (j / 8) (by omega)
  rw [limb_nF c _ (by omega)] at he
  have hnn := hc.b4.nn
  obtain ⟨q, hq⟩ : ∃ q, j / 8 = q := ⟨_, rfl⟩
  obtain ⟨r, hr⟩ : ∃ r, j % 8 = r := ⟨_, rfl⟩
  rw [hq] at he ⊢
  rw [hr]
  have e1 : (256 : Int) ^ j = 2 ^ (64 * q) * 2 ^ (r * 8) := by
    rw [show (256 : Int) = 2 ^ 8 by decide, ← Int.pow_mul, ← Int.pow_add]
    congr 1
    omega
  have hp := two_pow_pos (r * 8)
  have hlt : c q < 2 ^ (r * 8) := by
    have h1 : N4 (c 0) (c 1) (c 2) (c 3) / 2 ^ (64 * q) < 2 ^ (r * 8) := by
      rw [Int.ediv_lt_iff_lt_mul (two_pow_pos _), Int.mul_comm, ← e1]
      exact hn
    have h2 : 0 ≤ WI * rest := Int.mul_nonneg (by decide) hrest
    omega
  have hle : 2 ^ (r * 8) * 256 ≤ WI := by
    rw [WI_eq, show (18446744073709551616 : Int) = 2 ^ 64 by decide, show (256 : Int) = 2 ^ 8 by decide, ← Int.pow_add]
    exact pow2_le (by omega)
  have hyp : 0 ≤ 2 ^ (r * 8) * y ∧ 2 ^ (r * 8) * y + 2 ^ (r * 8) ≤ WI := by
    have h1 := Int.mul_nonneg (Int.le_of_lt hp) hy.1
    have h2 := Int.mul_le_mul_of_nonneg_left (show y + 1 ≤ 256 by omega) (Int.le_of_lt hp)
    rw [Int.mul_add, Int.mul_one] at h2
    omega
  have hw : IntKind.u64.wrap (y * 2 ^ (r * 8)) = 2 ^ (r * 8) * y := by
    rw [IntKind.wrap_u64, Int.mul_comm]
    refine Int.emod_eq_of_lt hyp.1 ?_
    have := hyp.2
    unfold WI at this
    omega
  have hor := or_add y (r * 8) (c q) ⟨(hc q).1, hlt⟩ ⟨hyp.1, by omega⟩ (by omega)
  refine ⟨2 ^ (r * 8) * y + c q, ?_, ⟨by have := (hc q).1; omega, by omega⟩, ?_⟩
  · rw [hw, or_swap _ _ (hc q) ⟨hyp.1, by omega⟩]
    exact hor
  · rw [e1, show y * (2 ^ (64 * q) * 2 ^ (r * 8)) = 2 ^ (64 * q) * (2 ^ (r * 8) * y) by ac_rfl]
    generalize 2 ^ (r * 8) * y = P
    have : q = 0 ∨ q = 1 ∨ q = 2 ∨ q = 3 := by omega
    rcases this with rfl | rfl | rfl | rfl
    · simp [nF, setF]
      rw [Int.add_comm P, n4_dig0]
    · simp only [nF, setF]
      rw [show (2 : Int) ^ (64 * 1) = WI by decide]
      simp
      rw [Int.add_comm P, n4_dig1]
    · simp only [nF, setF]
      rw [show (2 : Int) ^ (64 * 2) = WI * WI by decide]
      simp
      rw [Int.add_comm P, n4_dig2]
    · simp only [nF, setF]
      rw [show (2 : Int) ^ (64 * 3) = WI * WI * WI by decide]
      simp
      rw [Int.add_comm P, n4_dig3]

def FromRel (w : World) (f : Nat → Int) (n : Nat) (i : Value) (wr : World) : Prop :=
  ∃ (j : Nat) (c : Nat → Int), j ≤ n ∧ i = .int .i64 j ∧ bF c ∧ nF c = accV f n j ∧ Below w.heap.size w wr ∧ Mem wr [(w.heap.size + 1, l4 c), (w.heap.size, [.int .u64 0, .int .u64 0, .int .u64 0, .int .u64 0])]

end Go.Proofs.YtfbhpkhpkaeagaaDoor

/- slices.Reverse of 32 bytes in a box. (hM) -/
namespace Go.Proofs.YtfbhpkhpkaeagaaDoor
set_option linter.unusedVariables false
set_option linter.unusedSimpArgs false
open Go.RowKit

/-- turned as far as i from both ends -/
def revF (f : Nat → Int) (i : Nat) : Nat → Int := fun k => if k < i ∨ 31 - i < k then f (31 - k) else f k
theorem revF_step (f : Nat → Int) (i : Nat) (hi : i < 16) : b8l (setF (setF (revF f i) i (revF f i (31 - i))) (31 - i) (revF f i i)) 32 = b8l (revF f (i + 1)) 32 := by
  refine b8l_congr fun k hk => ?_
  unfold setF revF
  by_cases h1 : k = 31 - i
  · rw [if_pos h1, if_neg (by omega), if_pos (by omega)]
    congr 1
    omega
  · rw [if_neg h1]
    by_cases h2 : k = i
    · rw [if_pos h2, if_neg (by omega), if_pos (by omega)]
      congr 1
      omega
    · rw [if_neg h2]
      by_cases h3 : k < i ∨ 31 - i < k
      · rw [if_pos h3, if_pos (by omega)]
      · rw [if_neg h3, if_neg (by omega)]
theorem revF_end (f : Nat → Int) : b8l (revF f 16) 32 = b8l (fun k => f (31 - k)) 32 := b8l_congr fun k hk => by
  unfold revF
  rw [if_pos (by omega)]

def RevRel (B g : Nat) (f : Nat → Int) (L : List (Nat × List Value)) (w : World) (i j : Value) (wr : World) : Prop :=
  ∃ m : Nat, m ≤ 16 ∧ i = .int .i64 m ∧ j = .int .i64 ((31 : Int) - m) ∧ Mem wr ((g, b8l (revF f m) 32) :: L) ∧ Below B w wr

end Go.Proofs.YtfbhpkhpkaeagaaDoor

/- Package hash: turned, Number, FromNumber. (hM) -/
namespace Go.Proofs.YtfbhpkhpkaeagaaDoor
set_option linter.unusedVariables false
set_option linter.unusedSimpArgs false
open Go.RowKit

theorem cellsAt_of {w : World} {b : Nat} : ∀ {vs : List Value} {i : Nat}, (∀ j v, vs[j]? = some v → w.cell? ⟨b, i + j, none⟩ = some v) → cellsAt w b i vs
  | [], _, _ => trivial
  | u :: r, i, h => ⟨h 0 u rfl, cellsAt_of fun j v hv => by
    have := h (j + 1) v (by simpa using hv)
    rwa [show i + (j + 1) = i + 1 + j by omega] at this⟩
/-- a box, made and filled -/
theorem store_box {w : World} {L : List (Nat × List Value)} (hm : Mem w L) (z vs : List Value) (T : TypeId) (hz : z.length = vs.length) : Mem ((w.alloc (.cells z.toArray T)).setCells w.heap.size 0 vs) ((w.heap.size, vs) :: L) := by
  have hth : (w.alloc (.cells z.toArray T)).there w.heap.size 0 vs.length := fun j hj => by
    rw [Nat.zero_add]
    refine ⟨?_, by simp⟩
    rw [World.cell?_alloc_new]
    simp [hz, hj]
  have hb : Below w.heap.size w ((w.alloc (.cells z.toArray T)).setCells w.heap.size 0 vs) := bl_setCells (Nat.le_refl _) vs 0 _ (below_alloc w _)
  have hr := World.rangeAt_setCells_same (w.alloc (.cells z.toArray T)) w.heap.size 0 vs hth
  refine ⟨⟨?_, fun i => by rw [World.frozen?_setCells]; simp, cellsAt_of fun j v h => hr j v h⟩, Mem.later hb hm⟩
  have h1 : (w.alloc (.cells z.toArray T)).heap.size ≤ ((w.alloc (.cells z.toArray T)).setCells w.heap.size 0 vs).heap.size := by
    have := bl_setCells (a := w.alloc (.cells z.toArray T)) (b := w.heap.size) 
    clear this
    have key : ∀ (us : List Value) (o : Nat) (x : World), x.heap.size ≤ (x.setCells w.heap.size o us).heap.size := by
      intro us
      induction us with
      | nil => intro o x; exact Nat.le_refl _
      | cons u r ih =>
        intro o x
        rw [World.setCells]
        exact Nat.le_trans (by simp) (ih (o + 1) _)
    exact key vs 0 _
  rw [World.size_alloc] at h1
  omega
theorem there_of {w : World} {b n : Nat} {vs : List Value} (h : b < w.heap.size ∧ (∀ i, w.frozen? ⟨b, i, none⟩ = false) ∧ cellsAt w b 0 vs) (hl : vs.length = n) : w.there b 0 n := fun j hj => by
  rw [Nat.zero_add]
  refine ⟨?_, h.2.1 j⟩
  rw [cellsAt_get h.2.2 (List.getElem?_eq_getElem (by omega))]
  rfl
theorem row_of {w : World} {b n : Nat} {f : Nat → Int} (h : cellsAt w b 0 (b8l f n)) : Row w (some ⟨b, 0, none⟩) n n 1 (b8l f n) :=
  ⟨by rw [b8l_len, Nat.mul_one], Nat.le_refl _, fun h => (by cases h), fun ad ha i u hu => by
    simp only [Option.some.injEq] at ha
    subst ha
    refine ⟨rfl, ?_⟩
    rw [Nat.zero_add]
    exact cellsAt_get h hu, b8l_one f n⟩

end Go.Proofs.YtfbhpkhpkaeagaaDoor
