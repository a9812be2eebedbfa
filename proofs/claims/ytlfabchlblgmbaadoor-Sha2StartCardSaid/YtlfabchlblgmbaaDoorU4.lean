/- Package u256: Hex. -/
import Derived.Test.YtlfabchlblgmbaaDoorU3
import Derived.Test.YtlfabchlblgmbaaDoorBuf
namespace Go.Proofs.YtlfabchlblgmbaaDoor
set_option linter.unusedVariables false
set_option linter.unusedSimpArgs false
open Go.RowKit

def limbN (a0 a1 a2 a3 : Int) (k : Nat) : Int := match k with | 0 => a0 | 1 => a1 | 2 => a2 | _ => a3
/-- the i-th digit of sixteen, the lowest first -/
def nibN (a0 a1 a2 a3 : Int) (i : Nat) : Int := limbN a0 a1 a2 a3 (i / 16) / 2 ^ (i % 16 * 4) % 16
def hexd (d : Int) : Int := if d < 10 then 48 + d else 87 + d
def hexLenN (L : Int) : Int := max ((L + 3) / 4) 1

theorem u64_and15 (x : Int) (h : 0 ≤ x ∧ x < WI) : bits .and .u64 x 15 = x % 16 := by
  obtain ⟨X, rfl⟩ := Int.eq_ofNat_of_zero_le h.1
  have e := u64_and_nat X 15 (by unfold WI at h; omega) (by decide)
  have e2 : X &&& 15 = X % 16 := Nat.and_two_pow_sub_one_eq_mod X 4
  rw [e2] at e
  exact e

theorem eltU8 : Elt Tryd.prog 22 5 (.int .u8 0) 1 1 := ⟨Tryd.underlying22, by kernel_rfl, rfl, by decide, by decide⟩
theorem limb_le {a0 a1 a2 a3 : Int} (h : 0 ≤ a0 ∧ a0 < WI ∧ 0 ≤ a1 ∧ a1 < WI ∧ 0 ≤ a2 ∧ a2 < WI ∧ 0 ≤ a3 ∧ a3 < WI) (k : Nat) : 0 ≤ limbN a0 a1 a2 a3 k ∧ limbN a0 a1 a2 a3 k < WI := by
  obtain ⟨h0, h1, h2, h3, h4, h5, h6, h7⟩ := h
  unfold limbN
  split <;> constructor <;> assumption
theorem div_le {x : Int} (h : 0 ≤ x ∧ x < WI) (k : Nat) : 0 ≤ x / 2 ^ k ∧ x / 2 ^ k < WI := by
  have hp : (0 : Int) < 2 ^ k := Int.pow_pos (by decide)
  exact ⟨Int.ediv_nonneg h.1 (by omega), Int.lt_of_le_of_lt (Int.ediv_le_self _ h.1) h.2⟩
theorem hex_tab16 : ∀ d : Fin 16, ((({ data := #[48, 49, 50, 51, 52, 53, 54, 55, 56, 57, 97, 98, 99, 100, 101, 102] } : ByteArray)[d.val]'(by have := d.isLt; exact this)).toNat : Int) = hexd (d.val : Int) := by decide +kernel
theorem hex_tab (d : Int) (h : 0 ≤ d ∧ d < 16) (h' : d.toNat < ({ data := #[48, 49, 50, 51, 52, 53, 54, 55, 56, 57, 97, 98, 99, 100, 101, 102] } : ByteArray).size) :
    ((({ data := #[48, 49, 50, 51, 52, 53, 54, 55, 56, 57, 97, 98, 99, 100, 101, 102] } : ByteArray)[d.toNat]'h').toNat : Int) = hexd d := by
  have := hex_tab16 ⟨d.toNat, by omega⟩
  simp only [Int.toNat_of_nonneg h.1] at this
  exact this
/-- the relation of Hex's loop -/
def HexRel (w : World) (a0 a1 a2 a3 : Int) (g m cap : Nat) (i : Value) (wr : World) : Prop :=
  ∃ (j : Nat) (f : Nat → Int), j ≤ m ∧ i = .int .i64 j ∧ Own wr w.heap.size 5 g m cap f ∧ (∀ k, k < j → f (m - 1 - k) = hexd (nibN a0 a1 a2 a3 k)) ∧ Below w.heap.size w wr ∧ (∀ k, k < 4 → wr.cell? ⟨w.heap.size, k, none⟩ = some (.int .u64 (limbN a0 a1 a2 a3 k))) ∧ w.heap.size < g

set_option maxRecDepth 100000 in
set_option maxHeartbeats 1000000 in
theorem hex_parts (a0 a1 a2 a3 : Int) (w : World) (ha0 : 0 ≤ a0 ∧ a0 < WI) (ha1 : 0 ≤ a1 ∧ a1 < WI) (ha2 : 0 ≤ a2 ∧ a2 < WI) (ha3 : 0 ≤ a3 ∧ a3 < WI) (m : Nat) (hm : hexLenN (lenN a0 a1 a2 a3) = m) (L : Int) (hL : lenN a0 a1 a2 a3 = L) (hL2 : 0 ≤ L ∧ L ≤ 256) :
    Calls Tryd.prog 59 #[.agg #[.int .u64 a0, .int .u64 a1, .int .u64 a2, .int .u64 a3]] w fun e w' => e = .returned (.string (strOfNums (bnums (fun j => hexd (nibN a0 a1 a2 a3 (m - 1 - j))) m))) ∧ Below w.heap.size w w' := by
  have hm1 : 1 ≤ m ∧ m ≤ 64 := by rw [hL] at hm; unfold hexLenN at hm; omega
  have hmm : max ((L + 3) / 4) 1 = (m : Int) := by rw [hL] at hm; exact hm
  have HL := Lib.hid hL
  have HA := Lib.hid (fun w => len_parts a0 a1 a2 a3 w ha0 ha1 ha2 ha3)
  have HX : Hid (0 ≤ a0 ∧ a0 < WI ∧ 0 ≤ a1 ∧ a1 < WI ∧ 0 ≤ a2 ∧ a2 < WI ∧ 0 ≤ a3 ∧ a3 < WI) := ⟨ha0.1, ha0.2, ha1.1, ha1.2, ha2.1, ha2.2, ha3.1, ha3.2⟩
  clear hm hL ha0 ha1 ha2 ha3
  go_enter Tryd.func59, Tryd.ntmps59
  go_wp2_with (first | (go_at_call 69; refine (HA.out _).mono ?_; rintro e w1 ⟨rfl, hb1⟩; rw [HL.out]) | (refine wpList_makeB eltU8 _ rfl (.tmp 11) rfl m rfl (by omega) ?_; intro w2 hown2 hgrow2))
  have hs1 := hb1.size
  simp only [World.size_alloc] at hs1
  have hlt0 : w.heap.size < w1.heap.size := by omega
  have hb2 : Below w.heap.size w w2 := (((below_alloc w _).trans (hb1.mono (by simp))).grown hgrow2 (by omega) (fun _ h => by cases h))
  have hcell : ∀ k, k < 4 → w2.cell? ⟨w.heap.size, k, none⟩ = some (.int .u64 (limbN a0 a1 a2 a3 k)) := by
    intro k hk
    have h1 : w1.cell? ⟨w.heap.size, k, none⟩ = some (.int .u64 (limbN a0 a1 a2 a3 k)) := by
      rw [hb1.cell (by simp)]
      have : k = 0 ∨ k = 1 ∨ k = 2 ∨ k = 3 := by omega
      rcases this with rfl | rfl | rfl | rfl <;> simp [limbN]
    rw [((Below.refl w1.heap.size w1).grown hgrow2 (Nat.le_refl _) (fun _ h => by cases h)).cell (by simpa using hlt0), h1]
  have HC := Lib.hid hcell
  have HO := Lib.hid hown2
  have HO' : ∀ (wr : World) B E g n cap f, Own wr B E g n cap f → Hid (Own wr B E g n cap f) := fun _ _ _ _ _ _ _ h => h
  clear hgrow2 hb1 hcell hown2
  generalize w1.heap.size = g at *
  go_loopw [15] (fun i wr => HexRel w a0 a1 a2 a3 g m m i wr) (fun i _ => m - (intOf i).toNat)
  case atStart => exact ⟨0, fun _ => 0, by omega, rfl, ⟨HO.out.1, ownsRow_base HO.out (by omega) |>.2⟩, fun k hk => by omega, hb2, HC.out, hlt0⟩
  case round =>
    obtain ⟨j, f, hj, rfl, hown, hf, hbel, hc, _⟩ := hrel
    clear HC HO hb2
    by_cases hlt : j < m
    · have hq : (j : Int) / 16 = ((j / 16 : Nat) : Int) := by omega
      have hr : (j : Int) % 16 = ((j % 16 : Nat) : Int) := by omega
      have hq4 : j / 16 < 4 := by omega
      have hr4 : j % 16 < 16 := by omega
      have hcq := hc (j / 16) hq4
      have HC := Lib.hid hc
      have HF := Lib.hid hf
      have hfz := hown.frozen (m - 1 - j)
      have hcz := hown.cell (m - 1 - j) (by omega)
      have HO := Lib.hid hown
      clear hc hf hown
      generalize hqq : j / 16 = q at *
      generalize hrr : j % 16 = r at *
      have HQ := Lib.hid hqq
      have HR := Lib.hid hrr
      clear hqq hrr
      have hlq : 0 ≤ limbN a0 a1 a2 a3 q ∧ limbN a0 a1 a2 a3 q < WI := limb_le HX.out q
      have hdv : 0 ≤ limbN a0 a1 a2 a3 q / 2 ^ (r * 4) ∧ limbN a0 a1 a2 a3 q / 2 ^ (r * 4) < WI := div_le hlq (r * 4)
      have hd : bits .and .u64 (limbN a0 a1 a2 a3 q / 2 ^ (r * 4)) 15 = nibN a0 a1 a2 a3 j := by
        rw [u64_and15 _ hdv, nibN, HQ.out, HR.out]
      have hd16 : 0 ≤ nibN a0 a1 a2 a3 j ∧ nibN a0 a1 a2 a3 j < 16 := by unfold nibN; omega
      have HN : Hid (nibN a0 a1 a2 a3 j = nibN a0 a1 a2 a3 j) := rfl
      clear hlq hdv
      generalize hdd : nibN a0 a1 a2 a3 j = d at hd hd16
      have HD := Lib.hid hdd
      clear hdd
      go_wp2
      refine ⟨⟨j + 1, setF f (m - 1 - j) (hexd d), by omega, by go_num, ?_, ?_, hbel.setCell (by show w.heap.size ≤ g; omega) _, ?_, hlt0⟩, by simp [intOf]; omega⟩
      · rw [hex_tab d hd16]
        exact HO.out.set _ _
      · intro k hk
        by_cases hkj : k = j
        · subst hkj
          rw [setF, if_pos rfl, HD.out]
        · rw [setF, if_neg (by omega)]
          exact HF.out k (by omega)
      · intro k hk
        rw [World.cell?_setCell_far _ _ _ _ (by show g ≠ w.heap.size; omega)]
        exact HC.out k hk
    · have hjm : j = m := by omega
      subst hjm
      have hs := row_string (P := Tryd.prog) (T := 22) (S := 9) (zs := bnums (fun i => hexd (nibN a0 a1 a2 a3 (j - 1 - i))) j) wr Tryd.underlying22 Tryd.underlying5 Tryd.underlying9 (ao := some ⟨g, 0, none⟩) (n := j) (c := j) (by
        rw [← bcells_nums]
        exact (hown.congr fun i hi => by have := hf (j - 1 - i) (by omega); rwa [show j - 1 - (j - 1 - i) = i by omega] at this).row)
      clear hown hf hc
      go_wp2
      go_ret
      exact ⟨rfl, hbel⟩
end Go.Proofs.YtlfabchlblgmbaaDoor
