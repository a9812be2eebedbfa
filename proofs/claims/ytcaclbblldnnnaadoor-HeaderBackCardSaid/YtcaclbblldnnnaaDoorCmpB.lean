/- Package compact: plain facts on what is put and got. Merged: CmpM, CmpB. -/
import Derived.Test.YtcaclbblldnnnaaDoorCmp4
import Derived.Test.YtcaclbblldnnnaaDoorUnd
/- Package compact: plain facts on what is put and got. -/
namespace Go.Proofs.YtcaclbblldnnnaaDoor
set_option linter.unusedVariables false
set_option linter.unusedSimpArgs false
open Go.RowKit

theorem leF_digit (f : Nat → Int) (hb : ∀ i, 0 ≤ f i ∧ f i < 256) : ∀ (i m a : Nat), i < m → leF f a m / 2 ^ (8 * i) % 256 = f (a + i) := by
  intro i
  induction i with
  | zero =>
    intro m a hm
    obtain ⟨m, rfl⟩ : ∃ k, m = k + 1 := ⟨m - 1, by omega⟩
    have h1 := hb a
    have h2 := leF_nn f hb m (a + 1)
    simp only [leF, Nat.mul_zero, Int.pow_zero, Int.ediv_one, Nat.add_zero]
    omega
  | succ i ih =>
    intro m a hm
    obtain ⟨m, rfl⟩ : ∃ k, m = k + 1 := ⟨m - 1, by omega⟩
    have h1 := hb a
    have h := ih m (a + 1) (by omega)
    have e : (2 : Int) ^ (8 * (i + 1)) = 256 * 2 ^ (8 * i) := by
      rw [Nat.mul_succ, Int.pow_add, Int.mul_comm]; rfl
    rw [e, ← Int.ediv_ediv_of_nonneg (by omega), show a + (i + 1) = a + 1 + i by omega, ← h]
    congr 2
    simp only [leF]
    omega

theorem leB_leF (f : Nat → Int) (hb : ∀ i, 0 ≤ f i ∧ f i < 256) (a m : Nat) : leB (leF f a m) m = (List.range m).map fun i => .int .u8 (f (a + i)) := by
  unfold leB
  apply List.map_congr_left
  intro i hi
  rw [leF_digit f hb i m a (by simpa using hi)]

theorem bcells_succ (f : Nat → Int) (m : Nat) : bcells f (m + 1) = .int .u8 (f 0) :: (List.range m).map fun i => .int .u8 (f (1 + i)) := by
  simp only [bcells, List.range_succ_eq_map, List.map_cons, List.map_map]
  congr 1
  apply List.map_congr_left
  intro i _
  simp [Nat.add_comm]

theorem getF_cases (f : Nat → Int) (n : Nat) (hb : ∀ i, 0 ≤ f i ∧ f i < 256) :
    (getF f n = (0, 0, 1)) ∨ (getF f n = (0, 0, 2)) ∨ ∃ (x : Int) (k : Nat), getF f n = (x, (k : Int), 0) ∧ 1 ≤ k ∧ k ≤ n ∧ 0 ≤ x ∧ x < 18446744073709551616 ∧ putL x = bcells f k ∧ sizeOfN x = k := by
  by_cases h0 : n = 0
  · left; simp [getF, h0]
  have b0 := hb 0
  have key : ∀ m : Nat, sizeBehindN (f 0) = ((m + 1 : Nat) : Int) → (f 0 = 253 ∧ m = 2 ∨ f 0 = 254 ∧ m = 4 ∨ f 0 = 255 ∧ m = 8) →
      getF f n = (0, 0, 1) ∨ getF f n = (0, 0, 2) ∨ ∃ (x : Int) (k : Nat), getF f n = (x, (k : Int), 0) ∧ 1 ≤ k ∧ k ≤ n ∧ 0 ≤ x ∧ x < 18446744073709551616 ∧ putL x = bcells f k ∧ sizeOfN x = k := by
    intro m hk hm
    by_cases hn : n < m + 1
    · left
      unfold getF
      rw [hk, if_neg h0, if_neg (by omega), if_pos (by omega)]
    have hx := leF_nn f hb m 1
    have hx8 : leF f 1 m < 18446744073709551616 := by
      have h1 := hb 1
      have h2 := leF_lt7 f hb (m - 1) (by omega) 2
      have : leF f 1 m = f 1 + 256 * leF f 2 (m - 1) := by
        obtain ⟨j, rfl⟩ : ∃ j, m = j + 1 := ⟨m - 1, by omega⟩
        rfl
      omega
    have hG : getF f n = if sizeOfN (leF f 1 m) = ((m + 1 : Nat) : Int) then (leF f 1 m, ((m + 1 : Nat) : Int), 0) else (0, 0, 2) := by
      unfold getF
      rw [hk, if_neg h0, if_neg (by omega), if_neg (by omega), Int.toNat_natCast, Nat.add_sub_cancel]
    by_cases hs : sizeOfN (leF f 1 m) = ((m + 1 : Nat) : Int)
    · right; right
      refine ⟨leF f 1 m, m + 1, by rw [hG, if_pos hs], by omega, by omega, hx, hx8, ?_, hs⟩
      rw [bcells_succ, ← leB_leF f hb]
      rcases sizeOf_cases (leF f 1 m) with ⟨h1, h2⟩ | ⟨h1, h2, h3⟩ | ⟨h1, h2, h3⟩ | ⟨h1, h2⟩
      · omega
      · have : m = 2 := by omega
        subst this
        rw [show f 0 = 253 by omega]
        simp [putL, h3, show ¬ leF f 1 2 < 253 by omega]
      · have : m = 4 := by omega
        subst this
        rw [show f 0 = 254 by omega]
        simp [putL, h3, show ¬ leF f 1 4 < 253 by omega, show ¬ leF f 1 4 < 65536 by omega]
      · have : m = 8 := by omega
        subst this
        rw [show f 0 = 255 by omega]
        simp [putL, show ¬ leF f 1 8 < 253 by omega, show ¬ leF f 1 8 < 65536 by omega, show ¬ leF f 1 8 < 4294967296 by omega]
    · right; left
      rw [hG, if_neg hs]
  rcases sizeBehind_cases (f 0) with ⟨hk, h1, h2, h3⟩ | ⟨hk, h1⟩ | ⟨hk, h1⟩ | ⟨hk, h1⟩
  · right; right
    have hl : f 0 < 253 := by omega
    refine ⟨f 0, 1, by simp [getF, h0, hk], by omega, by omega, by omega, by omega, ?_, by simp [sizeOfN, hl]⟩
    simp [putL, hl, bcells]
  · exact key 2 hk (by omega)
  · exact key 4 hk (by omega)
  · exact key 8 hk (by omega)
end Go.Proofs.YtcaclbblldnnnaaDoor

/- Package compact: contracts of Bounded and Bytes. -/
namespace Go.Proofs.YtcaclbblldnnnaaDoor
set_option linter.unusedVariables false
set_option linter.unusedSimpArgs false
open Go.RowKit

def boundN (x k e most : Int) : Int × Int × Int := if e ≠ 0 then (0, 0, e) else if x ≤ most ∧ x ≤ 2147483647 then (x, k, 0) else (0, 0, 3)

set_option maxHeartbeats 400000 in
theorem bounded_any (ao : Option Addr) (n c : Nat) (f : Nat → Int) (most : Int) (w : World) (hm : n ≤ 140737488351232) (hr : Row w ao n c 1 (bcells f n)) (hb : ∀ i, 0 ≤ f i ∧ f i < 256) (h0 : 0 ≤ most) :
    Calls Tryd.prog 51 #[.slice ao n c, .int .u64 most] w fun e w' => e = .returned (.tuple #[.int .i64 (boundN (getF f n).1 (getF f n).2.1 (getF f n).2.2 most).1, .int .i64 (boundN (getF f n).1 (getF f n).2.1 (getF f n).2.2 most).2.1, .int .i64 (boundN (getF f n).1 (getF f n).2.1 (getF f n).2.2 most).2.2]) ∧ w = w' := by
  have HR := Lib.hid hr
  have HB := Lib.hid hb
  clear hr hb
  rcases getF_cases f n HB.out with hg | hg | ⟨x, k, hg, hk1, hkn, hx0, hx1, _, _⟩
  · have HG := Lib.hid hg
    rw [hg]
    clear hg
    go_enter Tryd.func51, Tryd.ntmps51
    go_wp2_with (go_at_call 58; refine (get_any ao n c f _ hm HR.out HB.out).mono ?_; rintro e w2 ⟨rfl, rfl⟩; rw [HG.out])
    go_ret3
    exact ⟨rfl, rfl⟩
  · have HG := Lib.hid hg
    rw [hg]
    clear hg
    go_enter Tryd.func51, Tryd.ntmps51
    go_wp2_with (go_at_call 58; refine (get_any ao n c f _ hm HR.out HB.out).mono ?_; rintro e w2 ⟨rfl, rfl⟩; rw [HG.out])
    go_ret3
    exact ⟨rfl, rfl⟩
  · have HG := Lib.hid hg
    rw [hg]
    clear hg
    by_cases hs : x ≤ most ∧ x ≤ 2147483647
    · have hB : boundN x k 0 most = (x, (k : Int), 0) := by simp [boundN, hs]
      rw [hB]
      clear hB
      obtain ⟨hs1, hs2⟩ := hs
      go_enter Tryd.func51, Tryd.ntmps51
      go_wp2_with (go_at_call 58; refine (get_any ao n c f _ hm HR.out HB.out).mono ?_; rintro e w2 ⟨rfl, rfl⟩; rw [HG.out])
      all_goals go_ret3
      all_goals exact ⟨rfl, rfl⟩
    · have hs' : most < x ∨ 2147483647 < x := by omega
      have hB : boundN x k 0 most = (0, 0, 3) := by simp only [boundN]; rw [if_neg (by decide), if_neg hs]
      rw [hB]
      clear hB
      go_enter Tryd.func51, Tryd.ntmps51
      go_wp2_with (go_at_call 58; refine (get_any ao n c f _ hm HR.out HB.out).mono ?_; rintro e w2 ⟨rfl, rfl⟩; rw [HG.out])
      all_goals go_ret3
      all_goals exact ⟨rfl, rfl⟩

/-- the error that Bytes answers -/
def bytesE (x k e : Int) (n : Nat) (most : Int) : Int :=
  if (boundN x k e (max most 0)).2.2 ≠ 0 then (boundN x k e (max most 0)).2.2 else if most < 0 then 3 else if (n : Int) - k < x then 1 else 0

theorem max_pos {m : Int} (h : 0 ≤ m) : max m 0 = m := by omega
theorem max_neg {m : Int} (h : m < 0) : max m 0 = 0 := by omega

theorem row_slice {w : World} {ao : Option Addr} {n c : Nat} {f : Nat → Int} (h : Row w ao n c 1 (bcells f n)) (k m : Nat) (hkm : k + m ≤ n) (hm : 0 < m) :
    ∃ b off, ao = some ⟨b, off, none⟩ ∧ Row w (some ⟨b, off + k, none⟩) m m 1 (bcells (fun i => f (k + i)) m) := by
  obtain ⟨b, off, rfl⟩ := row_addr h (bcells_ne f n (by omega))
  refine ⟨b, off, rfl, ⟨by simp [bcells], Nat.le_refl _, fun h => (by cases h), fun ad ha i u hu => ?_, bcells_one _ _⟩⟩
  simp only [Option.some.injEq] at ha
  subst ha
  have hi : i < m := by
    obtain ⟨h, _⟩ := List.getElem?_eq_some_iff.1 hu
    simpa [bcells] using h
  rw [bcells_get _ _ _ hi] at hu
  cases hu
  refine ⟨rfl, ?_⟩
  have := row_cell h (k + i) (by omega)
  rw [← Nat.add_assoc] at this
  exact this

end Go.Proofs.YtcaclbblldnnnaaDoor
