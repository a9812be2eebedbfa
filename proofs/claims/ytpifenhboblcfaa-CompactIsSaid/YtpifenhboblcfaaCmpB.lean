/- Package compact: contracts of Bounded and Bytes. -/
import Derived.Test.YtpifenhboblcfaaCmpM
import Derived.Test.YtpifenhboblcfaaUnd
namespace Go.Proofs.Ytpifenhboblcfaa
set_option linter.unusedVariables false
set_option linter.unusedSimpArgs false
open Go.RowKit

def boundN (x k e most : Int) : Int × Int × Int := if e ≠ 0 then (0, 0, e) else if x ≤ most ∧ x ≤ 2147483647 then (x, k, 0) else (0, 0, 3)

set_option maxHeartbeats 400000 in
theorem bounded_any (ao : Option Addr) (n c : Nat) (f : Nat → Int) (most : Int) (w : World) (hm : n ≤ 140737488351232) (hr : Row w ao n c 1 (bcells f n)) (hb : ∀ i, 0 ≤ f i ∧ f i < 256) (h0 : 0 ≤ most) :
    Calls Try.prog 11 #[.slice ao n c, .int .u64 most] w fun e w' => e = .returned (.tuple #[.int .i64 (boundN (getF f n).1 (getF f n).2.1 (getF f n).2.2 most).1, .int .i64 (boundN (getF f n).1 (getF f n).2.1 (getF f n).2.2 most).2.1, .int .i64 (boundN (getF f n).1 (getF f n).2.1 (getF f n).2.2 most).2.2]) ∧ w = w' := by
  have HR := Lib.hid hr
  have HB := Lib.hid hb
  clear hr hb
  rcases getF_cases f n HB.out with hg | hg | ⟨x, k, hg, hk1, hkn, hx0, hx1, _, _⟩
  · have HG := Lib.hid hg
    rw [hg]
    clear hg
    go_enter Try.func11, Try.ntmps11
    go_wp2_with (go_at_call 9; refine (get_any ao n c f _ hm HR.out HB.out).mono ?_; rintro e w2 ⟨rfl, rfl⟩; rw [HG.out])
    go_ret3
    exact ⟨rfl, rfl⟩
  · have HG := Lib.hid hg
    rw [hg]
    clear hg
    go_enter Try.func11, Try.ntmps11
    go_wp2_with (go_at_call 9; refine (get_any ao n c f _ hm HR.out HB.out).mono ?_; rintro e w2 ⟨rfl, rfl⟩; rw [HG.out])
    go_ret3
    exact ⟨rfl, rfl⟩
  · have HG := Lib.hid hg
    rw [hg]
    clear hg
    by_cases hs : x ≤ most ∧ x ≤ 2147483647
    · have hB : boundN x k 0 most = (x, (k : Int), 0) := by simp [boundN, hs]
      rw [hB]
      clear hB
      obtain ⟨hs1, hs2⟩ := hs
      go_enter Try.func11, Try.ntmps11
      go_wp2_with (go_at_call 9; refine (get_any ao n c f _ hm HR.out HB.out).mono ?_; rintro e w2 ⟨rfl, rfl⟩; rw [HG.out])
      all_goals go_ret3
      all_goals exact ⟨rfl, rfl⟩
    · have hs' : most < x ∨ 2147483647 < x := by omega
      have hB : boundN x k 0 most = (0, 0, 3) := by simp only [boundN]; rw [if_neg (by decide), if_neg hs]
      rw [hB]
      clear hB
      go_enter Try.func11, Try.ntmps11
      go_wp2_with (go_at_call 9; refine (get_any ao n c f _ hm HR.out HB.out).mono ?_; rintro e w2 ⟨rfl, rfl⟩; rw [HG.out])
      all_goals go_ret3
      all_goals exact ⟨rfl, rfl⟩

/-- the error that Bytes answers -/
def bytesE (x k e : Int) (n : Nat) (most : Int) : Int :=
  if (boundN x k e (max most 0)).2.2 ≠ 0 then (boundN x k e (max most 0)).2.2 else if most < 0 then 3 else if (n : Int) - k < x then 1 else 0

theorem max_pos {m : Int} (h : 0 ≤ m) : max m 0 = m := by omega
theorem max_neg {m : Int} (h : m < 0) : max m 0 = 0 := by omega

set_option maxHeartbeats 400000 in
theorem bytes_err (ao : Option Addr) (n c : Nat) (f : Nat → Int) (most : Int) (w : World) (hm : n ≤ 140737488351232) (hr : Row w ao n c 1 (bcells f n)) (hb : ∀ i, 0 ≤ f i ∧ f i < 256)
    (h1 : -9223372036854775808 ≤ most) (h2 : most ≤ 9223372036854775807) (er : Int) (he : bytesE (getF f n).1 (getF f n).2.1 (getF f n).2.2 n most = er) (he0 : er ≠ 0) :
    Calls Try.prog 13 #[.slice ao n c, .int .i64 most] w fun e w' => e = .returned (.tuple #[.slice none 0 0, .int .i64 0, .int .i64 er]) ∧ w = w' := by
  have HR := Lib.hid hr
  have HB := Lib.hid hb
  obtain ⟨x, k, r, hG⟩ : ∃ x k r, getF f n = (x, k, r) := ⟨_, _, _, rfl⟩
  rw [hG] at he
  simp only at he
  have HG := Lib.hid hG
  clear hr hb hG
  by_cases hneg : most < 0
  · rw [bytesE, max_neg hneg] at he
    by_cases hr0 : (boundN x k r 0).2.2 ≠ 0
    · rw [if_pos hr0] at he
      obtain ⟨p, q, t, hB⟩ : ∃ p q t, boundN x k r 0 = (p, q, t) := ⟨_, _, _, rfl⟩
      rw [hB] at he hr0
      simp only at he hr0
      subst he
      have hne : (t != 0) = true := by simpa using hr0
      have HBd := Lib.hid hB
      clear hB hr0
      go_enter Try.func13, Try.ntmps13
      go_wp2_with (go_at_call 11; refine (bounded_any ao n c f _ _ hm HR.out HB.out (by omega)).mono ?_; rintro e w2 ⟨rfl, rfl⟩; rw [HG.out]; simp only [HBd.out])
      go_ret3
      exact ⟨rfl, rfl⟩
    · rw [if_neg hr0, if_pos hneg] at he
      subst he
      obtain ⟨p, q, t, hB⟩ : ∃ p q t, boundN x k r 0 = (p, q, t) := ⟨_, _, _, rfl⟩
      rw [hB] at hr0
      simp only [ne_eq, Decidable.not_not] at hr0
      subst hr0
      have HBd := Lib.hid hB
      clear hB
      go_enter Try.func13, Try.ntmps13
      go_wp2_with (go_at_call 11; refine (bounded_any ao n c f _ _ hm HR.out HB.out (by omega)).mono ?_; rintro e w2 ⟨rfl, rfl⟩; rw [HG.out]; simp only [HBd.out])
      go_ret3
      exact ⟨rfl, rfl⟩
  · rw [bytesE, max_pos (by omega)] at he
    by_cases hr0 : (boundN x k r most).2.2 ≠ 0
    · rw [if_pos hr0] at he
      obtain ⟨p, q, t, hB⟩ : ∃ p q t, boundN x k r most = (p, q, t) := ⟨_, _, _, rfl⟩
      rw [hB] at he hr0
      simp only at he hr0
      subst he
      have hne : (t != 0) = true := by simpa using hr0
      have HBd := Lib.hid hB
      clear hB hr0
      go_enter Try.func13, Try.ntmps13
      go_wp2_with (go_at_call 11; refine (bounded_any ao n c f _ _ hm HR.out HB.out (by omega)).mono ?_; rintro e w2 ⟨rfl, rfl⟩; rw [HG.out]; simp only [HBd.out])
      go_ret3
      exact ⟨rfl, rfl⟩
    · rw [if_neg hr0, if_neg hneg] at he
      have hlt : (n : Int) - k < x := by
        by_cases h : (n : Int) - k < x
        · exact h
        · rw [if_neg h] at he; omega
      rw [if_pos hlt] at he
      subst he
      have hB : boundN x k r most = (x, k, 0) := by
        unfold boundN at hr0 ⊢
        by_cases hr1 : r ≠ 0
        · rw [if_pos hr1] at hr0; exact absurd hr1 hr0
        · rw [if_neg hr1] at hr0 ⊢
          by_cases h3 : x ≤ most ∧ x ≤ 2147483647
          · rw [if_pos h3]
          · rw [if_neg h3] at hr0; simp at hr0
      have hkb : 0 ≤ k ∧ k ≤ n := by
        rcases getF_cases f n HB.out with hg | hg | ⟨x', k', hg, g1, g2, _⟩ <;> rw [HG.out] at hg <;> simp only [Prod.mk.injEq] at hg <;> omega
      have HBd := Lib.hid hB
      clear hB hr0
      obtain ⟨hk0, hkn⟩ := hkb
      go_enter Try.func13, Try.ntmps13
      go_wp2_with (go_at_call 11; refine (bounded_any ao n c f _ _ hm HR.out HB.out (by omega)).mono ?_; rintro e w2 ⟨rfl, rfl⟩; rw [HG.out]; simp only [HBd.out])
      go_ret3
      exact ⟨rfl, rfl⟩

theorem row_slice {w : World} {ao : Option Addr} {n c : Nat} {f : Nat → Int} (h : Row w ao n c 1 (bcells f n)) (k m : Nat) (hkm : k + m ≤ n) (hm : 0 < m) :
    ∃ b off, ao = some ⟨b, off, none⟩ ∧ Row w (some ⟨b, off + k, none⟩) m m 1 (bcells (fun i => f (k + i)) m) := by
  obtain ⟨b, off, rfl⟩ := row_addr h (bcells_ne f n (by omega))
  refine ⟨b, off, rfl, ⟨by simp [bcells], Nat.le_refl _, fun h => (by cases h), fun ad ha i u hu => ?_, bcells_one _ _⟩⟩
  simp only [Option.some.injEq] at ha
  subst ha
  have hi : i < m := by
    obtain ⟨h, _⟩ := List.getElem?_eq_some_iff.1 hu
    simpa [bcells] using h
  rw [bcells_get _ _ _ hi] at hu
  cases hu
  refine ⟨rfl, ?_⟩
  have := row_cell h (k + i) (by omega)
  rw [← Nat.add_assoc] at this
  exact this

set_option maxHeartbeats 400000 in
theorem bytes_ok (ao : Option Addr) (n c : Nat) (f : Nat → Int) (most : Int) (w : World) (hm : n ≤ 140737488351232) (hr : Row w ao n c 1 (bcells f n)) (hb : ∀ i, 0 ≤ f i ∧ f i < 256)
    (h2 : most ≤ 9223372036854775807) (x k : Nat) (hG : getF f n = ((x : Int), (k : Int), 0)) (hkx : k + x ≤ n) (hk1 : 1 ≤ k) (hxm : (x : Int) ≤ most) (hx31 : x ≤ 2147483647) :
    Calls Try.prog 13 #[.slice ao n c, .int .i64 most] w fun e w' => ∃ ao', e = .returned (.tuple #[.slice ao' x x, .int .i64 (k + x), .int .i64 0]) ∧ Row w ao' x x 1 (bcells (fun i => f (k + i)) x) ∧ w = w' := by
  have hB : boundN x k 0 most = ((x : Int), (k : Int), 0) := by
    unfold boundN
    rw [if_neg (by simp), if_pos (by omega)]
  have HBd := Lib.hid hB
  have HB := Lib.hid hb
  have HG := Lib.hid hG
  have hnc := hr.le
  have h0 : ¬ most < 0 := by omega
  have hlt : ¬ ((n : Int) - (k : Int) < (x : Int)) := by omega
  have hnc' : (k : Int) + (x : Int) ≤ (c : Int) := by omega
  clear hB hb hG
  by_cases hx0 : x = 0
  · subst hx0
    have HR := Lib.hid hr
    clear hr
    go_enter Try.func13, Try.ntmps13
    go_wp2_with (go_at_call 11; refine (bounded_any ao n c f _ _ hm HR.out HB.out (by omega)).mono ?_; rintro e w2 ⟨rfl, rfl⟩; rw [HG.out]; simp only [HBd.out])
    go_ret3
    refine ⟨ao, by simp, ⟨rfl, Nat.le_refl _, fun h => ?_, fun ad ha i u hu => (by simp [bcells] at hu), fun u hu => (by simp [bcells] at hu)⟩, rfl⟩
    rfl
  · obtain ⟨b, off, rfl, hr2⟩ := row_slice hr k x hkx (by omega)
    have HR := Lib.hid hr
    have HR2 := Lib.hid hr2
    clear hr hr2
    go_enter Try.func13, Try.ntmps13
    go_wp2_with (go_at_call 11; refine (bounded_any _ n c f _ _ hm HR.out HB.out (by omega)).mono ?_; rintro e w2 ⟨rfl, rfl⟩; rw [HG.out]; simp only [HBd.out])
    go_ret3
    exact ⟨some ⟨b, off + k, none⟩, rfl, HR2.out, rfl⟩
end Go.Proofs.Ytpifenhboblcfaa
