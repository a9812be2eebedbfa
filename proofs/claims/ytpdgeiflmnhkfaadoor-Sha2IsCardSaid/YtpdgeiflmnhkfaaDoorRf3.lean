/- florinref02: Pad, Sane. (hM) -/
import Derived.Test.YtpdgeiflmnhkfaaDoorRf2
import Derived.Test.YtpdgeiflmnhkfaaDoorSs2
import Derived.Test.YtpdgeiflmnhkfaaDoorAppG
namespace Go.Proofs.YtpdgeiflmnhkfaaDoor
set_option linter.unusedVariables false
set_option linter.unusedSimpArgs false
open Go.RowKit

theorem bcells_snoc (F : Nat → Int) (k : Nat) : bcells F (k + 1) = bcells F k ++ [.int .u8 (F k)] := by simp [bcells, List.range_succ]
theorem row_byte (W : World) (x : Int) : Row (W.alloc (.cells #[.int .u8 x] 5)) (some ⟨W.heap.size, 0, none⟩) 1 1 1 [.int .u8 x] := row_new W #[.int .u8 x] 5 1 1 1 rfl (Nat.le_refl _) (by intro u hu; simp at hu; subst hu; rfl)
def RpRel (w : World) (F : Nat → Int) (z : Nat) (o : Value) (wr : World) : Prop :=
  ∃ (j g c : Nat), j ≤ z ∧ o = .slice (some ⟨g, 0, none⟩) (j + 1) c ∧ wr.ownsRow w.heap.size 5 1 (.slice (some ⟨g, 0, none⟩) (j + 1) c) (j + 1) (bcells F (j + 1)) ∧ Below w.heap.size w wr
def RqRel (w : World) (F : Nat → Int) (z : Nat) (o i : Value) (wr : World) : Prop :=
  ∃ (j g c : Nat), j ≤ 8 ∧ i = .int .i64 (7 - (j : Int)) ∧ o = .slice (some ⟨g, 0, none⟩) (z + 1 + j) c ∧ wr.ownsRow w.heap.size 5 1 (.slice (some ⟨g, 0, none⟩) (z + 1 + j) c) (z + 1 + j) (bcells F (z + 1 + j)) ∧ Below w.heap.size w wr

set_option maxRecDepth 100000 in
set_option maxHeartbeats 4000000 in
theorem rpad_any (n : Nat) (hn : n < 18446744073709551616) (w : World) :
    Calls Tryd.prog 33 #[.int .u64 n] w fun e w' => ∃ g c : Nat, e = .returned (.slice (some ⟨g, 0, none⟩) (padN n) c) ∧ w'.ownsRow w.heap.size 5 1 (.slice (some ⟨g, 0, none⟩) (padN n) c) (padN n) (bcells (padF n (padN n)) (padN n)) ∧ Below w.heap.size w w' := by
  obtain ⟨r, hr⟩ : ∃ r, n % 64 = r := ⟨_, rfl⟩
  obtain ⟨z, hz⟩ : ∃ z, (119 - r) % 64 = z := ⟨_, rfl⟩
  obtain ⟨k, hk⟩ : ∃ k, padN n = k := ⟨_, rfl⟩
  have hkz : k = z + 1 + 8 := by rw [← hk, padN, hr, hz]; omega
  obtain ⟨D, hD⟩ : ∃ D, IntKind.u64.wrap ((n : Int) * 8) = D := ⟨_, rfl⟩
  obtain ⟨F, hF⟩ : ∃ F, padF n k = F := ⟨_, rfl⟩
  rw [hk, hF, hkz]
  have hF0 : F 0 = 128 := by rw [← hF]; rfl
  have hFz : ∀ j, 0 < j → j < z + 1 → F j = 0 := fun j h1 h2 => by rw [← hF]; unfold padF; rw [if_neg (by omega), if_neg (by omega)]
  have hFd : ∀ j, j < 8 → F (z + 1 + j) = IntKind.u8.wrap (D / 2 ^ (8 * (7 - j))) := fun j hj => by
    rw [← hF]; unfold padF; rw [if_neg (by omega), if_pos (by omega), hD, show k - 1 - (z + 1 + j) = 7 - j by omega]
  have f1 : (n : Int).tmod 64 = (r : Int) := by rw [Int.tmod_eq_emod_of_nonneg (by omega)]; omega
  have hn0 : (0 : Int) ≤ (n : Int) := by omega
  have HZ := Lib.hid (And.intro hr hz)
  have HF := Lib.hid (And.intro hF0 (And.intro hFz hFd))
  have hr64 : r < 64 := by omega
  clear hr hz hk hkz hF hF0 hFz hFd hn
  have hB0 := below_alloc w (.cells #[.int .u8 128] 5)
  have hown0 := World.ownsRow_lit w #[.int .u8 128] 1 (base := w.heap.size) (e := 5) (size := 1) (Nat.le_refl _) (by unfold maxLen; omega) rfl
  have HO0 := Lib.hid hown0
  clear hown0
  go_enter Tryd.func33, Tryd.ntmps33
  go_wp2
  go_loopw [3] (fun o wr => RpRel w F z o wr) (fun o _ => 100 - slLen o)
  case atStart =>
    refine ⟨0, w.heap.size, 1, Nat.zero_le _, rfl, ?_, hB0⟩
    have h := HO0.out
    have e : bcells F (0 + 1) = [.int .u8 128] := by rw [bcells_snoc, HF.out.1]; rfl
    rw [e]
    exact h
  case round =>
    obtain ⟨j, g, c, hj, rfl, hown, hB⟩ := hrel
    have HO := Lib.hid hown
    clear hown
    obtain ⟨j1, hj1⟩ : ∃ j1, j + 1 = j1 := ⟨_, rfl⟩
    rw [hj1] at HO ⊢
    have hjb : j1 ≤ 64 := by have := HZ.out.2; omega
    have v1 : IntKind.u64.wrap (j1 : Int) = (j1 : Int) := by rw [IntKind.wrap_u64]; omega
    have v2 : IntKind.u64.wrap ((r : Int) + (j1 : Int)) = (r : Int) + (j1 : Int) := by rw [IntKind.wrap_u64]; omega
    have v3 : IntKind.u64.wrap ((r : Int) + (j1 : Int) + 8) = (r : Int) + (j1 : Int) + 8 := by rw [IntKind.wrap_u64]; omega
    obtain ⟨y, hy⟩ : ∃ y, ((r : Int) + (j1 : Int) + 8) % 64 = y := ⟨_, rfl⟩
    have v4 : ((r : Int) + (j1 : Int) + 8).tmod 64 = y := by rw [Int.tmod_eq_emod_of_nonneg (by omega)]; exact hy
    have hp0 : 0 ≤ (r : Int) + (j1 : Int) + 8 := by omega
    by_cases hlt : j < z
    · have hy0 : ¬ y = 0 := by have := HZ.out.2; omega
      have hyb : (y != 0) = true := by simp; exact hy0
      have HJ := Lib.hid (And.intro hj1 hlt)
      clear hj1 hy
      go_wp2_with (refine wpList_appN eltU8 w _ (bl_al hB _) rfl (.tmp 16) (.tmp 17) rfl (some ⟨g, 0, none⟩) j1 c (bcells F j1) rfl (.inr ⟨g, rfl, HO.out.alloc _⟩) (some ⟨wr.heap.size, 0, none⟩) 1 1 [.int .u8 0] rfl (row_byte wr 0) (fun h => by cases h) (by omega) ?_; intro g2 c2 w2 hown2 hb2; have HO2 := Lib.hid hown2; have HB2 := Lib.hid hb2; clear hown2 hb2)
      have h2 := HO2.out
      have e : bcells F (j + 1 + 1) = bcells F j1 ++ [.int .u8 0] := by rw [HJ.out.1, bcells_snoc, HF.out.2.1 j1 (by have := HJ.out; omega) (by have := HJ.out; omega)]
      refine ⟨⟨j + 1, g2, c2, by have := HJ.out; omega, by rw [HJ.out.1], ?_, HB2.out⟩, by simp only [slLen]; omega⟩
      rw [e, HJ.out.1]
      exact h2
    · have hje : j = z := by omega
      have hy0 : y = 0 := by have := HZ.out.2; omega
      subst hy0
      subst hje
      have HJ := Lib.hid hj1
      clear hj1 hy v1 v2 v3 hp0
      go_wp2
      go_loopw [3, 5] (fun o i wr => RqRel w F j o i wr) (fun _ i _ => ((intOf i) + 1).toNat)
      case atStart => exact ⟨0, g, c, Nat.zero_le _, rfl, by rw [← HJ.out], by have h := HO.out; rw [← HJ.out] at h; exact h, hB⟩
      case round =>
        obtain ⟨q, g, c, hq, rfl, rfl, hown, hB⟩ := hrel
        have HO := Lib.hid hown
        clear hown
        obtain ⟨m, hm⟩ : ∃ m, j + 1 + q = m := ⟨_, rfl⟩
        rw [hm] at HO ⊢
        by_cases hlt2 : q < 8
        · obtain ⟨t, ht⟩ : ∃ t : Nat, 7 - q = t := ⟨_, rfl⟩
          have hti : 7 - (q : Int) = (t : Int) := by omega
          obtain ⟨s, hs⟩ : ∃ s, 8 * t = s := ⟨_, rfl⟩
          have g3 : IntKind.i64.wrap (8 * (t : Int)) = (s : Int) := by rw [IntKind.wrap_i64]; omega
          have g4 : IntKind.u64.wrap (s : Int) = (s : Int) := by rw [IntKind.wrap_u64]; omega
          have hs64 : (s : Int) ≤ 64 := by omega
          have g5 : IntKind.i64.wrap ((t : Int) - 1) = (t : Int) - 1 := by rw [IntKind.wrap_i64]; omega
          have ht0 : 0 ≤ (t : Int) := by omega
          obtain ⟨y, hy⟩ : ∃ y, IntKind.u8.wrap (D / 2 ^ s) = y := ⟨_, rfl⟩
          have hFm : F m = y := by rw [← hm, HF.out.2.2 q hlt2, ht, hs, hy]
          have hmb : m ≤ 80 := by have := HZ.out.2; omega
          rw [hti]
          have HM := Lib.hid (And.intro hm (And.intro hFm (And.intro ht hmb)))
          clear hm hs ht hti hFm hmb
          go_wp2_with (refine wpList_appN eltU8 w _ (bl_al hB _) rfl (.tmp 25) (.tmp 32) rfl (some ⟨g, 0, none⟩) m c (bcells F m) rfl (.inr ⟨g, rfl, HO.out.alloc _⟩) (some ⟨wr.heap.size, 0, none⟩) 1 1 [.int .u8 y] rfl (row_byte wr y) (fun h => by cases h) (by have := HM.out.2.2.2; omega) ?_; intro g2 c2 w2 hown2 hb2; have HO2 := Lib.hid hown2; have HB2 := Lib.hid hb2; clear hown2 hb2)
          have h2 := HO2.out
          have e : bcells F (j + 1 + (q + 1)) = bcells F m ++ [.int .u8 y] := by rw [show j + 1 + (q + 1) = m + 1 by have := HM.out.1; omega, bcells_snoc, HM.out.2.1]
          have e2 : j + 1 + (q + 1) = m + 1 := by have := HM.out.1; omega
          refine ⟨⟨q + 1, g2, c2, by omega, by (have := HM.out.2.2.1; first | (congr 1; omega) | (congr 1; done)), by rw [e2], ?_, HB2.out⟩, by have := HM.out.2.2.1; simp [intOf] <;> omega⟩
          rw [e, e2]
          exact h2
        · have hqe : q = 8 := by omega
          subst hqe
          have h8 : ¬ (0 : Int) ≤ 7 - ((8 : Nat) : Int) := by omega
          have HM := Lib.hid hm
          clear hm
          go_wp2
          go_ret
          have hm := HM.out
          subst hm
          exact ⟨g, c, rfl, HO.out, hB⟩
end Go.Proofs.YtpdgeiflmnhkfaaDoor
