/- CompactOnce: the walk of the law. -/
import Derived.Test.YtpifenhboblcfaaCmpM
import Derived.Test.YtpifenhboblcfaaUnd
namespace Go.Proofs.Ytpifenhboblcfaa
set_option linter.unusedVariables false
set_option linter.unusedSimpArgs false
open Go.RowKit

theorem strOf_put (x : Int) (f : Nat → Int) (k : Nat) (h : putL x = bcells f k) : putL x = (bnums f k).map (Value.int .u8) := by rw [h, bcells_nums]

set_option maxHeartbeats 400000 in
theorem once_walk (ao : Option Addr) (n c : Nat) (f : Nat → Int) (w : World) (hr : Row w ao n c 1 (bcells f n)) (hb : ∀ i, 0 ≤ f i ∧ f i < 256) (hmax : n ≤ maxLen) :
    Calls Try.prog 5 #[.slice ao n c] w fun e w' => e = .returned (.bool true) ∧ Below w.heap.size w w' := by
  unfold maxLen at hmax
  have hnc := hr.le
  have HR := Lib.hid hr
  have HB := Lib.hid hb
  clear hr hb
  by_cases h1000 : 1000 < n
  · have : (1000 : Int) < (n : Int) := by omega
    go_enter Try.func5, Try.ntmps5
    go_wp2_with (go_at_call 8; refine (awake_any _).mono ?_; rintro e w1 ⟨rfl, hb1⟩)
    go_ret
    exact ⟨rfl, hb1⟩
  have h1000' : ¬ ((1000 : Int) < (n : Int)) := by omega
  have hG : ∃ g, getF f n = g := ⟨_, rfl⟩
  rcases getF_cases f n HB.out with hg | hg | ⟨x, k, hg, hk1, hkn, hx0, hx1, hput, hsz⟩
  · have HG := Lib.hid hg
    clear hG hg
    go_enter Try.func5, Try.ntmps5
    go_wp2_with (first | (go_at_call 8; refine (awake_any _).mono ?_; rintro e w1 ⟨rfl, hb1⟩) | (go_at_call 9; refine (get_any ao n c f _ (by omega) (HR.out.later hb1) HB.out).mono ?_; rintro e w2 ⟨rfl, rfl⟩; rw [HG.out]))
    go_ret
    exact ⟨rfl, hb1⟩
  · have HG := Lib.hid hg
    clear hG hg
    go_enter Try.func5, Try.ntmps5
    go_wp2_with (first | (go_at_call 8; refine (awake_any _).mono ?_; rintro e w1 ⟨rfl, hb1⟩) | (go_at_call 9; refine (get_any ao n c f _ (by omega) (HR.out.later hb1) HB.out).mono ?_; rintro e w2 ⟨rfl, rfl⟩; rw [HG.out]))
    go_ret
    exact ⟨rfl, hb1⟩
  · have HG := Lib.hid hg
    have HP := Lib.hid hput
    have HS := Lib.hid hsz
    clear hG hg hput hsz
    have hk1' : (1 : Int) ≤ (k : Int) := by omega
    have hkn' : (k : Int) ≤ (n : Int) := by omega
    have hkc' : (k : Int) ≤ (c : Int) := by omega
    go_enter Try.func5, Try.ntmps5
    go_wp2_with (first | (go_at_call 8; refine (awake_any _).mono ?_; rintro e w1 ⟨rfl, hb1⟩) | (go_at_call 9; refine (get_any ao n c f _ (by omega) (HR.out.later hb1) HB.out).mono ?_; rintro e w2 ⟨rfl, rfl⟩; rw [HG.out]))
    have hc1 : ∀ w' : World, Below w.heap.size w w' → (convert 22 9 (.slice ao k c)).run Try.prog w' = .ok (.string (strOfNums (bnums f k))) w' := fun w' hb' => row_string w' Try.underlying22 Try.underlying5 Try.underlying9 (by rw [← bcells_nums, ← bcells_take f n k hkn]; exact ((HR.out.later hb').pre k hkn))
    have HC1 := Lib.hid hc1
    clear hc1
    refine wp_plan (fun w' => Below w.heap.size w w' ∧ (convert 22 9 (.slice ao k c)).run Try.prog w' = .ok (.string (strOfNums (bnums f k))) w') [13, 14] [0, 1, 2, 3, 4, 5, 6, 7, 8, 9, 10, 11, 12, 15, 16, 17, 18, 13, 14, 19, 20, 21] (by kernel_rfl) (by kernel_rfl) ⟨hb1.drew, HC1.out _ hb1.drew⟩ (fun hHeld => ?_)
    iterate 17 (refine wpT_take rfl (by rfl) (by rfl) (by intro w' hSw; (try dsimp only at hSw); go_simp; (try with_reducible rfl)) (by assumption) ?_; (try simp only [Act.put, List.setIfInBounds_toArray, List.set_cons_zero, List.set_cons_succ]))
    (refine wpT_step rfl (by rfl) (fun K hK => ?_); go_simp)
    refine (put_any none 0 0 [] x _ (by omega) hx0 hx1 (row_nil _ _)).mono ?_
    rintro e w2 ⟨g, cap, rfl, hown, hbel⟩
    have e3 : 0 + (putL x).length = k := by rw [HP.out, bcells_len, Nat.zero_add]
    rw [e3] at hown ⊢
    have hbel2 := hb1.drew.trans (hbel.mono hb1.size)
    have hcC := row_string (P := Try.prog) (T := 22) (S := 9) (zs := bnums f k) w2 Try.underlying22 Try.underlying5 Try.underlying9 (by rw [← bcells_nums, ← HP.out]; exact row_own hown (by rw [HP.out]; exact bcells_one _ _))
    clear hown hbel e3
    (refine hK.out _ _ _ (fun _ h => h) (⟨hbel2, HC1.out _ hbel2⟩) (fun hHeld => ?_); clear hK; clear K; (try simp only [Act.put, List.setIfInBounds_toArray, List.set_cons_zero, List.set_cons_succ]))
    (refine wpT_step rfl (by rfl) (fun K hK => ?_); go_simp)
    (refine hK.out _ _ _ (fun _ h => h) (⟨hbel2, HC1.out _ hbel2⟩) (fun hHeld => ?_); clear hK; clear K; (try simp only [Act.put, List.setIfInBounds_toArray, List.set_cons_zero, List.set_cons_succ]))
    iterate 3 (refine wpT_take rfl (by rfl) (by rfl) (by intro w' hSw; (try dsimp only at hSw); go_simp; (try with_reducible rfl)) (by assumption) ?_; (try simp only [Act.put, List.setIfInBounds_toArray, List.set_cons_zero, List.set_cons_succ]))
    (refine wpT_nil ?_)
    go_wp2
    go_ret
    exact ⟨rfl, hbel2⟩
end Go.Proofs.Ytpifenhboblcfaa
