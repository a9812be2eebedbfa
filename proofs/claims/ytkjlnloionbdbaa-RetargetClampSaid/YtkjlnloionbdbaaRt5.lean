/- RetargetClamp: the walk of the law (made by gen_rt.py). -/
import Derived.Test.YtkjlnloionbdbaaRt4
namespace Go.Proofs.Ytkjlnloionbdbaa
set_option linter.unusedVariables false
set_option linter.unusedSimpArgs false
open Go.RowKit

set_option maxRecDepth 100000 in
set_option maxHeartbeats 4000000 in
theorem clamplaw_walk (a b sp h iv : Int) (hh : -9223372036854775808 ≤ h ∧ h ≤ 9223372036854775807) (w : World) :
    Calls Try.prog 13 #[.int .i64 a, .int .i64 b, .int .i64 sp, .int .i64 h, .int .i64 iv] w fun e w' => e = .returned (.bool true) ∧ Below w.heap.size w w' := by
  obtain ⟨s1, h1⟩ : ∃ x, min sp 1099511627776 = x := ⟨_, rfl⟩
  obtain ⟨s, h2⟩ : ∃ x, max 4 s1 = x := ⟨_, rfl⟩
  have hs : 4 ≤ s ∧ s ≤ 1099511627776 := by omega
  obtain ⟨q, hq⟩ : ∃ q, s / 4 = q := ⟨_, rfl⟩
  have hq2 : s.tdiv 4 = q := by rw [Int.tdiv_eq_ediv_of_nonneg (by omega)]; exact hq
  have hw1 : IntKind.i64.wrap q = q := by rw [IntKind.wrap_i64]; omega
  have hw2 : IntKind.i64.wrap (4 * s) = 4 * s := by rw [IntKind.wrap_i64]; omega
  obtain ⟨x, hx⟩ : ∃ x, clampV a sp = x := ⟨_, rfl⟩
  obtain ⟨y, hy⟩ : ∃ y, clampV b sp = y := ⟨_, rfl⟩
  obtain ⟨f, hf⟩ : ∃ f, firstV h iv = f := ⟨_, rfl⟩
  obtain ⟨m, hm⟩ : ∃ m, max 0 h = m := ⟨_, rfl⟩
  have hxx : clampV x sp = x := by rw [← hx]; unfold clampV; omega
  have b1 : decide (q ≤ x) = true := by rw [← hx]; unfold clampV; apply decide_eq_true; omega
  have b2 : decide (x ≤ 4 * s) = true := by rw [← hx]; unfold clampV; apply decide_eq_true; omega
  have b3 : decide (0 ≤ f) = true := by rw [← hf]; unfold firstV; apply decide_eq_true; split <;> omega
  have b4 : decide (f ≤ m) = true := by rw [← hf]; unfold firstV; apply decide_eq_true; split <;> omega
  obtain ⟨g1, e1⟩ : ∃ g, decide (b < a) = g := ⟨_, rfl⟩
  obtain ⟨g2, e2⟩ : ∃ g, decide (a < q) = g := ⟨_, rfl⟩
  obtain ⟨g3, e3⟩ : ∃ g, decide (4 * s < a) = g := ⟨_, rfl⟩
  obtain ⟨g4, e4⟩ : ∃ g, decide (iv < 1) = g := ⟨_, rfl⟩
  obtain ⟨g5, e5⟩ : ∃ g, decide (1048576 < iv) = g := ⟨_, rfl⟩
  obtain ⟨g6, e6⟩ : ∃ g, decide (h < iv) = g := ⟨_, rfl⟩
  have I1 : g1 = false → decide (x ≤ y) = true := by
    intro c
    rw [c] at e1
    have e1 : ¬ b < a := by simpa using e1
    apply decide_eq_true
    rw [← hx, ← hy]; unfold clampV; omega
  have I2 : g2 = false → g3 = false → (x == a) = true := by
    intro c c'
    rw [c] at e2
    rw [c'] at e3
    have e2 : ¬ a < q := by simpa using e2
    have e3 : ¬ 4 * s < a := by simpa using e3
    have : x = a := by rw [← hx]; unfold clampV; omega
    simpa using this
  obtain ⟨d, hd⟩ : ∃ d, IntKind.i64.wrap (h - iv) = d := ⟨_, rfl⟩
  have I3 : g4 = false → g5 = false → g6 = false → (f == d) = true := by
    intro c c' c''
    rw [c] at e4
    rw [c'] at e5
    rw [c''] at e6
    have e4 : ¬ iv < 1 := by simpa using e4
    have e5 : ¬ 1048576 < iv := by simpa using e5
    have e6 : ¬ h < iv := by simpa using e6
    have : f = d := by
      rw [← hd, IntKind.wrap_i64, ← hf]
      unfold firstV
      split <;> omega
    simpa using this
  have HC1 := Lib.hid (fun w => hx ▸ clamp_any a sp w)
  have HC2 := Lib.hid (fun w => hy ▸ clamp_any b sp w)
  have HC3 := Lib.hid (fun w => hxx ▸ clamp_any x sp w)
  have HF := Lib.hid (fun w => hf ▸ first_any h iv hh w)
  clear hx hy hf hxx hq hh hs
  have hB := Below.refl w.heap.size w
  go_enter Try.func13, Try.ntmps13
  go_wp2_with (first | (go_at_call 40; refine (awake13_any _).mono ?_; rintro e w1 ⟨rfl, hb⟩; have hB : Below w.heap.size w w1 := (by refine bl_then ?_ hb; (repeat (first | exact hB | refine bl_al ?_ _ | refine Below.setCell ?_ (by first | exact hgs | exact Nat.le_succ_of_le hgs | exact hgs2 | exact hgs3) _ | refine Below.drew ?_ | refine bl_drewN ?_ _))); clear hb) | (go_at_call 47; (first | (with_reducible refine (HC3.out _).mono ?_) | (with_reducible refine (HC1.out _).mono ?_) | (with_reducible refine (HC2.out _).mono ?_)); rintro e w1 ⟨rfl, hb⟩; have hB : Below w.heap.size w w1 := (by refine bl_then ?_ hb; (repeat (first | exact hB | refine bl_al ?_ _ | refine Below.setCell ?_ (by first | exact hgs | exact Nat.le_succ_of_le hgs | exact hgs2 | exact hgs3) _ | refine Below.drew ?_ | refine bl_drewN ?_ _))); clear hb) | (go_at_call 49; (with_reducible refine (HF.out _).mono ?_); rintro e w1 ⟨rfl, hb⟩; have hB : Below w.heap.size w w1 := (by refine bl_then ?_ hb; (repeat (first | exact hB | refine bl_al ?_ _ | refine Below.setCell ?_ (by first | exact hgs | exact Nat.le_succ_of_le hgs | exact hgs2 | exact hgs3) _ | refine Below.drew ?_ | refine bl_drewN ?_ _))); clear hb))
  all_goals
    go_ret
    exact ⟨rfl, by (repeat (first | exact hB | refine bl_al ?_ _ | refine Below.setCell ?_ (by first | exact hgs | exact Nat.le_succ_of_le hgs | exact hgs2 | exact hgs3) _ | refine Below.drew ?_ | refine bl_drewN ?_ _))⟩
end Go.Proofs.Ytkjlnloionbdbaa
