/- Package retarget: Next (made by gen_rt.py). (hM) -/
import Derived.Test.YtkjlnloionbdbaaRt2
import Derived.Test.YtkjlnloionbdbaaTg6
namespace Go.Proofs.Ytkjlnloionbdbaa
set_option linter.unusedVariables false
set_option linter.unusedSimpArgs false
open Go.RowKit

def nextV (lim iv sp fu ix orp : Int) (n : Nat) (h tm bt fs : Int) : Int :=
  if saneV lim iv sp fu ix orp n = true then (if h ≤ 0 ∨ h % iv ≠ 0 then bt else scaleV bt (clampV (tm - fs) sp) sp lim) else lim
/-- what Next's two boxes hold -/
def NextBox (B : Nat) (lim iv sp tm bt : Int) (x : World) : Prop :=
  B + 1 < x.heap.size ∧ x.cell? ⟨B, 0, none⟩ = some (.int .u32 lim) ∧ x.cell? ⟨B, 1, none⟩ = some (.int .i64 iv) ∧ x.cell? ⟨B, 2, none⟩ = some (.int .i64 sp) ∧ x.cell? ⟨B + 1, 65, none⟩ = some (.int .u32 tm) ∧ x.cell? ⟨B + 1, 66, none⟩ = some (.int .u32 bt)
theorem NextBox.later {B : Nat} {lim iv sp tm bt : Int} {x y : World} (h : NextBox B lim iv sp tm bt x) (hb : Below x.heap.size x y) : NextBox B lim iv sp tm bt y := by
  obtain ⟨h0, h1, h2, h3, h4, h5⟩ := h
  have hB : B < x.heap.size := by omega
  exact ⟨Nat.lt_of_lt_of_le h0 hb.size, by rw [hb.cell (p := ⟨B, 0, none⟩) hB]; exact h1, by rw [hb.cell (p := ⟨B, 1, none⟩) hB]; exact h2, by rw [hb.cell (p := ⟨B, 2, none⟩) hB]; exact h3,
    by rw [hb.cell (p := ⟨B + 1, 65, none⟩) h0]; exact h4, by rw [hb.cell (p := ⟨B + 1, 66, none⟩) h0]; exact h5⟩
theorem sane_iv {lim iv sp fu ix orp : Int} {n : Nat} (h : saneV lim iv sp fu ix orp n = true) : (1 ≤ iv ∧ iv ≤ 1048576) ∧ (4 ≤ sp ∧ sp ≤ 1099511627776) ∧ expOk lim = true := by
  unfold saneV inB at h
  simp only [Bool.and_eq_true, decide_eq_true_eq] at h
  obtain ⟨⟨⟨⟨⟨⟨h1, h2⟩, h3⟩, _⟩, _⟩, _⟩, _⟩ := h
  exact ⟨h1, h2, h3⟩
theorem clamp_le (a sp : Int) : 1 ≤ clampV a sp ∧ clampV a sp ≤ 4398046511104 := by unfold clampV; omega

set_option maxRecDepth 100000 in
set_option maxHeartbeats 2000000 in
theorem next_any (lim iv sp fu ix orp : Int) (ao : Option Addr) (n cp : Nat) (hl : 0 ≤ lim ∧ lim < 4294967296) (h : Int) (hd : Array Value) (hsz : hd.size = 68) (tm bt fs : Int) (h65 : hd[65]? = some (.int .u32 tm)) (h66 : hd[66]? = some (.int .u32 bt))
    (htm : 0 ≤ tm ∧ tm < 4294967296) (hbt : 0 ≤ bt ∧ bt < 4294967296) (hfs : 0 ≤ fs ∧ fs < 4294967296) (w : World) :
    Calls Try.prog 43 #[PV lim iv sp fu ix orp ao n cp, .int .i64 h, .agg hd, .int .u32 fs] w fun e w' => e = .returned (.int .u32 (nextV lim iv sp fu ix orp n h tm bt fs)) ∧ Below w.heap.size w w' := by
  have HS := Lib.hid (fun w => sane_any lim iv sp fu ix orp ao n cp hl w)
  cases hsn : saneV lim iv sp fu ix orp n with
  | false =>
    have hv : nextV lim iv sp fu ix orp n h tm bt fs = lim := if_neg (by rw [hsn]; simp)
    rw [hv]
    rw [hsn] at HS
    clear hv hsn hl htm hbt hfs
    go_enter Try.func43, Try.ntmps43
    go_wp2_with (go_at_call 41; (with_reducible refine (HS.out _).mono ?_); rintro e w1 ⟨rfl, hb⟩; have hN : NextBox w.heap.size lim iv sp tm bt w1 := NextBox.later (by refine ⟨?_, ?_, ?_, ?_, ?_, ?_⟩ <;> simp [h65, h66]) hb; have hN2 := hN; unfold NextBox at hN2)
    go_ret
    exact ⟨rfl, bl_then (bl_al (bl_al (Below.refl _ _) _) _) hb⟩
  | true =>
    obtain ⟨hiv, hspb, hokl⟩ := sane_iv hsn
    rw [hsn] at HS
    have hiv0 : ¬ iv = 0 := by omega
    obtain ⟨r, hr⟩ : ∃ r, h.tmod iv = r := ⟨_, rfl⟩
    by_cases hh : h ≤ 0
    · have hv : nextV lim iv sp fu ix orp n h tm bt fs = bt := by unfold nextV; rw [if_pos hsn, if_pos (.inl hh)]
      rw [hv]
      clear hv hsn hl htm hbt hfs hr hiv hspb hokl
      go_enter Try.func43, Try.ntmps43
      go_wp2_with (go_at_call 41; (with_reducible refine (HS.out _).mono ?_); rintro e w1 ⟨rfl, hb⟩; have hN : NextBox w.heap.size lim iv sp tm bt w1 := NextBox.later (by refine ⟨?_, ?_, ?_, ?_, ?_, ?_⟩ <;> simp [h65, h66]) hb; have hN2 := hN; unfold NextBox at hN2)
      go_ret
      exact ⟨rfl, bl_then (bl_al (bl_al (Below.refl _ _) _) _) hb⟩
    have hre : h % iv = r := by rw [← hr, Int.tmod_eq_emod_of_nonneg (by omega)]
    have hr0 := Int.emod_nonneg h hiv0
    have hr1 := Int.emod_lt_of_pos h (show 0 < iv by omega)
    rw [hre] at hr0 hr1
    have hwr : IntKind.i64.wrap r = r := by rw [IntKind.wrap_i64]; omega
    by_cases hrz : r = 0
    · have hv : nextV lim iv sp fu ix orp n h tm bt fs = scaleV bt (clampV (tm - fs) sp) sp lim := by
        unfold nextV
        rw [if_pos hsn, if_neg (by rw [hre]; omega)]
      rw [hv]
      subst hrz
      have HC := Lib.hid (fun w => clamp_any (tm - fs) sp w)
      have hcl := clamp_le (tm - fs) sp
      obtain ⟨c, hc⟩ : ∃ c, clampV (tm - fs) sp = c := ⟨_, rfl⟩
      rw [hc] at HC hcl ⊢
      have HSc := Lib.hid (fun w => scale_any bt c sp lim hbt hl ⟨by omega, by unfold WI; omega⟩ ⟨by omega, by unfold WI; omega⟩ w)
      obtain ⟨res, hres⟩ : ∃ x, scaleV bt c sp lim = x := ⟨_, rfl⟩
      rw [hres] at HSc ⊢
      have hw1 : IntKind.i64.wrap tm = tm := by rw [IntKind.wrap_i64]; omega
      have hw2 : IntKind.i64.wrap fs = fs := by rw [IntKind.wrap_i64]; omega
      have hw3 : IntKind.i64.wrap (tm - fs) = tm - fs := by rw [IntKind.wrap_i64]; omega
      have hw4 : IntKind.u64.wrap c = c := by rw [IntKind.wrap_u64]; omega
      have hw5 : IntKind.u64.wrap sp = sp := by rw [IntKind.wrap_u64]; omega
      clear hv hsn hl htm hbt hfs hiv hspb hokl hre hr0 hr1 hc hres hcl
      go_enter Try.func43, Try.ntmps43
      go_wp2_with (first | (go_at_call 41; (with_reducible refine (HS.out _).mono ?_); rintro e w1 ⟨rfl, hb⟩; have hN : NextBox w.heap.size lim iv sp tm bt w1 := NextBox.later (by refine ⟨?_, ?_, ?_, ?_, ?_, ?_⟩ <;> simp [h65, h66]) hb; have hN2 := hN; unfold NextBox at hN2) | (go_at_call 47; (with_reducible refine (HC.out _).mono ?_); rintro e w2 ⟨rfl, hb2⟩; have hN3 := NextBox.later hN hb2; clear hN2; have hN2 := hN3; unfold NextBox at hN2) | (go_at_call 51; (with_reducible refine (HSc.out _).mono ?_); rintro e w3 ⟨rfl, hb3⟩))
      go_ret
      exact ⟨rfl, bl_then (bl_then (bl_then (bl_al (bl_al (Below.refl _ _) _) _) hb) hb2) hb3⟩
    · have hv : nextV lim iv sp fu ix orp n h tm bt fs = bt := by
        unfold nextV
        rw [if_pos hsn, if_pos (.inr (by rw [hre]; exact hrz))]
      rw [hv]
      have hrb : (r != 0) = true := by simpa using hrz
      clear hv hsn hl htm hbt hfs hiv hspb hokl hre hr0 hr1
      go_enter Try.func43, Try.ntmps43
      go_wp2_with (go_at_call 41; (with_reducible refine (HS.out _).mono ?_); rintro e w1 ⟨rfl, hb⟩; have hN : NextBox w.heap.size lim iv sp tm bt w1 := NextBox.later (by refine ⟨?_, ?_, ?_, ?_, ?_, ?_⟩ <;> simp [h65, h66]) hb; have hN2 := hN; unfold NextBox at hN2)
      go_ret
      exact ⟨rfl, bl_then (bl_al (bl_al (Below.refl _ _) _) _) hb⟩
end Go.Proofs.Ytkjlnloionbdbaa
