/- Package hash: Text. (hM) -/
import Derived.Test.YtddcceifblpmbaaDoorBy6
import Derived.Test.YtddcceifblpmbaaDoorApp2
namespace Go.Proofs.YtddcceifblpmbaaDoor
set_option linter.unusedVariables false
set_option linter.unusedSimpArgs false
open Go.RowKit

/-- a hash's digits of sixteen, the highest first -/
def txN (f : Nat → Int) (j : Nat) : Int := if j % 2 = 0 then f (31 - j / 2) / 16 else f (31 - j / 2) % 16
def txC (f : Nat → Int) (j : Nat) : Int := hexd (txN f j)
def textT (f : Nat → Int) : ByteArray := strOfNums (bnums (txC f) 64)
theorem u8_and15t : ∀ x : Fin 256, bits .and .u8 (x.val : Int) 15 = (x.val : Int) % 16 := by decide +kernel
theorem u8_and15 (x : Int) (h : 0 ≤ x ∧ x < 256) : bits .and .u8 x 15 = x % 16 := by
  have := u8_and15t ⟨x.toNat, by omega⟩
  simpa [Int.toNat_of_nonneg h.1] using this
theorem bcells_add2 (F : Nat → Int) (k : Nat) : bcells F (k + 2) = bcells F k ++ [.int .u8 (F k), .int .u8 (F (k + 1))] := by
  simp [bcells, List.range_succ]
theorem txN_b (f : Nat → Int) (hf : ∀ i, 0 ≤ f i ∧ f i < 256) (j : Nat) : 0 ≤ txN f j ∧ txN f j < 16 := by
  have := hf (31 - j / 2)
  unfold txN
  split <;> omega
/-- the relation of Text's loop -/
def TxRel (B : Nat) (w1 : World) (f : Nat → Int) (t i : Value) (wr : World) : Prop :=
  ∃ (j : Nat) (ao : Option Addr) (c : Nat), j ≤ 32 ∧ i = .int .i64 (31 - (j : Int)) ∧ t = .slice ao (2 * j) c ∧ OwnN B 5 1 wr ao (2 * j) c (bcells (txC f) (2 * j)) ∧ Below B w1 wr ∧ w1.heap.size ≤ wr.heap.size

set_option maxRecDepth 100000 in
set_option maxHeartbeats 1000000 in
theorem text_any (f : Nat → Int) (hf : ∀ i, 0 ≤ f i ∧ f i < 256) (w : World) :
    Calls Tryd.prog 16 #[arr32 f] w fun e w' => e = .returned (.string (textT f)) ∧ Below w.heap.size w w' := by
  have HFb := Lib.hid hf
  obtain ⟨i5, hi5, hz0, hz1, hz2⟩ := info_parts eltU8.hi
  have hmk : ∀ x : World, (Instr.makeSlice 27 (.int .i64 0) (.int .i64 64)).run Tryd.prog x = .ok (.slice (some ⟨x.heap.size, 0, none⟩) 0 64) (x.alloc (.cells (madeCells (Value.cells (.int .u8 0)) 64) 5)) := fun x => by
    have h := run_make (P := Tryd.prog) x 27 5 i5 (.int .u8 0) eltU8.ht hi5 hz0 .i64 .i64 0 64 (by omega) (by omega) (by rw [hz2]; omega) (by omega)
    rw [hz1] at h
    exact h
  obtain ⟨mc, hmc⟩ : ∃ mc, madeCells (Value.cells (.int .u8 0)) 64 = mc := ⟨_, rfl⟩
  have hms : mc.size = 64 := by rw [← hmc]; exact size_madeCells _ _
  rw [hmc] at hmk
  have HMS := Lib.hid hms
  have hB := Below.refl w.heap.size w
  clear hf hi5 hz0 hz1 hz2 hmc hms
  go_enter Tryd.func16, Tryd.ntmps16
  go_wp2
  clear hmk
  obtain ⟨w1, hw1⟩ : ∃ w1, w.alloc (.cells (b8l f 32).toArray 23) = w1 := ⟨_, rfl⟩
  have hM1 := Mem.al (mem_nil w) (b8l f 32) 23
  have hs1 : w1.heap.size = w.heap.size + 1 := by rw [← hw1]; simp
  have hB1 : Below w.heap.size w w1 := by rw [← hw1]; exact below_alloc w _
  rw [hw1] at hM1 ⊢
  have hown2 := World.ownsRow_made (base := w1.heap.size) w1 mc 64 (e := 5) (size := 1) (Nat.le_refl _) (by unfold maxLen; omega) HMS.out
  have hB2 : Below w1.heap.size w1 (w1.alloc (.cells mc 5)) := below_alloc w1 _
  have HM1 := Lib.hid hM1
  have HO2 := Lib.hid hown2
  have HS1 := Lib.hid hs1
  clear hw1 hM1 hown2 hs1
  go_loopw [3, 4] (fun t i wr => TxRel w1.heap.size w1 f t i wr) (fun _ i _ => ((intOf i) + 1).toNat)
  case atStart =>
    refine ⟨0, some ⟨w1.heap.size, 0, none⟩, 64, by omega, rfl, by rw [HS1.out], .inr ⟨_, rfl, ?_⟩, hB2, hB2.size⟩
    exact HO2.out
  case round =>
    obtain ⟨j, ao, c, hj, rfl, rfl, hown, hbel, hsz⟩ := hrel
    clear HO2 hB2
    have HO := Lib.hid hown
    clear hown
    by_cases hlt : j < 32
    · obtain ⟨p, hp⟩ : ∃ p : Nat, p + j = 31 := ⟨31 - j, by omega⟩
      have hi : 31 - (j : Int) = (p : Int) := by omega
      rw [hi]
      obtain ⟨v, hv⟩ : ∃ v, f p = v := ⟨_, rfl⟩
      have hvb := HFb.out p
      rw [hv] at hvb
      have hc := cellsAt_get (Mem.later hbel HM1.out).1.2.2 (b8l_get f 32 p (by omega))
      rw [hv] at hc
      have hge : (0 : Int) ≤ (p : Int) := by omega
      have hp32 : (p : Int) < 32 := by omega
      have ha := u8_and15 v hvb
      have hd1 : 0 ≤ v / 16 ∧ v / 16 < 16 := by omega
      have hd2 : 0 ≤ v % 16 ∧ v % 16 < 16 := by omega
      have HV := Lib.hid (And.intro hv hp)
      clear hv hi hp hvb
      go_wp2
      refine wp_plan (fun x => x.cell? ⟨w.heap.size, p, none⟩ = some (.int .u8 v)) [11, 12] [0, 1, 2, 3, 4, 5, 6, 7, 8, 9, 10, 11, 12, 13] (by kernel_rfl) (by kernel_rfl) (by simpa using hc) (fun hHeld => ?_)
      iterate 11 (refine wpT_take rfl (by rfl) (by rfl) (by intro w' hSw; (try dsimp only [Mem, cellsAt] at hSw); go_simp; (try with_reducible rfl)) (by assumption) ?_; (try simp only [Act.put, List.setIfInBounds_toArray, List.set_cons_zero, List.set_cons_succ]))
      (refine wpT_step rfl (by rfl) (fun K hK => ?_); go_simp)
      rw [hex_tab _ hd1, hex_tab _ hd2]
      have hx1 : (if (2 * j) % 2 = 0 then f (31 - 2 * j / 2) / 16 else f (31 - 2 * j / 2) % 16) = v / 16 := by
        rw [if_pos (by omega), show 31 - 2 * j / 2 = p by have := HV.out.2; omega, HV.out.1]
      have hx2 : (if (2 * j + 1) % 2 = 0 then f (31 - (2 * j + 1) / 2) / 16 else f (31 - (2 * j + 1) / 2) % 16) = v % 16 := by
        rw [if_neg (by omega), show 31 - (2 * j + 1) / 2 = p by have := HV.out.2; omega, HV.out.1]
      have HC2 := Lib.hid (show txC f (2 * j) = hexd (v / 16) ∧ txC f (2 * j + 1) = hexd (v % 16) from ⟨congrArg hexd hx1, congrArg hexd hx2⟩)
      clear hx1 hx2
      have hlw : w.heap.size < wr.heap.size := by have := HS1.out; omega
      have hbq : Below wr.heap.size wr (wr.alloc (.cells #[.int .u8 (hexd (v / 16)), .int .u8 (hexd (v % 16))] 5)).drew := by (repeat (first | exact Below.refl _ _ | refine Below.drew ?_ | refine bl_drewN ?_ _ | (refine Below.alloc ?_ (by first | exact Nat.le_refl _ | (simp; done) | (simp; omega)) _)))
      have hq := (hbq.cell (p := ⟨w.heap.size, p, none⟩) hlw).trans hc
      (refine hK.out _ _ _ (fun _ h => h) (hq) (fun hHeld => ?_); clear hK; clear K; (try simp only [Act.put, List.setIfInBounds_toArray, List.set_cons_zero, List.set_cons_succ]))
      (refine wpT_step rfl (by rfl) (fun K hK => ?_))
      refine step_appN eltU8 _ rfl _ _ rfl w1.heap.size (by simp; omega) ao (2 * j) c _ rfl (HO.out.later (by (repeat (first | exact Below.refl _ _ | refine Below.drew ?_ | refine bl_drewN ?_ _ | (refine Below.alloc ?_ (by first | exact Nat.le_refl _ | (simp; done) | (simp; omega)) _))))) _ 2 2 _ rfl (OwnN.row (OwnN.later (ownN_lit 0 5 1 wr (Nat.zero_le _) #[.int .u8 (hexd (v / 16)), .int .u8 (hexd (v % 16))] 2 (by decide) rfl) (by (repeat (first | exact Below.refl _ _ | refine Below.drew ?_ | refine bl_drewN ?_ _ | (refine Below.alloc ?_ (by first | exact Nat.le_refl _ | (simp; done) | (simp; omega)) _))))) (by intro u hu; simp at hu; rcases hu with rfl | rfl <;> rfl)) (fun _ => by decide) (by omega) ?_
      intro g2 cp2 w7 row hown7 hgrow7 hrow7
      have hrne : ∀ k, row = some k → w1.heap.size ≤ k := by
        intro k hk
        rcases HO.out with ⟨h0, _⟩ | ⟨g, h1, h2⟩
        · have := hrow7 k hk; rw [h0] at this; cases this
        · have hk2 := hrow7 k hk
          rw [h1] at hk2
          have hk3 : g = k := by cases hk2; rfl
          rw [← hk3]
          exact (h2.lt g rfl).1
      have hb7 : Below w1.heap.size w1 w7 := (((hbel.alloc hsz _).drew).grown hgrow7 (by simp; omega) hrne)
      have hsz7 := hgrow7.size
      replace hown7 := Lib.hid hown7
      (refine hK.out _ _ _ (fun _ h => h) (grown_cell hgrow7 hHeld (fun k hk => by have := hrne k hk; have := HS1.out; omega)) (fun hHeld => ?_); clear hK; clear K; (try simp only [Act.put, List.setIfInBounds_toArray, List.set_cons_zero, List.set_cons_succ]))
      clear hgrow7 hrow7 hrne
      iterate 1 (refine wpT_take rfl (by rfl) (by rfl) (by intro w' hSw; (try dsimp only [Mem, cellsAt] at hSw); go_simp; (try with_reducible rfl)) (by assumption) ?_; (try simp only [Act.put, List.setIfInBounds_toArray, List.set_cons_zero, List.set_cons_succ]))
      (refine wpT_nil ?_)
      go_wp2
      have hpi : (p : Int) - 1 = 31 - ((j + 1 : Nat) : Int) := by have := HV.out.2; omega
      have hrow : OwnN w1.heap.size 5 1 w7 (some ⟨g2, 0, none⟩) (2 * (j + 1)) cp2 (bcells (txC f) (2 * (j + 1))) := by
        refine .inr ⟨g2, rfl, ?_⟩
        have h := hown7.out
        rw [show 2 * (j + 1) = 2 * j + 2 by omega, bcells_add2, HC2.out.1, HC2.out.2]
        exact h
      simp only [World.size_alloc, size_drew] at hsz7
      refine ⟨⟨j + 1, some ⟨g2, 0, none⟩, cp2, by omega, by rw [hpi], rfl, hrow, hb7, by omega⟩, by simp only [intOf]; omega⟩
    · have hje : j = 32 := by omega
      subst hje
      have hs := row_string (P := Tryd.prog) (T := 27) (S := 9) (zs := bnums (txC f) 64) wr Tryd.underlying27 Tryd.underlying5 Tryd.underlying9 (ao := ao) (n := 64) (c := c) (by
        rw [← bcells_nums]
        exact HO.out.row (bcells_one _ _))
      clear HO
      go_wp2
      go_ret
      exact ⟨rfl, bl_then hB1 hbel⟩
end Go.Proofs.YtddcceifblpmbaaDoor
