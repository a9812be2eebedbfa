/- Package u256: Div, the walk. -/
import Derived.Test.YtfbhpkhpkaeagaaDoorU9
namespace Go.Proofs.YtfbhpkhpkaeagaaDoor
set_option linter.unusedVariables false
set_option linter.unusedSimpArgs false
open Go.RowKit

theorem Mem.setN {w : World} {b k : Nat} {v : Value} {vs : List Value} {l : List (Nat × List Value)} (hd : ∀ p ∈ l, p.1 ≠ b) (h : Mem w ((b, vs) :: l)) : Mem (w.setCell ⟨b, k, none⟩ v) ((b, vs.set k v) :: l) :=
  ⟨⟨by simpa using h.1.1, fun i => by rw [World.frozen?_setCell]; exact h.1.2.1 i, cellsAt_set (Nat.zero_le _) h.1.2.2⟩, Mem.far hd h.2⟩
theorem Mem.swap {w : World} {b b' : Nat} {vs vs' : List Value} {l : List (Nat × List Value)} (h : Mem w ((b, vs) :: (b', vs') :: l)) : Mem w ((b', vs') :: (b, vs) :: l) := ⟨h.2.1, h.1, h.2.2⟩
/-- four cells written one by one -/
def wset4 (w : World) (b : Nat) (x0 x1 x2 x3 : Int) : World :=
  (((w.setCell ⟨b, 0, none⟩ (.int .u64 x0)).setCell ⟨b, 1, none⟩ (.int .u64 x1)).setCell ⟨b, 2, none⟩ (.int .u64 x2)).setCell ⟨b, 3, none⟩ (.int .u64 x3)
theorem Mem.set4 {w : World} {b : Nat} {y0 y1 y2 y3 : Int} (x0 x1 x2 x3 : Int) {l : List (Nat × List Value)} (hd : ∀ p ∈ l, p.1 ≠ b) (h : Mem w ((b, [.int .u64 y0, .int .u64 y1, .int .u64 y2, .int .u64 y3]) :: l)) :
    Mem (wset4 w b x0 x1 x2 x3) ((b, [.int .u64 x0, .int .u64 x1, .int .u64 x2, .int .u64 x3]) :: l) :=
  (((h.setN (k := 0) (v := .int .u64 x0) hd).setN (k := 1) (v := .int .u64 x1) hd).setN (k := 2) (v := .int .u64 x2) hd).setN (k := 3) (v := .int .u64 x3) hd
theorem Mem.far4 {w : World} {b : Nat} (x0 x1 x2 x3 : Int) {l : List (Nat × List Value)} (hd : ∀ p ∈ l, p.1 ≠ b) (h : Mem w l) : Mem (wset4 w b x0 x1 x2 x3) l :=
  Mem.far hd (Mem.far hd (Mem.far hd (Mem.far hd h)))
theorem bl_set4 {a w : World} {b : Nat} (x0 x1 x2 x3 : Int) (hb : a.heap.size ≤ b) (h : Below a.heap.size a w) : Below a.heap.size a (wset4 w b x0 x1 x2 x3) :=
  (((h.setCell (p := ⟨b, 0, none⟩) hb _).setCell (p := ⟨b, 1, none⟩) hb _).setCell (p := ⟨b, 2, none⟩) hb _).setCell (p := ⟨b, 3, none⟩) hb _

/-- the relation of Div's loop: j digits are still to come -/
def DivRel (w : World) (a0 a1 a2 a3 b0 b1 b2 b3 : Int) (g0 g1 g2 g3 g4 g5 : Nat) (i : Value) (wr : World) : Prop :=
  ∃ (j : Nat) (t0 t1 t2 t3 l0 l1 l2 l3 : Int), j ≤ 256 ∧ i = .int .i64 ((j : Int) - 1) ∧ B4 t0 t1 t2 t3 ∧ B4 l0 l1 l2 l3 ∧
    N4 l0 l1 l2 l3 = N4 a0 a1 a2 a3 / 2 ^ j % N4 b0 b1 b2 b3 ∧ N4 t0 t1 t2 t3 = N4 a0 a1 a2 a3 / 2 ^ j / N4 b0 b1 b2 b3 * 2 ^ j ∧ Below w.heap.size w wr ∧
    Mem wr [(g5, [.int .u64 l0, .int .u64 l1, .int .u64 l2, .int .u64 l3]), (g4, [.int .u64 t0, .int .u64 t1, .int .u64 t2, .int .u64 t3]), (g3, [.int .u64 0, .int .u64 0, .int .u64 0, .int .u64 0]), (g2, [.int .u64 0, .int .u64 0, .int .u64 0, .int .u64 0]),
      (g1, [.int .u64 b0, .int .u64 b1, .int .u64 b2, .int .u64 b3]), (g0, [.int .u64 a0, .int .u64 a1, .int .u64 a2, .int .u64 a3])]

set_option maxRecDepth 100000 in
set_option maxHeartbeats 2000000 in
theorem div_n {a0 a1 a2 a3 b0 b1 b2 b3 : Int} (ha : B4 a0 a1 a2 a3) (hbb : B4 b0 b1 b2 b3) (hb0 : N4 b0 b1 b2 b3 ≠ 0) (w : World) :
    Calls Tryd.prog 30 #[U4 a0 a1 a2 a3, U4 b0 b1 b2 b3] w fun e w' =>
      ∃ q0 q1 q2 q3 r0 r1 r2 r3 : Int, e = .returned (.tuple #[U4 q0 q1 q2 q3, U4 r0 r1 r2 r3, .bool true]) ∧ B4 q0 q1 q2 q3 ∧ B4 r0 r1 r2 r3 ∧
        N4 q0 q1 q2 q3 = N4 a0 a1 a2 a3 / N4 b0 b1 b2 b3 ∧ N4 r0 r1 r2 r3 = N4 a0 a1 a2 a3 % N4 b0 b1 b2 b3 ∧ Below w.heap.size w w' := by
  have hE := eq_n hbb b4_zero
  rw [n4_zero, decide_eq_false hb0] at hE
  obtain ⟨L, hL, hL1, hL2, _⟩ := len_holds ha
  have HL := Lib.hid (fun w => hL ▸ len_n ha w)
  have hB := Below.refl w.heap.size w
  have hM := Lib.hid (mem_nil w)
  have hF : True := trivial
  have HX := Lib.hid (show B4 a0 a1 a2 a3 ∧ B4 b0 b1 b2 b3 ∧ N4 b0 b1 b2 b3 ≠ 0 from ⟨ha, hbb, hb0⟩)
  have HL2 := Lib.hid hL2
  clear hL hL2 ha hbb hb0
  go_enter Tryd.func30, Tryd.ntmps30
  go_wp2_with (go_at_call 36; (with_reducible refine (HL.out _).mono ?_); rintro e w1 ⟨rfl, hb⟩; have hB : Below w.heap.size w w1 := (by refine bl_then ?_ hb; (repeat (first | exact hB | refine bl_al ?_ _ | refine Below.setCell ?_ (by first | exact hgs | exact Nat.le_succ_of_le hgs | exact hgs2 | exact hgs3) _ | refine Below.drew ?_ | refine bl_drewN ?_ _))); (first | with_reducible have hM2 := Mem.later hb (hM.out) | with_reducible have hM2 := Mem.later hb (Mem.al (hM.out) _ _) | with_reducible have hM2 := Mem.later hb (Mem.al (Mem.al (hM.out) _ _) _ _) | with_reducible have hM2 := Mem.later hb (Mem.al (Mem.al (Mem.al (hM.out) _ _) _ _) _ _) | with_reducible have hM2 := Mem.later hb (Mem.al (Mem.al (Mem.al (Mem.al (hM.out) _ _) _ _) _ _) _ _) | with_reducible have hM2 := Mem.later hb (Mem.drew (hM.out)) | with_reducible have hM2 := Mem.later hb (Mem.drew (Mem.al (hM.out) _ _)) | with_reducible have hM2 := Mem.later hb (Mem.al (Mem.drew (hM.out)) _ _) | with_reducible have hM2 := Mem.later hb (Mem.al (Mem.drew (Mem.al (hM.out) _ _)) _ _) | with_reducible have hM2 := Mem.later hb (Mem.drew (Mem.al (Mem.al (hM.out) _ _) _ _)) | with_reducible have hM2 := Mem.later hb (Mem.al (Mem.al (Mem.drew (hM.out)) _ _) _ _) | with_reducible have hM2 := Mem.later hb (Mem.drew (Mem.drew (hM.out))) | with_reducible have hM2 := Mem.later hb (Mem.drew (Mem.al (Mem.drew (hM.out)) _ _)) | with_reducible have hM2 := Mem.later hb (Mem.drew (Mem.al (Mem.al (Mem.al (hM.out) _ _) _ _) _ _)) | with_reducible have hM2 := Mem.later hb (Mem.al (Mem.al (Mem.drew (Mem.al (hM.out) _ _)) _ _) _ _) | with_reducible have hM2 := Mem.later hb (Mem.drew (Mem.al (Mem.drew (Mem.al (hM.out) _ _)) _ _)) | with_reducible have hM2 := Mem.later hb (Mem.al (Mem.al (Mem.al (Mem.al (Mem.al (hM.out) _ _) _ _) _ _) _ _) _ _) | with_reducible have hM2 := Mem.later hb (Mem.al (Mem.al (Mem.al (Mem.al (Mem.al (Mem.al (hM.out) _ _) _ _) _ _) _ _) _ _) _ _) | with_reducible have hM2 := Mem.later hb (Mem.al (Mem.al (Mem.al (Mem.al (Mem.al (Mem.al (Mem.al (hM.out) _ _) _ _) _ _) _ _) _ _) _ _) _ _) | with_reducible have hM2 := Mem.later hb (Mem.al (Mem.al (Mem.al (Mem.al (Mem.al (Mem.al (Mem.al (Mem.al (hM.out) _ _) _ _) _ _) _ _) _ _) _ _) _ _) _ _)); (try simp only [World.size_alloc, size_drew] at hM2); clear hM; have hM := Lib.hid hM2; clear hF; have hF := hM2; (try simp only [Mem, cellsAt, World.size_alloc, Nat.zero_add, Nat.reduceAdd, and_true] at hF); clear hM2; clear hb)
  have hg : w.heap.size < w.heap.size + 1 ∧ w.heap.size + 1 < w.heap.size + 1 + 1 ∧ w.heap.size + 1 + 1 < w.heap.size + 1 + 1 + 1 ∧ w.heap.size + 1 + 1 + 1 < w.heap.size + 1 + 1 + 1 + 1 ∧ w.heap.size + 1 + 1 + 1 + 1 < w.heap.size + 1 + 1 + 1 + 1 + 1 := by omega
  clear hF
  generalize w.heap.size + 1 + 1 + 1 + 1 + 1 = g5 at *
  generalize w.heap.size + 1 + 1 + 1 + 1 = g4 at *
  generalize w.heap.size + 1 + 1 + 1 = g3 at *
  generalize w.heap.size + 1 + 1 = g2 at *
  generalize w.heap.size + 1 = g1 at *
  have hE' := Lib.hid hE
  clear hE
  go_loopw [9] (fun i wr => DivRel w a0 a1 a2 a3 b0 b1 b2 b3 w.heap.size g1 g2 g3 g4 g5 i wr) (fun i _ => (intOf i + 1).toNat)
  case atStart =>
    refine ⟨L, 0, 0, 0, 0, 0, 0, 0, 0, hL1, rfl, b4_zero, b4_zero, ?_, ?_, hB, hM.out⟩
    · rw [n4_zero, Int.ediv_eq_zero_of_lt HX.out.1.nn.1 HL2.out]
      simp
    · rw [n4_zero, Int.ediv_eq_zero_of_lt HX.out.1.nn.1 HL2.out]
      simp
  case round =>
    obtain ⟨j, t0, t1, t2, t3, l0, l1, l2, l3, hj, rfl, ht, hl, hln, htn, hB, hm⟩ := hrel
    clear hM
    have hM := Lib.hid hm
    have hF := hm
    simp only [Mem, cellsAt, World.size_alloc, Nat.zero_add, Nat.reduceAdd, and_true] at hF
    clear hm
    have HT := Lib.hid (show B4 t0 t1 t2 t3 ∧ B4 l0 l1 l2 l3 from ⟨ht, hl⟩)
    have HN := Lib.hid (show N4 l0 l1 l2 l3 = N4 a0 a1 a2 a3 / 2 ^ j % N4 b0 b1 b2 b3 ∧ N4 t0 t1 t2 t3 = N4 a0 a1 a2 a3 / 2 ^ j / N4 b0 b1 b2 b3 * 2 ^ j from ⟨hln, htn⟩)
    clear hln htn
    cases j with
    | zero =>
      have h0 : ((0 : Nat) : Int) - 1 = -1 := rfl
      simp only [h0]
      go_wp2
      refine wp_plan (fun x => Mem x [(g5, [.int .u64 l0, .int .u64 l1, .int .u64 l2, .int .u64 l3]), (g4, [.int .u64 t0, .int .u64 t1, .int .u64 t2, .int .u64 t3])]) [2, 3] [0, 1, 2, 3, 4] (by kernel_rfl) (by kernel_rfl) (Mem.drew ⟨hM.out.1, hM.out.2.1, trivial⟩) (fun hHeld => ?_)
      have d2 : ∀ p ∈ [(g5, [Value.int .u64 l0, .int .u64 l1, .int .u64 l2, .int .u64 l3]), (g4, [.int .u64 t0, .int .u64 t1, .int .u64 t2, .int .u64 t3])], p.1 ≠ g2 := by
        intro p hp; simp at hp; rcases hp with rfl | rfl <;> (simp; omega)
      have d3 : ∀ p ∈ [(g5, [Value.int .u64 l0, .int .u64 l1, .int .u64 l2, .int .u64 l3]), (g4, [.int .u64 t0, .int .u64 t1, .int .u64 t2, .int .u64 t3])], p.1 ≠ g3 := by
        intro p hp; simp at hp; rcases hp with rfl | rfl <;> (simp; omega)
      have D2 := Lib.hid d2
      have D3 := Lib.hid d3
      clear d2 d3
      have hgs : w.heap.size ≤ g2 := by omega
      have hgs3 : w.heap.size ≤ g3 := by omega
      have HW : Hid (Mem wr [(g5, [.int .u64 l0, .int .u64 l1, .int .u64 l2, .int .u64 l3]), (g4, [.int .u64 t0, .int .u64 t1, .int .u64 t2, .int .u64 t3])]) := ⟨hM.out.1, hM.out.2.1, trivial⟩
      iterate 2 (refine wpT_take rfl (by rfl) (by rfl) (by intro w' hSw; (try dsimp only [Mem, cellsAt] at hSw); go_simp; (try with_reducible rfl)) (by assumption) ?_; (try simp only [Act.put, List.setIfInBounds_toArray, List.set_cons_zero, List.set_cons_succ]))
      (refine wpT_step rfl (by rfl) (fun K hK => ?_); go_simp)
      have HW1 := Lib.hid (Mem.far (k := 3) (v := .int .u64 t3) D2.out (Mem.far (k := 2) (v := .int .u64 t2) D2.out (Mem.far (k := 1) (v := .int .u64 t1) D2.out (Mem.far (k := 0) (v := .int .u64 t0) D2.out HW.out))))
      (refine hK.out _ _ _ (fun _ h => h) (Mem.drew HW1.out) (fun hHeld => ?_); clear hK; clear K; (try simp only [Act.put, List.setIfInBounds_toArray, List.set_cons_zero, List.set_cons_succ]))
      (refine wpT_step rfl (by rfl) (fun K hK => ?_); go_simp)
      have HW2 := Lib.hid (Mem.far (k := 3) (v := .int .u64 l3) D3.out (Mem.far (k := 2) (v := .int .u64 l2) D3.out (Mem.far (k := 1) (v := .int .u64 l1) D3.out (Mem.far (k := 0) (v := .int .u64 l0) D3.out HW1.out))))
      (refine hK.out _ _ _ (fun _ h => h) (Mem.drew HW2.out) (fun hHeld => ?_); clear hK; clear K; (try simp only [Act.put, List.setIfInBounds_toArray, List.set_cons_zero, List.set_cons_succ]))
      iterate 1 (refine wpT_take rfl (by rfl) (by rfl) (by intro w' hSw; (try dsimp only [Mem, cellsAt] at hSw); go_simp; (try with_reducible rfl)) (by assumption) ?_; (try simp only [Act.put, List.setIfInBounds_toArray, List.set_cons_zero, List.set_cons_succ]))
      (refine wpT_nil ?_)
      go_wp2
      have hR : Mem (wset4 (wset4 wr g2 t0 t1 t2 t3) g3 l0 l1 l2 l3).drew [(g3, [.int .u64 l0, .int .u64 l1, .int .u64 l2, .int .u64 l3]), (g2, [.int .u64 t0, .int .u64 t1, .int .u64 t2, .int .u64 t3])] := by
        have h1 : Mem wr [(g2, [.int .u64 0, .int .u64 0, .int .u64 0, .int .u64 0]), (g3, [.int .u64 0, .int .u64 0, .int .u64 0, .int .u64 0])] := ⟨hM.out.2.2.2.1, hM.out.2.2.1, trivial⟩
        have h2 := Mem.set4 t0 t1 t2 t3 (by intro p hp; simp at hp; subst hp; simp; omega) h1
        exact Mem.drew (Mem.set4 l0 l1 l2 l3 (by intro p hp; simp at hp; subst hp; simp; omega) ⟨h2.2.1, h2.1, trivial⟩)
      have hBl : Below w.heap.size w (wset4 (wset4 wr g2 t0 t1 t2 t3) g3 l0 l1 l2 l3).drew := (bl_set4 _ _ _ _ hgs3 (bl_set4 _ _ _ _ hgs hB)).drew
      simp only [Mem, cellsAt, Nat.zero_add, Nat.reduceAdd, and_true] at hR
      change bodyPost _ _ _ _ _ (wset4 (wset4 wr g2 t0 t1 t2 t3) g3 l0 l1 l2 l3).drew
      generalize (wset4 (wset4 wr g2 t0 t1 t2 t3) g3 l0 l1 l2 l3).drew = wf at *
      refine bodyPost_ret (v := .tuple #[U4 t0 t1 t2 t3, U4 l0 l1 l2 l3, .bool true]) (by simp [results, Tryd.results30, go_sem, hR]) rfl ?_
      have e := HN.out
      simp only [Int.pow_zero, Int.ediv_one, Int.mul_one] at e
      exact ⟨_, _, _, _, _, _, _, _, rfl, HT.out.1, HT.out.2, e.2, e.1, hBl⟩
    | succ k =>
      have hi : ((k + 1 : Nat) : Int) - 1 = (k : Int) := by omega
      simp only [hi]
      obtain ⟨s0, s1, s2, s3, over, hs, hse, hso⟩ := add_ex hl hl
      have HAdd := Lib.hid (fun w => add_n hl hl hs over hse w)
      have hbit : bits .and .u64 (limbN a0 a1 a2 a3 (k / 64) / 2 ^ (k % 64)) 1 = N4 a0 a1 a2 a3 / 2 ^ k % 2 := by
        rw [and_one _ (div_le (limb_b HX.out.1 _) _), bit_of HX.out.1 k (by omega)]
      obtain ⟨bit, hbv⟩ : ∃ b, N4 a0 a1 a2 a3 / 2 ^ k % 2 = b := ⟨_, rfl⟩
      have hb01 : 0 ≤ bit ∧ bit < 2 := by omega
      rw [hbv] at hbit
      have hev : ∃ m, s0 = 2 ^ 1 * m := by
        refine ⟨s0 / 2, ?_⟩
        have : s0 % 2 = 0 := by
          unfold N4 WW WI at hse
          split at hse <;> omega
        omega
      have hor : bits .or .u64 s0 bit = s0 + bit := by
        obtain ⟨m, rfl⟩ := hev
        exact or_add m 1 bit hb01 hs.h0 (by omega)
      have hs0 : 0 ≤ s0 + bit ∧ s0 + bit < WI := by
        have := hs.h0
        obtain ⟨m, rfl⟩ := hev
        unfold WI at *
        omega
      obtain ⟨z0, hz0⟩ : ∃ z, s0 + bit = z := ⟨_, rfl⟩
      rw [hz0] at hor hs0
      have hz : B4 z0 s1 s2 s3 := ⟨hs0, hs.h1, hs.h2, hs.h3⟩
      have hzn : N4 z0 s1 s2 s3 = N4 s0 s1 s2 s3 + bit := by unfold N4; omega
      obtain ⟨d0, d1, d2, d3, under, hd, hde, hdu⟩ := sub_ex hz HX.out.2.1
      have HSub := Lib.hid (fun w => sub_n hz HX.out.2.1 hd under hde w)
      obtain ⟨m, hm⟩ := limb_even ht k (by omega) _ HN.out.2
      have hor2 := or_digit _ m (k % 64) (by omega) hm (limb_b ht _)
      have hq : (k : Int) / 64 = ((k / 64 : Nat) : Int) := by omega
      have hr : (k : Int) % 64 = ((k % 64 : Nat) : Int) := by omega
      have hr64 : k % 64 < 64 := by omega
      have Hout : Hid ((over = false ∧ under = true ∧ N4 z0 s1 s2 s3 = N4 a0 a1 a2 a3 / 2 ^ k % N4 b0 b1 b2 b3 ∧ N4 t0 t1 t2 t3 = N4 a0 a1 a2 a3 / 2 ^ k / N4 b0 b1 b2 b3 * 2 ^ k) ∨
          (¬ (over = false ∧ under = true) ∧ N4 d0 d1 d2 d3 = N4 a0 a1 a2 a3 / 2 ^ k % N4 b0 b1 b2 b3 ∧ N4 t0 t1 t2 t3 + 2 ^ k = N4 a0 a1 a2 a3 / 2 ^ k / N4 b0 b1 b2 b3 * 2 ^ k)) := by
        have hbp : 0 < N4 b0 b1 b2 b3 := by have := HX.out.2.1.nn; have := HX.out.2.2; omega
        have hbw := HX.out.2.1.nn
        have hdn := hd.nn
        have hzz := hz.nn
        have hA2 : N4 a0 a1 a2 a3 / 2 ^ (k + 1) = N4 a0 a1 a2 a3 / 2 ^ k / 2 := by rw [Int.pow_succ, Int.ediv_ediv_of_nonneg (Int.le_of_lt (two_pow_pos k))]
        have hl1 := HN.out.1
        have ht1 := HN.out.2
        rw [hA2] at hl1 ht1
        have hP : ∀ Q : Int, Q * 2 ^ (k + 1) = 2 * Q * 2 ^ k := fun Q => by rw [Int.pow_succ]; ac_rfl
        rw [hP] at ht1
        obtain ⟨n1, n2⟩ := div_num _ _ _ _ hbp hbv hl1
        have hll := Int.emod_lt_of_pos (N4 a0 a1 a2 a3 / 2 ^ k / 2) hbp
        rw [← hl1] at hll
        show _ ∨ _
        have hP1 : ∀ Q : Int, (2 * Q + 1) * 2 ^ k = 2 * Q * 2 ^ k + 2 ^ k := fun Q => by rw [Int.add_mul, Int.one_mul]
        cases over <;> cases under <;> simp only [if_true, if_false, Bool.false_eq_true, reduceCtorEq] at hse hde
        · right
          obtain ⟨m1, m2⟩ := n2 (by omega)
          refine ⟨by simp, by rw [m2]; omega, ?_⟩
          rw [m1, hP1, ht1]
        · left
          obtain ⟨m1, m2⟩ := n1 (by omega)
          refine ⟨rfl, rfl, by rw [m2]; omega, ?_⟩
          rw [m1, ht1]
        · exfalso
          omega
        · right
          obtain ⟨m1, m2⟩ := n2 (by omega)
          refine ⟨by simp, by rw [m2]; omega, ?_⟩
          rw [m1, hP1, ht1]
      have HZ := Lib.hid (show B4 z0 s1 s2 s3 ∧ B4 d0 d1 d2 d3 from ⟨hz, hd⟩)
      have hgs5 : w.heap.size ≤ g5 := by omega
      have hgs4 : w.heap.size ≤ g4 := by omega
      have D5 : Hid (∀ p ∈ [(g4, [Value.int .u64 t0, .int .u64 t1, .int .u64 t2, .int .u64 t3]), (g3, [.int .u64 0, .int .u64 0, .int .u64 0, .int .u64 0]), (g2, [.int .u64 0, .int .u64 0, .int .u64 0, .int .u64 0]), (g1, [.int .u64 b0, .int .u64 b1, .int .u64 b2, .int .u64 b3]), (w.heap.size, [.int .u64 a0, .int .u64 a1, .int .u64 a2, .int .u64 a3])], p.1 ≠ g5) := by
        intro p hp; simp at hp; rcases hp with rfl | rfl | rfl | rfl | rfl <;> (simp; omega)
      have D4 : Hid (∀ p ∈ [(g5, [Value.int .u64 d0, .int .u64 d1, .int .u64 d2, .int .u64 d3]), (g3, [.int .u64 0, .int .u64 0, .int .u64 0, .int .u64 0]), (g2, [.int .u64 0, .int .u64 0, .int .u64 0, .int .u64 0]), (g1, [.int .u64 b0, .int .u64 b1, .int .u64 b2, .int .u64 b3]), (w.heap.size, [.int .u64 a0, .int .u64 a1, .int .u64 a2, .int .u64 a3])], p.1 ≠ g4) := by
        intro p hp; simp at hp; rcases hp with rfl | rfl | rfl | rfl | rfl <;> (simp; omega)
      clear hz hd hzn hbv hse hde hs hs0 hev hso hdu hl hz0 hm
      have hq4 : k / 64 = 0 ∨ k / 64 = 1 ∨ k / 64 = 2 ∨ k / 64 = 3 := by omega
      have hk64 : k = 64 * (k / 64) + k % 64 := by omega
      have HK := Lib.hid hk64
      have HT4 := Lib.hid ht
      clear hk64 ht
      generalize hqq : k / 64 = q at *
      generalize hrr : k % 64 = r at *
      clear hqq hrr
      rcases hq4 with rfl | rfl | rfl | rfl
      · simp only [limbN] at hbit hor2
        obtain ⟨y, hy⟩ : ∃ y, t0 + 2 ^ r = y := ⟨_, rfl⟩
        have hpk : (2 : Int) ^ k = 2 ^ r := by rw [pow_split k 0 r HK.out, show (2 : Int) ^ (64 * 0) = 1 by decide]; exact Int.one_mul _
        have hyn : N4 y t1 t2 t3 = N4 t0 t1 t2 t3 + 2 ^ k := by rw [hpk, ← hy, n4_dig0]
        rw [hy] at hor2
        have hy2 : 0 ≤ y ∧ y < WI := ⟨by have := HT4.out.h0.1; have := two_pow_pos r; omega, hor2.2⟩
        have HY := Lib.hid (show B4 y t1 t2 t3 ∧ N4 y t1 t2 t3 = N4 t0 t1 t2 t3 + 2 ^ k from ⟨⟨hy2, HT4.out.h1, HT4.out.h2, HT4.out.h3⟩, hyn⟩)
        have hor3 := hor2.1
        clear hpk hyn hy hor2 hy2
        have hq' : (k : Int) / 64 = 0 := hq
        have htm : (k : Int).tmod 64 = (r : Int) := by rw [Int.tmod_eq_emod_of_nonneg (by omega)]; exact hr
        have hw0 : IntKind.i64.wrap 0 = 0 := by decide
        have hwr : IntKind.i64.wrap (r : Int) = (r : Int) := wrap_small _ (by omega) (by omega)
        clear hq
        go_wp2_with (go_at_call 19; (with_reducible refine (HAdd.out _).mono ?_); rintro e w1 ⟨rfl, hb⟩; have hB : Below w.heap.size w w1 := (by refine bl_then ?_ hb; (repeat (first | exact hB | refine bl_al ?_ _ | refine Below.setCell ?_ (by first | exact hgs | exact Nat.le_succ_of_le hgs | exact hgs2 | exact hgs3) _ | refine Below.drew ?_ | refine bl_drewN ?_ _))); (first | with_reducible have hM2 := Mem.later hb (hM.out) | with_reducible have hM2 := Mem.later hb (Mem.al (hM.out) _ _) | with_reducible have hM2 := Mem.later hb (Mem.al (Mem.al (hM.out) _ _) _ _) | with_reducible have hM2 := Mem.later hb (Mem.al (Mem.al (Mem.al (hM.out) _ _) _ _) _ _) | with_reducible have hM2 := Mem.later hb (Mem.al (Mem.al (Mem.al (Mem.al (hM.out) _ _) _ _) _ _) _ _) | with_reducible have hM2 := Mem.later hb (Mem.drew (hM.out)) | with_reducible have hM2 := Mem.later hb (Mem.drew (Mem.al (hM.out) _ _)) | with_reducible have hM2 := Mem.later hb (Mem.al (Mem.drew (hM.out)) _ _) | with_reducible have hM2 := Mem.later hb (Mem.al (Mem.drew (Mem.al (hM.out) _ _)) _ _) | with_reducible have hM2 := Mem.later hb (Mem.drew (Mem.al (Mem.al (hM.out) _ _) _ _)) | with_reducible have hM2 := Mem.later hb (Mem.al (Mem.al (Mem.drew (hM.out)) _ _) _ _) | with_reducible have hM2 := Mem.later hb (Mem.drew (Mem.drew (hM.out))) | with_reducible have hM2 := Mem.later hb (Mem.drew (Mem.al (Mem.drew (hM.out)) _ _)) | with_reducible have hM2 := Mem.later hb (Mem.drew (Mem.al (Mem.al (Mem.al (hM.out) _ _) _ _) _ _)) | with_reducible have hM2 := Mem.later hb (Mem.al (Mem.al (Mem.drew (Mem.al (hM.out) _ _)) _ _) _ _) | with_reducible have hM2 := Mem.later hb (Mem.drew (Mem.al (Mem.drew (Mem.al (hM.out) _ _)) _ _)) | with_reducible have hM2 := Mem.later hb (Mem.al (Mem.al (Mem.al (Mem.al (Mem.al (hM.out) _ _) _ _) _ _) _ _) _ _) | with_reducible have hM2 := Mem.later hb (Mem.al (Mem.al (Mem.al (Mem.al (Mem.al (Mem.al (hM.out) _ _) _ _) _ _) _ _) _ _) _ _) | with_reducible have hM2 := Mem.later hb (Mem.al (Mem.al (Mem.al (Mem.al (Mem.al (Mem.al (Mem.al (hM.out) _ _) _ _) _ _) _ _) _ _) _ _) _ _) | with_reducible have hM2 := Mem.later hb (Mem.al (Mem.al (Mem.al (Mem.al (Mem.al (Mem.al (Mem.al (Mem.al (hM.out) _ _) _ _) _ _) _ _) _ _) _ _) _ _) _ _)); (try simp only [World.size_alloc, size_drew] at hM2); clear hM; have hM := Lib.hid hM2; clear hF; have hF := hM2; (try simp only [Mem, cellsAt, World.size_alloc, Nat.zero_add, Nat.reduceAdd, and_true] at hF); clear hM2; clear hb)
        have hca : ∀ x : World, Below w1.heap.size w1 x → x.cell? ⟨w.heap.size, 0, none⟩ = some (.int .u64 a0) := by
          intro x hx
          have h1 : w1.cell? ⟨w.heap.size, 0, none⟩ = some (.int .u64 a0) := by simp [hF]
          rw [hx.cell (by simp [hF]), h1]
        have HCA := Lib.hid hca
        clear hca
        refine wp_plan (fun x => x.cell? ⟨w.heap.size, 0, none⟩ = some (.int .u64 a0)) [1, 12] [0, 2, 3, 4, 5, 6, 7, 8, 9, 1, 10, 11, 12] (by kernel_rfl) (by kernel_rfl) (HCA.out _ (below_alloc w1 _).drew) (fun hHeld => ?_)
        iterate 9 (refine wpT_take rfl (by rfl) (by rfl) (by intro w' hSw; (try dsimp only [Mem, cellsAt] at hSw); go_simp; (try with_reducible rfl)) (by assumption) ?_; (try simp only [Act.put, List.setIfInBounds_toArray, List.set_cons_zero, List.set_cons_succ]))
        (refine wpT_step rfl (by rfl) (fun K hK => ?_); go_simp)
        (refine hK.out _ _ _ (fun _ h => h) (hHeld) (fun hHeld => ?_); clear hK; clear K; (try simp only [Act.put, List.setIfInBounds_toArray, List.set_cons_zero, List.set_cons_succ]))
        iterate 2 (refine wpT_take rfl (by rfl) (by rfl) (by intro w' hSw; (try dsimp only [Mem, cellsAt] at hSw); go_simp; (try with_reducible rfl)) (by assumption) ?_; (try simp only [Act.put, List.setIfInBounds_toArray, List.set_cons_zero, List.set_cons_succ]))
        (refine wpT_step rfl (by rfl) (fun K hK => ?_); go_simp)
        (refine hK.out _ _ _ (fun _ h => h) (HCA.out _ (below_alloc w1 _).drew) (fun hHeld => ?_); clear hK; clear K; (try simp only [Act.put, List.setIfInBounds_toArray, List.set_cons_zero, List.set_cons_succ]))
        (refine wpT_nil ?_)
        have hcase : (over = false ∧ under = true) ∨ ¬ (over = false ∧ under = true) := by by_cases h : over = false ∧ under = true <;> simp [h]
        rcases hcase with ⟨rfl, rfl⟩ | hne
        · go_wp2_with (go_at_call 37; (with_reducible refine (HSub.out _).mono ?_); rintro e w2 ⟨rfl, hb⟩; have hB : Below w.heap.size w w2 := (by refine bl_then ?_ hb; (repeat (first | exact hB | refine bl_al ?_ _ | refine Below.setCell ?_ (by first | exact hgs | exact Nat.le_succ_of_le hgs | exact hgs2 | exact hgs3) _ | refine Below.drew ?_ | refine bl_drewN ?_ _))); (first | with_reducible have hM2 := Mem.later hb (hM.out) | with_reducible have hM2 := Mem.later hb (Mem.al (hM.out) _ _) | with_reducible have hM2 := Mem.later hb (Mem.al (Mem.al (hM.out) _ _) _ _) | with_reducible have hM2 := Mem.later hb (Mem.al (Mem.al (Mem.al (hM.out) _ _) _ _) _ _) | with_reducible have hM2 := Mem.later hb (Mem.al (Mem.al (Mem.al (Mem.al (hM.out) _ _) _ _) _ _) _ _) | with_reducible have hM2 := Mem.later hb (Mem.drew (hM.out)) | with_reducible have hM2 := Mem.later hb (Mem.drew (Mem.al (hM.out) _ _)) | with_reducible have hM2 := Mem.later hb (Mem.al (Mem.drew (hM.out)) _ _) | with_reducible have hM2 := Mem.later hb (Mem.al (Mem.drew (Mem.al (hM.out) _ _)) _ _) | with_reducible have hM2 := Mem.later hb (Mem.drew (Mem.al (Mem.al (hM.out) _ _) _ _)) | with_reducible have hM2 := Mem.later hb (Mem.al (Mem.al (Mem.drew (hM.out)) _ _) _ _) | with_reducible have hM2 := Mem.later hb (Mem.drew (Mem.drew (hM.out))) | with_reducible have hM2 := Mem.later hb (Mem.drew (Mem.al (Mem.drew (hM.out)) _ _)) | with_reducible have hM2 := Mem.later hb (Mem.drew (Mem.al (Mem.al (Mem.al (hM.out) _ _) _ _) _ _)) | with_reducible have hM2 := Mem.later hb (Mem.al (Mem.al (Mem.drew (Mem.al (hM.out) _ _)) _ _) _ _) | with_reducible have hM2 := Mem.later hb (Mem.drew (Mem.al (Mem.drew (Mem.al (hM.out) _ _)) _ _)) | with_reducible have hM2 := Mem.later hb (Mem.al (Mem.al (Mem.al (Mem.al (Mem.al (hM.out) _ _) _ _) _ _) _ _) _ _) | with_reducible have hM2 := Mem.later hb (Mem.al (Mem.al (Mem.al (Mem.al (Mem.al (Mem.al (hM.out) _ _) _ _) _ _) _ _) _ _) _ _) | with_reducible have hM2 := Mem.later hb (Mem.al (Mem.al (Mem.al (Mem.al (Mem.al (Mem.al (Mem.al (hM.out) _ _) _ _) _ _) _ _) _ _) _ _) _ _) | with_reducible have hM2 := Mem.later hb (Mem.al (Mem.al (Mem.al (Mem.al (Mem.al (Mem.al (Mem.al (Mem.al (hM.out) _ _) _ _) _ _) _ _) _ _) _ _) _ _) _ _)); (try simp only [World.size_alloc, size_drew] at hM2); clear hM; have hM := Lib.hid hM2; clear hF; have hF := hM2; (try simp only [Mem, cellsAt, World.size_alloc, Nat.zero_add, Nat.reduceAdd, and_true] at hF); clear hM2; clear hb)
          rcases Hout.out with ⟨_, _, n1, n2⟩ | ⟨h, _⟩
          · refine ⟨⟨k, t0, t1, t2, t3, z0, s1, s2, s3, by omega, rfl, HT4.out, HZ.out.1, n1, n2, bl_al (bl_set4 z0 s1 s2 s3 hgs5 hB) _, Mem.skip (Mem.set4 z0 s1 s2 s3 D5.out hM.out.2) _⟩, by simp [intOf]⟩
          · exact (h (by simp)).elim
        · have htail : ∀ (o u : Bool), ¬ (o = false ∧ u = true) → (o || !u) = true := by intro o u h; cases o <;> cases u <;> simp at h ⊢
          rcases Hout.out with ⟨h1, h2, _⟩ | ⟨_, n1, n2⟩
          · exact absurd ⟨h1, h2⟩ hne
          have N1 := Lib.hid n1
          have N2 := Lib.hid n2
          clear n1 n2 htail
          cases over <;> cases under
          case' false.true => exact absurd ⟨rfl, rfl⟩ hne
          all_goals
            clear hne
            go_wp2_with (go_at_call 37; (with_reducible refine (HSub.out _).mono ?_); rintro e w2 ⟨rfl, hb⟩; have hB : Below w.heap.size w w2 := (by refine bl_then ?_ hb; (repeat (first | exact hB | refine bl_al ?_ _ | refine Below.setCell ?_ (by first | exact hgs | exact Nat.le_succ_of_le hgs | exact hgs2 | exact hgs3) _ | refine Below.drew ?_ | refine bl_drewN ?_ _))); (first | with_reducible have hM2 := Mem.later hb (hM.out) | with_reducible have hM2 := Mem.later hb (Mem.al (hM.out) _ _) | with_reducible have hM2 := Mem.later hb (Mem.al (Mem.al (hM.out) _ _) _ _) | with_reducible have hM2 := Mem.later hb (Mem.al (Mem.al (Mem.al (hM.out) _ _) _ _) _ _) | with_reducible have hM2 := Mem.later hb (Mem.al (Mem.al (Mem.al (Mem.al (hM.out) _ _) _ _) _ _) _ _) | with_reducible have hM2 := Mem.later hb (Mem.drew (hM.out)) | with_reducible have hM2 := Mem.later hb (Mem.drew (Mem.al (hM.out) _ _)) | with_reducible have hM2 := Mem.later hb (Mem.al (Mem.drew (hM.out)) _ _) | with_reducible have hM2 := Mem.later hb (Mem.al (Mem.drew (Mem.al (hM.out) _ _)) _ _) | with_reducible have hM2 := Mem.later hb (Mem.drew (Mem.al (Mem.al (hM.out) _ _) _ _)) | with_reducible have hM2 := Mem.later hb (Mem.al (Mem.al (Mem.drew (hM.out)) _ _) _ _) | with_reducible have hM2 := Mem.later hb (Mem.drew (Mem.drew (hM.out))) | with_reducible have hM2 := Mem.later hb (Mem.drew (Mem.al (Mem.drew (hM.out)) _ _)) | with_reducible have hM2 := Mem.later hb (Mem.drew (Mem.al (Mem.al (Mem.al (hM.out) _ _) _ _) _ _)) | with_reducible have hM2 := Mem.later hb (Mem.al (Mem.al (Mem.drew (Mem.al (hM.out) _ _)) _ _) _ _) | with_reducible have hM2 := Mem.later hb (Mem.drew (Mem.al (Mem.drew (Mem.al (hM.out) _ _)) _ _)) | with_reducible have hM2 := Mem.later hb (Mem.al (Mem.al (Mem.al (Mem.al (Mem.al (hM.out) _ _) _ _) _ _) _ _) _ _) | with_reducible have hM2 := Mem.later hb (Mem.al (Mem.al (Mem.al (Mem.al (Mem.al (Mem.al (hM.out) _ _) _ _) _ _) _ _) _ _) _ _) | with_reducible have hM2 := Mem.later hb (Mem.al (Mem.al (Mem.al (Mem.al (Mem.al (Mem.al (Mem.al (hM.out) _ _) _ _) _ _) _ _) _ _) _ _) _ _) | with_reducible have hM2 := Mem.later hb (Mem.al (Mem.al (Mem.al (Mem.al (Mem.al (Mem.al (Mem.al (Mem.al (hM.out) _ _) _ _) _ _) _ _) _ _) _ _) _ _) _ _)); (try simp only [World.size_alloc, size_drew] at hM2); clear hM; have hM := Lib.hid hM2; clear hF; have hF := hM2; (try simp only [Mem, cellsAt, World.size_alloc, Nat.zero_add, Nat.reduceAdd, and_true] at hF); clear hM2; clear hb)
            refine wp_plan (fun x => True) [3, 9] [0, 1, 2, 4, 5, 6, 3, 7, 8, 9] (by kernel_rfl) (by kernel_rfl) trivial (fun hHeld => ?_)
            iterate 6 (refine wpT_take rfl (by rfl) (by rfl) (by intro w' hSw; (try dsimp only [Mem, cellsAt] at hSw); go_simp; (try with_reducible rfl)) (by assumption) ?_; (try simp only [Act.put, List.setIfInBounds_toArray, List.set_cons_zero, List.set_cons_succ]))
            (refine wpT_step rfl (by rfl) (fun K hK => ?_); go_simp)
            (refine hK.out _ _ _ (fun _ h => h) (trivial) (fun hHeld => ?_); clear hK; clear K; (try simp only [Act.put, List.setIfInBounds_toArray, List.set_cons_zero, List.set_cons_succ]))
            iterate 2 (refine wpT_take rfl (by rfl) (by rfl) (by intro w' hSw; (try dsimp only [Mem, cellsAt] at hSw); go_simp; (try with_reducible rfl)) (by assumption) ?_; (try simp only [Act.put, List.setIfInBounds_toArray, List.set_cons_zero, List.set_cons_succ]))
            (refine wpT_step rfl (by rfl) (fun K hK => ?_); go_simp)
            (refine hK.out _ _ _ (fun _ h => h) (trivial) (fun hHeld => ?_); clear hK; clear K; (try simp only [Act.put, List.setIfInBounds_toArray, List.set_cons_zero, List.set_cons_succ]))
            (refine wpT_nil ?_)
            go_wp2
            have h1 := Mem.set4 d0 d1 d2 d3 D5.out hM.out.2
            have h2 := Mem.swap (Mem.setN (k := 0) (v := .int .u64 y) D4.out (Mem.swap h1))
            refine ⟨⟨k, y, t1, t2, t3, d0, d1, d2, d3, by omega, rfl, HY.out.1, HZ.out.2, N1.out, HY.out.2.trans N2.out, (bl_al ((bl_set4 d0 d1 d2 d3 hgs5 hB).setCell hgs4 _) _).drew, Mem.drew (Mem.skip h2 _)⟩, by simp [intOf]⟩
      · simp only [limbN] at hbit hor2
        obtain ⟨y, hy⟩ : ∃ y, t1 + 2 ^ r = y := ⟨_, rfl⟩
        have hpk : (2 : Int) ^ k = WI * 2 ^ r := by rw [pow_split k 1 r HK.out, show (2 : Int) ^ (64 * 1) = WI by decide]
        have hyn : N4 t0 y t2 t3 = N4 t0 t1 t2 t3 + 2 ^ k := by rw [hpk, ← hy, n4_dig1]
        rw [hy] at hor2
        have hy2 : 0 ≤ y ∧ y < WI := ⟨by have := HT4.out.h1.1; have := two_pow_pos r; omega, hor2.2⟩
        have HY := Lib.hid (show B4 t0 y t2 t3 ∧ N4 t0 y t2 t3 = N4 t0 t1 t2 t3 + 2 ^ k from ⟨⟨HT4.out.h0, hy2, HT4.out.h2, HT4.out.h3⟩, hyn⟩)
        have hor3 := hor2.1
        clear hpk hyn hy hor2 hy2
        have hq' : (k : Int) / 64 = 1 := hq
        have htm : (k : Int).tmod 64 = (r : Int) := by rw [Int.tmod_eq_emod_of_nonneg (by omega)]; exact hr
        have hw0 : IntKind.i64.wrap 1 = 1 := by decide
        have hwr : IntKind.i64.wrap (r : Int) = (r : Int) := wrap_small _ (by omega) (by omega)
        clear hq
        go_wp2_with (go_at_call 19; (with_reducible refine (HAdd.out _).mono ?_); rintro e w1 ⟨rfl, hb⟩; have hB : Below w.heap.size w w1 := (by refine bl_then ?_ hb; (repeat (first | exact hB | refine bl_al ?_ _ | refine Below.setCell ?_ (by first | exact hgs | exact Nat.le_succ_of_le hgs | exact hgs2 | exact hgs3) _ | refine Below.drew ?_ | refine bl_drewN ?_ _))); (first | with_reducible have hM2 := Mem.later hb (hM.out) | with_reducible have hM2 := Mem.later hb (Mem.al (hM.out) _ _) | with_reducible have hM2 := Mem.later hb (Mem.al (Mem.al (hM.out) _ _) _ _) | with_reducible have hM2 := Mem.later hb (Mem.al (Mem.al (Mem.al (hM.out) _ _) _ _) _ _) | with_reducible have hM2 := Mem.later hb (Mem.al (Mem.al (Mem.al (Mem.al (hM.out) _ _) _ _) _ _) _ _) | with_reducible have hM2 := Mem.later hb (Mem.drew (hM.out)) | with_reducible have hM2 := Mem.later hb (Mem.drew (Mem.al (hM.out) _ _)) | with_reducible have hM2 := Mem.later hb (Mem.al (Mem.drew (hM.out)) _ _) | with_reducible have hM2 := Mem.later hb (Mem.al (Mem.drew (Mem.al (hM.out) _ _)) _ _) | with_reducible have hM2 := Mem.later hb (Mem.drew (Mem.al (Mem.al (hM.out) _ _) _ _)) | with_reducible have hM2 := Mem.later hb (Mem.al (Mem.al (Mem.drew (hM.out)) _ _) _ _) | with_reducible have hM2 := Mem.later hb (Mem.drew (Mem.drew (hM.out))) | with_reducible have hM2 := Mem.later hb (Mem.drew (Mem.al (Mem.drew (hM.out)) _ _)) | with_reducible have hM2 := Mem.later hb (Mem.drew (Mem.al (Mem.al (Mem.al (hM.out) _ _) _ _) _ _)) | with_reducible have hM2 := Mem.later hb (Mem.al (Mem.al (Mem.drew (Mem.al (hM.out) _ _)) _ _) _ _) | with_reducible have hM2 := Mem.later hb (Mem.drew (Mem.al (Mem.drew (Mem.al (hM.out) _ _)) _ _)) | with_reducible have hM2 := Mem.later hb (Mem.al (Mem.al (Mem.al (Mem.al (Mem.al (hM.out) _ _) _ _) _ _) _ _) _ _) | with_reducible have hM2 := Mem.later hb (Mem.al (Mem.al (Mem.al (Mem.al (Mem.al (Mem.al (hM.out) _ _) _ _) _ _) _ _) _ _) _ _) | with_reducible have hM2 := Mem.later hb (Mem.al (Mem.al (Mem.al (Mem.al (Mem.al (Mem.al (Mem.al (hM.out) _ _) _ _) _ _) _ _) _ _) _ _) _ _) | with_reducible have hM2 := Mem.later hb (Mem.al (Mem.al (Mem.al (Mem.al (Mem.al (Mem.al (Mem.al (Mem.al (hM.out) _ _) _ _) _ _) _ _) _ _) _ _) _ _) _ _)); (try simp only [World.size_alloc, size_drew] at hM2); clear hM; have hM := Lib.hid hM2; clear hF; have hF := hM2; (try simp only [Mem, cellsAt, World.size_alloc, Nat.zero_add, Nat.reduceAdd, and_true] at hF); clear hM2; clear hb)
        have hca : ∀ x : World, Below w1.heap.size w1 x → x.cell? ⟨w.heap.size, 1, none⟩ = some (.int .u64 a1) := by
          intro x hx
          have h1 : w1.cell? ⟨w.heap.size, 1, none⟩ = some (.int .u64 a1) := by simp [hF]
          rw [hx.cell (by simp [hF]), h1]
        have HCA := Lib.hid hca
        clear hca
        refine wp_plan (fun x => x.cell? ⟨w.heap.size, 1, none⟩ = some (.int .u64 a1)) [1, 12] [0, 2, 3, 4, 5, 6, 7, 8, 9, 1, 10, 11, 12] (by kernel_rfl) (by kernel_rfl) (HCA.out _ (below_alloc w1 _).drew) (fun hHeld => ?_)
        iterate 9 (refine wpT_take rfl (by rfl) (by rfl) (by intro w' hSw; (try dsimp only [Mem, cellsAt] at hSw); go_simp; (try with_reducible rfl)) (by assumption) ?_; (try simp only [Act.put, List.setIfInBounds_toArray, List.set_cons_zero, List.set_cons_succ]))
        (refine wpT_step rfl (by rfl) (fun K hK => ?_); go_simp)
        (refine hK.out _ _ _ (fun _ h => h) (hHeld) (fun hHeld => ?_); clear hK; clear K; (try simp only [Act.put, List.setIfInBounds_toArray, List.set_cons_zero, List.set_cons_succ]))
        iterate 2 (refine wpT_take rfl (by rfl) (by rfl) (by intro w' hSw; (try dsimp only [Mem, cellsAt] at hSw); go_simp; (try with_reducible rfl)) (by assumption) ?_; (try simp only [Act.put, List.setIfInBounds_toArray, List.set_cons_zero, List.set_cons_succ]))
        (refine wpT_step rfl (by rfl) (fun K hK => ?_); go_simp)
        (refine hK.out _ _ _ (fun _ h => h) (HCA.out _ (below_alloc w1 _).drew) (fun hHeld => ?_); clear hK; clear K; (try simp only [Act.put, List.setIfInBounds_toArray, List.set_cons_zero, List.set_cons_succ]))
        (refine wpT_nil ?_)
        have hcase : (over = false ∧ under = true) ∨ ¬ (over = false ∧ under = true) := by by_cases h : over = false ∧ under = true <;> simp [h]
        rcases hcase with ⟨rfl, rfl⟩ | hne
        · go_wp2_with (go_at_call 37; (with_reducible refine (HSub.out _).mono ?_); rintro e w2 ⟨rfl, hb⟩; have hB : Below w.heap.size w w2 := (by refine bl_then ?_ hb; (repeat (first | exact hB | refine bl_al ?_ _ | refine Below.setCell ?_ (by first | exact hgs | exact Nat.le_succ_of_le hgs | exact hgs2 | exact hgs3) _ | refine Below.drew ?_ | refine bl_drewN ?_ _))); (first | with_reducible have hM2 := Mem.later hb (hM.out) | with_reducible have hM2 := Mem.later hb (Mem.al (hM.out) _ _) | with_reducible have hM2 := Mem.later hb (Mem.al (Mem.al (hM.out) _ _) _ _) | with_reducible have hM2 := Mem.later hb (Mem.al (Mem.al (Mem.al (hM.out) _ _) _ _) _ _) | with_reducible have hM2 := Mem.later hb (Mem.al (Mem.al (Mem.al (Mem.al (hM.out) _ _) _ _) _ _) _ _) | with_reducible have hM2 := Mem.later hb (Mem.drew (hM.out)) | with_reducible have hM2 := Mem.later hb (Mem.drew (Mem.al (hM.out) _ _)) | with_reducible have hM2 := Mem.later hb (Mem.al (Mem.drew (hM.out)) _ _) | with_reducible have hM2 := Mem.later hb (Mem.al (Mem.drew (Mem.al (hM.out) _ _)) _ _) | with_reducible have hM2 := Mem.later hb (Mem.drew (Mem.al (Mem.al (hM.out) _ _) _ _)) | with_reducible have hM2 := Mem.later hb (Mem.al (Mem.al (Mem.drew (hM.out)) _ _) _ _) | with_reducible have hM2 := Mem.later hb (Mem.drew (Mem.drew (hM.out))) | with_reducible have hM2 := Mem.later hb (Mem.drew (Mem.al (Mem.drew (hM.out)) _ _)) | with_reducible have hM2 := Mem.later hb (Mem.drew (Mem.al (Mem.al (Mem.al (hM.out) _ _) _ _) _ _)) | with_reducible have hM2 := Mem.later hb (Mem.al (Mem.al (Mem.drew (Mem.al (hM.out) _ _)) _ _) _ _) | with_reducible have hM2 := Mem.later hb (Mem.drew (Mem.al (Mem.drew (Mem.al (hM.out) _ _)) _ _)) | with_reducible have hM2 := Mem.later hb (Mem.al (Mem.al (Mem.al (Mem.al (Mem.al (hM.out) _ _) _ _) _ _) _ _) _ _) | with_reducible have hM2 := Mem.later hb (Mem.al (Mem.al (Mem.al (Mem.al (Mem.al (Mem.al (hM.out) _ _) _ _) _ _) _ _) _ _) _ _) | with_reducible have hM2 := Mem.later hb (Mem.al (Mem.al (Mem.al (Mem.al (Mem.al (Mem.al (Mem.al (hM.out) _ _) _ _) _ _) _ _) _ _) _ _) _ _) | with_reducible have hM2 := Mem.later hb (Mem.al (Mem.al (Mem.al (Mem.al (Mem.al (Mem.al (Mem.al (Mem.al (hM.out) _ _) _ _) _ _) _ _) _ _) _ _) _ _) _ _)); (try simp only [World.size_alloc, size_drew] at hM2); clear hM; have hM := Lib.hid hM2; clear hF; have hF := hM2; (try simp only [Mem, cellsAt, World.size_alloc, Nat.zero_add, Nat.reduceAdd, and_true] at hF); clear hM2; clear hb)
          rcases Hout.out with ⟨_, _, n1, n2⟩ | ⟨h, _⟩
          · refine ⟨⟨k, t0, t1, t2, t3, z0, s1, s2, s3, by omega, rfl, HT4.out, HZ.out.1, n1, n2, bl_al (bl_set4 z0 s1 s2 s3 hgs5 hB) _, Mem.skip (Mem.set4 z0 s1 s2 s3 D5.out hM.out.2) _⟩, by simp [intOf]⟩
          · exact (h (by simp)).elim
        · have htail : ∀ (o u : Bool), ¬ (o = false ∧ u = true) → (o || !u) = true := by intro o u h; cases o <;> cases u <;> simp at h ⊢
          rcases Hout.out with ⟨h1, h2, _⟩ | ⟨_, n1, n2⟩
          · exact absurd ⟨h1, h2⟩ hne
          have N1 := Lib.hid n1
          have N2 := Lib.hid n2
          clear n1 n2 htail
          cases over <;> cases under
          case' false.true => exact absurd ⟨rfl, rfl⟩ hne
          all_goals
            clear hne
            go_wp2_with (go_at_call 37; (with_reducible refine (HSub.out _).mono ?_); rintro e w2 ⟨rfl, hb⟩; have hB : Below w.heap.size w w2 := (by refine bl_then ?_ hb; (repeat (first | exact hB | refine bl_al ?_ _ | refine Below.setCell ?_ (by first | exact hgs | exact Nat.le_succ_of_le hgs | exact hgs2 | exact hgs3) _ | refine Below.drew ?_ | refine bl_drewN ?_ _))); (first | with_reducible have hM2 := Mem.later hb (hM.out) | with_reducible have hM2 := Mem.later hb (Mem.al (hM.out) _ _) | with_reducible have hM2 := Mem.later hb (Mem.al (Mem.al (hM.out) _ _) _ _) | with_reducible have hM2 := Mem.later hb (Mem.al (Mem.al (Mem.al (hM.out) _ _) _ _) _ _) | with_reducible have hM2 := Mem.later hb (Mem.al (Mem.al (Mem.al (Mem.al (hM.out) _ _) _ _) _ _) _ _) | with_reducible have hM2 := Mem.later hb (Mem.drew (hM.out)) | with_reducible have hM2 := Mem.later hb (Mem.drew (Mem.al (hM.out) _ _)) | with_reducible have hM2 := Mem.later hb (Mem.al (Mem.drew (hM.out)) _ _) | with_reducible have hM2 := Mem.later hb (Mem.al (Mem.drew (Mem.al (hM.out) _ _)) _ _) | with_reducible have hM2 := Mem.later hb (Mem.drew (Mem.al (Mem.al (hM.out) _ _) _ _)) | with_reducible have hM2 := Mem.later hb (Mem.al (Mem.al (Mem.drew (hM.out)) _ _) _ _) | with_reducible have hM2 := Mem.later hb (Mem.drew (Mem.drew (hM.out))) | with_reducible have hM2 := Mem.later hb (Mem.drew (Mem.al (Mem.drew (hM.out)) _ _)) | with_reducible have hM2 := Mem.later hb (Mem.drew (Mem.al (Mem.al (Mem.al (hM.out) _ _) _ _) _ _)) | with_reducible have hM2 := Mem.later hb (Mem.al (Mem.al (Mem.drew (Mem.al (hM.out) _ _)) _ _) _ _) | with_reducible have hM2 := Mem.later hb (Mem.drew (Mem.al (Mem.drew (Mem.al (hM.out) _ _)) _ _)) | with_reducible have hM2 := Mem.later hb (Mem.al (Mem.al (Mem.al (Mem.al (Mem.al (hM.out) _ _) _ _) _ _) _ _) _ _) | with_reducible have hM2 := Mem.later hb (Mem.al (Mem.al (Mem.al (Mem.al (Mem.al (Mem.al (hM.out) _ _) _ _) _ _) _ _) _ _) _ _) | with_reducible have hM2 := Mem.later hb (Mem.al (Mem.al (Mem.al (Mem.al (Mem.al (Mem.al (Mem.al (hM.out) _ _) _ _) _ _) _ _) _ _) _ _) _ _) | with_reducible have hM2 := Mem.later hb (Mem.al (Mem.al (Mem.al (Mem.al (Mem.al (Mem.al (Mem.al (Mem.al (hM.out) _ _) _ _) _ _) _ _) _ _) _ _) _ _) _ _)); (try simp only [World.size_alloc, size_drew] at hM2); clear hM; have hM := Lib.hid hM2; clear hF; have hF := hM2; (try simp only [Mem, cellsAt, World.size_alloc, Nat.zero_add, Nat.reduceAdd, and_true] at hF); clear hM2; clear hb)
            refine wp_plan (fun x => True) [3, 9] [0, 1, 2, 4, 5, 6, 3, 7, 8, 9] (by kernel_rfl) (by kernel_rfl) trivial (fun hHeld => ?_)
            iterate 6 (refine wpT_take rfl (by rfl) (by rfl) (by intro w' hSw; (try dsimp only [Mem, cellsAt] at hSw); go_simp; (try with_reducible rfl)) (by assumption) ?_; (try simp only [Act.put, List.setIfInBounds_toArray, List.set_cons_zero, List.set_cons_succ]))
            (refine wpT_step rfl (by rfl) (fun K hK => ?_); go_simp)
            (refine hK.out _ _ _ (fun _ h => h) (trivial) (fun hHeld => ?_); clear hK; clear K; (try simp only [Act.put, List.setIfInBounds_toArray, List.set_cons_zero, List.set_cons_succ]))
            iterate 2 (refine wpT_take rfl (by rfl) (by rfl) (by intro w' hSw; (try dsimp only [Mem, cellsAt] at hSw); go_simp; (try with_reducible rfl)) (by assumption) ?_; (try simp only [Act.put, List.setIfInBounds_toArray, List.set_cons_zero, List.set_cons_succ]))
            (refine wpT_step rfl (by rfl) (fun K hK => ?_); go_simp)
            (refine hK.out _ _ _ (fun _ h => h) (trivial) (fun hHeld => ?_); clear hK; clear K; (try simp only [Act.put, List.setIfInBounds_toArray, List.set_cons_zero, List.set_cons_succ]))
            (refine wpT_nil ?_)
            go_wp2
            have h1 := Mem.set4 d0 d1 d2 d3 D5.out hM.out.2
            have h2 := Mem.swap (Mem.setN (k := 1) (v := .int .u64 y) D4.out (Mem.swap h1))
            refine ⟨⟨k, t0, y, t2, t3, d0, d1, d2, d3, by omega, rfl, HY.out.1, HZ.out.2, N1.out, HY.out.2.trans N2.out, (bl_al ((bl_set4 d0 d1 d2 d3 hgs5 hB).setCell hgs4 _) _).drew, Mem.drew (Mem.skip h2 _)⟩, by simp [intOf]⟩
      · simp only [limbN] at hbit hor2
        obtain ⟨y, hy⟩ : ∃ y, t2 + 2 ^ r = y := ⟨_, rfl⟩
        have hpk : (2 : Int) ^ k = WI * WI * 2 ^ r := by rw [pow_split k 2 r HK.out, show (2 : Int) ^ (64 * 2) = WI * WI by decide]
        have hyn : N4 t0 t1 y t3 = N4 t0 t1 t2 t3 + 2 ^ k := by rw [hpk, ← hy, n4_dig2]
        rw [hy] at hor2
        have hy2 : 0 ≤ y ∧ y < WI := ⟨by have := HT4.out.h2.1; have := two_pow_pos r; omega, hor2.2⟩
        have HY := Lib.hid (show B4 t0 t1 y t3 ∧ N4 t0 t1 y t3 = N4 t0 t1 t2 t3 + 2 ^ k from ⟨⟨HT4.out.h0, HT4.out.h1, hy2, HT4.out.h3⟩, hyn⟩)
        have hor3 := hor2.1
        clear hpk hyn hy hor2 hy2
        have hq' : (k : Int) / 64 = 2 := hq
        have htm : (k : Int).tmod 64 = (r : Int) := by rw [Int.tmod_eq_emod_of_nonneg (by omega)]; exact hr
        have hw0 : IntKind.i64.wrap 2 = 2 := by decide
        have hwr : IntKind.i64.wrap (r : Int) = (r : Int) := wrap_small _ (by omega) (by omega)
        clear hq
        go_wp2_with (go_at_call 19; (with_reducible refine (HAdd.out _).mono ?_); rintro e w1 ⟨rfl, hb⟩; have hB : Below w.heap.size w w1 := (by refine bl_then ?_ hb; (repeat (first | exact hB | refine bl_al ?_ _ | refine Below.setCell ?_ (by first | exact hgs | exact Nat.le_succ_of_le hgs | exact hgs2 | exact hgs3) _ | refine Below.drew ?_ | refine bl_drewN ?_ _))); (first | with_reducible have hM2 := Mem.later hb (hM.out) | with_reducible have hM2 := Mem.later hb (Mem.al (hM.out) _ _) | with_reducible have hM2 := Mem.later hb (Mem.al (Mem.al (hM.out) _ _) _ _) | with_reducible have hM2 := Mem.later hb (Mem.al (Mem.al (Mem.al (hM.out) _ _) _ _) _ _) | with_reducible have hM2 := Mem.later hb (Mem.al (Mem.al (Mem.al (Mem.al (hM.out) _ _) _ _) _ _) _ _) | with_reducible have hM2 := Mem.later hb (Mem.drew (hM.out)) | with_reducible have hM2 := Mem.later hb (Mem.drew (Mem.al (hM.out) _ _)) | with_reducible have hM2 := Mem.later hb (Mem.al (Mem.drew (hM.out)) _ _) | with_reducible have hM2 := Mem.later hb (Mem.al (Mem.drew (Mem.al (hM.out) _ _)) _ _) | with_reducible have hM2 := Mem.later hb (Mem.drew (Mem.al (Mem.al (hM.out) _ _) _ _)) | with_reducible have hM2 := Mem.later hb (Mem.al (Mem.al (Mem.drew (hM.out)) _ _) _ _) | with_reducible have hM2 := Mem.later hb (Mem.drew (Mem.drew (hM.out))) | with_reducible have hM2 := Mem.later hb (Mem.drew (Mem.al (Mem.drew (hM.out)) _ _)) | with_reducible have hM2 := Mem.later hb (Mem.drew (Mem.al (Mem.al (Mem.al (hM.out) _ _) _ _) _ _)) | with_reducible have hM2 := Mem.later hb (Mem.al (Mem.al (Mem.drew (Mem.al (hM.out) _ _)) _ _) _ _) | with_reducible have hM2 := Mem.later hb (Mem.drew (Mem.al (Mem.drew (Mem.al (hM.out) _ _)) _ _)) | with_reducible have hM2 := Mem.later hb (Mem.al (Mem.al (Mem.al (Mem.al (Mem.al (hM.out) _ _) _ _) _ _) _ _) _ _) | with_reducible have hM2 := Mem.later hb (Mem.al (Mem.al (Mem.al (Mem.al (Mem.al (Mem.al (hM.out) _ _) _ _) _ _) _ _) _ _) _ _) | with_reducible have hM2 := Mem.later hb (Mem.al (Mem.al (Mem.al (Mem.al (Mem.al (Mem.al (Mem.al (hM.out) _ _) _ _) _ _) _ _) _ _) _ _) _ _) | with_reducible have hM2 := Mem.later hb (Mem.al (Mem.al (Mem.al (Mem.al (Mem.al (Mem.al (Mem.al (Mem.al (hM.out) _ _) _ _) _ _) _ _) _ _) _ _) _ _) _ _)); (try simp only [World.size_alloc, size_drew] at hM2); clear hM; have hM := Lib.hid hM2; clear hF; have hF := hM2; (try simp only [Mem, cellsAt, World.size_alloc, Nat.zero_add, Nat.reduceAdd, and_true] at hF); clear hM2; clear hb)
        have hca : ∀ x : World, Below w1.heap.size w1 x → x.cell? ⟨w.heap.size, 2, none⟩ = some (.int .u64 a2) := by
          intro x hx
          have h1 : w1.cell? ⟨w.heap.size, 2, none⟩ = some (.int .u64 a2) := by simp [hF]
          rw [hx.cell (by simp [hF]), h1]
        have HCA := Lib.hid hca
        clear hca
        refine wp_plan (fun x => x.cell? ⟨w.heap.size, 2, none⟩ = some (.int .u64 a2)) [1, 12] [0, 2, 3, 4, 5, 6, 7, 8, 9, 1, 10, 11, 12] (by kernel_rfl) (by kernel_rfl) (HCA.out _ (below_alloc w1 _).drew) (fun hHeld => ?_)
        iterate 9 (refine wpT_take rfl (by rfl) (by rfl) (by intro w' hSw; (try dsimp only [Mem, cellsAt] at hSw); go_simp; (try with_reducible rfl)) (by assumption) ?_; (try simp only [Act.put, List.setIfInBounds_toArray, List.set_cons_zero, List.set_cons_succ]))
        (refine wpT_step rfl (by rfl) (fun K hK => ?_); go_simp)
        (refine hK.out _ _ _ (fun _ h => h) (hHeld) (fun hHeld => ?_); clear hK; clear K; (try simp only [Act.put, List.setIfInBounds_toArray, List.set_cons_zero, List.set_cons_succ]))
        iterate 2 (refine wpT_take rfl (by rfl) (by rfl) (by intro w' hSw; (try dsimp only [Mem, cellsAt] at hSw); go_simp; (try with_reducible rfl)) (by assumption) ?_; (try simp only [Act.put, List.setIfInBounds_toArray, List.set_cons_zero, List.set_cons_succ]))
        (refine wpT_step rfl (by rfl) (fun K hK => ?_); go_simp)
        (refine hK.out _ _ _ (fun _ h => h) (HCA.out _ (below_alloc w1 _).drew) (fun hHeld => ?_); clear hK; clear K; (try simp only [Act.put, List.setIfInBounds_toArray, List.set_cons_zero, List.set_cons_succ]))
        (refine wpT_nil ?_)
        have hcase : (over = false ∧ under = true) ∨ ¬ (over = false ∧ under = true) := by by_cases h : over = false ∧ under = true <;> simp [h]
        rcases hcase with ⟨rfl, rfl⟩ | hne
        · go_wp2_with (go_at_call 37; (with_reducible refine (HSub.out _).mono ?_); rintro e w2 ⟨rfl, hb⟩; have hB : Below w.heap.size w w2 := (by refine bl_then ?_ hb; (repeat (first | exact hB | refine bl_al ?_ _ | refine Below.setCell ?_ (by first | exact hgs | exact Nat.le_succ_of_le hgs | exact hgs2 | exact hgs3) _ | refine Below.drew ?_ | refine bl_drewN ?_ _))); (first | with_reducible have hM2 := Mem.later hb (hM.out) | with_reducible have hM2 := Mem.later hb (Mem.al (hM.out) _ _) | with_reducible have hM2 := Mem.later hb (Mem.al (Mem.al (hM.out) _ _) _ _) | with_reducible have hM2 := Mem.later hb (Mem.al (Mem.al (Mem.al (hM.out) _ _) _ _) _ _) | with_reducible have hM2 := Mem.later hb (Mem.al (Mem.al (Mem.al (Mem.al (hM.out) _ _) _ _) _ _) _ _) | with_reducible have hM2 := Mem.later hb (Mem.drew (hM.out)) | with_reducible have hM2 := Mem.later hb (Mem.drew (Mem.al (hM.out) _ _)) | with_reducible have hM2 := Mem.later hb (Mem.al (Mem.drew (hM.out)) _ _) | with_reducible have hM2 := Mem.later hb (Mem.al (Mem.drew (Mem.al (hM.out) _ _)) _ _) | with_reducible have hM2 := Mem.later hb (Mem.drew (Mem.al (Mem.al (hM.out) _ _) _ _)) | with_reducible have hM2 := Mem.later hb (Mem.al (Mem.al (Mem.drew (hM.out)) _ _) _ _) | with_reducible have hM2 := Mem.later hb (Mem.drew (Mem.drew (hM.out))) | with_reducible have hM2 := Mem.later hb (Mem.drew (Mem.al (Mem.drew (hM.out)) _ _)) | with_reducible have hM2 := Mem.later hb (Mem.drew (Mem.al (Mem.al (Mem.al (hM.out) _ _) _ _) _ _)) | with_reducible have hM2 := Mem.later hb (Mem.al (Mem.al (Mem.drew (Mem.al (hM.out) _ _)) _ _) _ _) | with_reducible have hM2 := Mem.later hb (Mem.drew (Mem.al (Mem.drew (Mem.al (hM.out) _ _)) _ _)) | with_reducible have hM2 := Mem.later hb (Mem.al (Mem.al (Mem.al (Mem.al (Mem.al (hM.out) _ _) _ _) _ _) _ _) _ _) | with_reducible have hM2 := Mem.later hb (Mem.al (Mem.al (Mem.al (Mem.al (Mem.al (Mem.al (hM.out) _ _) _ _) _ _) _ _) _ _) _ _) | with_reducible have hM2 := Mem.later hb (Mem.al (Mem.al (Mem.al (Mem.al (Mem.al (Mem.al (Mem.al (hM.out) _ _) _ _) _ _) _ _) _ _) _ _) _ _) | with_reducible have hM2 := Mem.later hb (Mem.al (Mem.al (Mem.al (Mem.al (Mem.al (Mem.al (Mem.al (Mem.al (hM.out) _ _) _ _) _ _) _ _) _ _) _ _) _ _) _ _)); (try simp only [World.size_alloc, size_drew] at hM2); clear hM; have hM := Lib.hid hM2; clear hF; have hF := hM2; (try simp only [Mem, cellsAt, World.size_alloc, Nat.zero_add, Nat.reduceAdd, and_true] at hF); clear hM2; clear hb)
          rcases Hout.out with ⟨_, _, n1, n2⟩ | ⟨h, _⟩
          · refine ⟨⟨k, t0, t1, t2, t3, z0, s1, s2, s3, by omega, rfl, HT4.out, HZ.out.1, n1, n2, bl_al (bl_set4 z0 s1 s2 s3 hgs5 hB) _, Mem.skip (Mem.set4 z0 s1 s2 s3 D5.out hM.out.2) _⟩, by simp [intOf]⟩
          · exact (h (by simp)).elim
        · have htail : ∀ (o u : Bool), ¬ (o = false ∧ u = true) → (o || !u) = true := by intro o u h; cases o <;> cases u <;> simp at h ⊢
          rcases Hout.out with ⟨h1, h2, _⟩ | ⟨_, n1, n2⟩
          · exact absurd ⟨h1, h2⟩ hne
          have N1 := Lib.hid n1
          have N2 := Lib.hid n2
          clear n1 n2 htail
          cases over <;> cases under
          case' false.true => exact absurd ⟨rfl, rfl⟩ hne
          all_goals
            clear hne
            go_wp2_with (go_at_call 37; (with_reducible refine (HSub.out _).mono ?_); rintro e w2 ⟨rfl, hb⟩; have hB : Below w.heap.size w w2 := (by refine bl_then ?_ hb; (repeat (first | exact hB | refine bl_al ?_ _ | refine Below.setCell ?_ (by first | exact hgs | exact Nat.le_succ_of_le hgs | exact hgs2 | exact hgs3) _ | refine Below.drew ?_ | refine bl_drewN ?_ _))); (first | with_reducible have hM2 := Mem.later hb (hM.out) | with_reducible have hM2 := Mem.later hb (Mem.al (hM.out) _ _) | with_reducible have hM2 := Mem.later hb (Mem.al (Mem.al (hM.out) _ _) _ _) | with_reducible have hM2 := Mem.later hb (Mem.al (Mem.al (Mem.al (hM.out) _ _) _ _) _ _) | with_reducible have hM2 := Mem.later hb (Mem.al (Mem.al (Mem.al (Mem.al (hM.out) _ _) _ _) _ _) _ _) | with_reducible have hM2 := Mem.later hb (Mem.drew (hM.out)) | with_reducible have hM2 := Mem.later hb (Mem.drew (Mem.al (hM.out) _ _)) | with_reducible have hM2 := Mem.later hb (Mem.al (Mem.drew (hM.out)) _ _) | with_reducible have hM2 := Mem.later hb (Mem.al (Mem.drew (Mem.al (hM.out) _ _)) _ _) | with_reducible have hM2 := Mem.later hb (Mem.drew (Mem.al (Mem.al (hM.out) _ _) _ _)) | with_reducible have hM2 := Mem.later hb (Mem.al (Mem.al (Mem.drew (hM.out)) _ _) _ _) | with_reducible have hM2 := Mem.later hb (Mem.drew (Mem.drew (hM.out))) | with_reducible have hM2 := Mem.later hb (Mem.drew (Mem.al (Mem.drew (hM.out)) _ _)) | with_reducible have hM2 := Mem.later hb (Mem.drew (Mem.al (Mem.al (Mem.al (hM.out) _ _) _ _) _ _)) | with_reducible have hM2 := Mem.later hb (Mem.al (Mem.al (Mem.drew (Mem.al (hM.out) _ _)) _ _) _ _) | with_reducible have hM2 := Mem.later hb (Mem.drew (Mem.al (Mem.drew (Mem.al (hM.out) _ _)) _ _)) | with_reducible have hM2 := Mem.later hb (Mem.al (Mem.al (Mem.al (Mem.al (Mem.al (hM.out) _ _) _ _) _ _) _ _) _ _) | with_reducible have hM2 := Mem.later hb (Mem.al (Mem.al (Mem.al (Mem.al (Mem.al (Mem.al (hM.out) _ _) _ _) _ _) _ _) _ _) _ _) | with_reducible have hM2 := Mem.later hb (Mem.al (Mem.al (Mem.al (Mem.al (Mem.al (Mem.al (Mem.al (hM.out) _ _) _ _) _ _) _ _) _ _) _ _) _ _) | with_reducible have hM2 := Mem.later hb (Mem.al (Mem.al (Mem.al (Mem.al (Mem.al (Mem.al (Mem.al (Mem.al (hM.out) _ _) _ _) _ _) _ _) _ _) _ _) _ _) _ _)); (try simp only [World.size_alloc, size_drew] at hM2); clear hM; have hM := Lib.hid hM2; clear hF; have hF := hM2; (try simp only [Mem, cellsAt, World.size_alloc, Nat.zero_add, Nat.reduceAdd, and_true] at hF); clear hM2; clear hb)
            refine wp_plan (fun x => True) [3, 9] [0, 1, 2, 4, 5, 6, 3, 7, 8, 9] (by kernel_rfl) (by kernel_rfl) trivial (fun hHeld => ?_)
            iterate 6 (refine wpT_take rfl (by rfl) (by rfl) (by intro w' hSw; (try dsimp only [Mem, cellsAt] at hSw); go_simp; (try with_reducible rfl)) (by assumption) ?_; (try simp only [Act.put, List.setIfInBounds_toArray, List.set_cons_zero, List.set_cons_succ]))
            (refine wpT_step rfl (by rfl) (fun K hK => ?_); go_simp)
            (refine hK.out _ _ _ (fun _ h => h) (trivial) (fun hHeld => ?_); clear hK; clear K; (try simp only [Act.put, List.setIfInBounds_toArray, List.set_cons_zero, List.set_cons_succ]))
            iterate 2 (refine wpT_take rfl (by rfl) (by rfl) (by intro w' hSw; (try dsimp only [Mem, cellsAt] at hSw); go_simp; (try with_reducible rfl)) (by assumption) ?_; (try simp only [Act.put, List.setIfInBounds_toArray, List.set_cons_zero, List.set_cons_succ]))
            (refine wpT_step rfl (by rfl) (fun K hK => ?_); go_simp)
            (refine hK.out _ _ _ (fun _ h => h) (trivial) (fun hHeld => ?_); clear hK; clear K; (try simp only [Act.put, List.setIfInBounds_toArray, List.set_cons_zero, List.set_cons_succ]))
            (refine wpT_nil ?_)
            go_wp2
            have h1 := Mem.set4 d0 d1 d2 d3 D5.out hM.out.2
            have h2 := Mem.swap (Mem.setN (k := 2) (v := .int .u64 y) D4.out (Mem.swap h1))
            refine ⟨⟨k, t0, t1, y, t3, d0, d1, d2, d3, by omega, rfl, HY.out.1, HZ.out.2, N1.out, HY.out.2.trans N2.out, (bl_al ((bl_set4 d0 d1 d2 d3 hgs5 hB).setCell hgs4 _) _).drew, Mem.drew (Mem.skip h2 _)⟩, by simp [intOf]⟩
      · simp only [limbN] at hbit hor2
        obtain ⟨y, hy⟩ : ∃ y, t3 + 2 ^ r = y := ⟨_, rfl⟩
        have hpk : (2 : Int) ^ k = WI * WI * WI * 2 ^ r := by rw [pow_split k 3 r HK.out, show (2 : Int) ^ (64 * 3) = WI * WI * WI by decide]
        have hyn : N4 t0 t1 t2 y = N4 t0 t1 t2 t3 + 2 ^ k := by rw [hpk, ← hy, n4_dig3]
        rw [hy] at hor2
        have hy2 : 0 ≤ y ∧ y < WI := ⟨by have := HT4.out.h3.1; have := two_pow_pos r; omega, hor2.2⟩
        have HY := Lib.hid (show B4 t0 t1 t2 y ∧ N4 t0 t1 t2 y = N4 t0 t1 t2 t3 + 2 ^ k from ⟨⟨HT4.out.h0, HT4.out.h1, HT4.out.h2, hy2⟩, hyn⟩)
        have hor3 := hor2.1
        clear hpk hyn hy hor2 hy2
        have hq' : (k : Int) / 64 = 3 := hq
        have htm : (k : Int).tmod 64 = (r : Int) := by rw [Int.tmod_eq_emod_of_nonneg (by omega)]; exact hr
        have hw0 : IntKind.i64.wrap 3 = 3 := by decide
        have hwr : IntKind.i64.wrap (r : Int) = (r : Int) := wrap_small _ (by omega) (by omega)
        clear hq
        go_wp2_with (go_at_call 19; (with_reducible refine (HAdd.out _).mono ?_); rintro e w1 ⟨rfl, hb⟩; have hB : Below w.heap.size w w1 := (by refine bl_then ?_ hb; (repeat (first | exact hB | refine bl_al ?_ _ | refine Below.setCell ?_ (by first | exact hgs | exact Nat.le_succ_of_le hgs | exact hgs2 | exact hgs3) _ | refine Below.drew ?_ | refine bl_drewN ?_ _))); (first | with_reducible have hM2 := Mem.later hb (hM.out) | with_reducible have hM2 := Mem.later hb (Mem.al (hM.out) _ _) | with_reducible have hM2 := Mem.later hb (Mem.al (Mem.al (hM.out) _ _) _ _) | with_reducible have hM2 := Mem.later hb (Mem.al (Mem.al (Mem.al (hM.out) _ _) _ _) _ _) | with_reducible have hM2 := Mem.later hb (Mem.al (Mem.al (Mem.al (Mem.al (hM.out) _ _) _ _) _ _) _ _) | with_reducible have hM2 := Mem.later hb (Mem.drew (hM.out)) | with_reducible have hM2 := Mem.later hb (Mem.drew (Mem.al (hM.out) _ _)) | with_reducible have hM2 := Mem.later hb (Mem.al (Mem.drew (hM.out)) _ _) | with_reducible have hM2 := Mem.later hb (Mem.al (Mem.drew (Mem.al (hM.out) _ _)) _ _) | with_reducible have hM2 := Mem.later hb (Mem.drew (Mem.al (Mem.al (hM.out) _ _) _ _)) | with_reducible have hM2 := Mem.later hb (Mem.al (Mem.al (Mem.drew (hM.out)) _ _) _ _) | with_reducible have hM2 := Mem.later hb (Mem.drew (Mem.drew (hM.out))) | with_reducible have hM2 := Mem.later hb (Mem.drew (Mem.al (Mem.drew (hM.out)) _ _)) | with_reducible have hM2 := Mem.later hb (Mem.drew (Mem.al (Mem.al (Mem.al (hM.out) _ _) _ _) _ _)) | with_reducible have hM2 := Mem.later hb (Mem.al (Mem.al (Mem.drew (Mem.al (hM.out) _ _)) _ _) _ _) | with_reducible have hM2 := Mem.later hb (Mem.drew (Mem.al (Mem.drew (Mem.al (hM.out) _ _)) _ _)) | with_reducible have hM2 := Mem.later hb (Mem.al (Mem.al (Mem.al (Mem.al (Mem.al (hM.out) _ _) _ _) _ _) _ _) _ _) | with_reducible have hM2 := Mem.later hb (Mem.al (Mem.al (Mem.al (Mem.al (Mem.al (Mem.al (hM.out) _ _) _ _) _ _) _ _) _ _) _ _) | with_reducible have hM2 := Mem.later hb (Mem.al (Mem.al (Mem.al (Mem.al (Mem.al (Mem.al (Mem.al (hM.out) _ _) _ _) _ _) _ _) _ _) _ _) _ _) | with_reducible have hM2 := Mem.later hb (Mem.al (Mem.al (Mem.al (Mem.al (Mem.al (Mem.al (Mem.al (Mem.al (hM.out) _ _) _ _) _ _) _ _) _ _) _ _) _ _) _ _)); (try simp only [World.size_alloc, size_drew] at hM2); clear hM; have hM := Lib.hid hM2; clear hF; have hF := hM2; (try simp only [Mem, cellsAt, World.size_alloc, Nat.zero_add, Nat.reduceAdd, and_true] at hF); clear hM2; clear hb)
        have hca : ∀ x : World, Below w1.heap.size w1 x → x.cell? ⟨w.heap.size, 3, none⟩ = some (.int .u64 a3) := by
          intro x hx
          have h1 : w1.cell? ⟨w.heap.size, 3, none⟩ = some (.int .u64 a3) := by simp [hF]
          rw [hx.cell (by simp [hF]), h1]
        have HCA := Lib.hid hca
        clear hca
        refine wp_plan (fun x => x.cell? ⟨w.heap.size, 3, none⟩ = some (.int .u64 a3)) [1, 12] [0, 2, 3, 4, 5, 6, 7, 8, 9, 1, 10, 11, 12] (by kernel_rfl) (by kernel_rfl) (HCA.out _ (below_alloc w1 _).drew) (fun hHeld => ?_)
        iterate 9 (refine wpT_take rfl (by rfl) (by rfl) (by intro w' hSw; (try dsimp only [Mem, cellsAt] at hSw); go_simp; (try with_reducible rfl)) (by assumption) ?_; (try simp only [Act.put, List.setIfInBounds_toArray, List.set_cons_zero, List.set_cons_succ]))
        (refine wpT_step rfl (by rfl) (fun K hK => ?_); go_simp)
        (refine hK.out _ _ _ (fun _ h => h) (hHeld) (fun hHeld => ?_); clear hK; clear K; (try simp only [Act.put, List.setIfInBounds_toArray, List.set_cons_zero, List.set_cons_succ]))
        iterate 2 (refine wpT_take rfl (by rfl) (by rfl) (by intro w' hSw; (try dsimp only [Mem, cellsAt] at hSw); go_simp; (try with_reducible rfl)) (by assumption) ?_; (try simp only [Act.put, List.setIfInBounds_toArray, List.set_cons_zero, List.set_cons_succ]))
        (refine wpT_step rfl (by rfl) (fun K hK => ?_); go_simp)
        (refine hK.out _ _ _ (fun _ h => h) (HCA.out _ (below_alloc w1 _).drew) (fun hHeld => ?_); clear hK; clear K; (try simp only [Act.put, List.setIfInBounds_toArray, List.set_cons_zero, List.set_cons_succ]))
        (refine wpT_nil ?_)
        have hcase : (over = false ∧ under = true) ∨ ¬ (over = false ∧ under = true) := by by_cases h : over = false ∧ under = true <;> simp [h]
        rcases hcase with ⟨rfl, rfl⟩ | hne
        · go_wp2_with (go_at_call 37; (with_reducible refine (HSub.out _).mono ?_); rintro e w2 ⟨rfl, hb⟩; have hB : Below w.heap.size w w2 := (by refine bl_then ?_ hb; (repeat (first | exact hB | refine bl_al ?_ _ | refine Below.setCell ?_ (by first | exact hgs | exact Nat.le_succ_of_le hgs | exact hgs2 | exact hgs3) _ | refine Below.drew ?_ | refine bl_drewN ?_ _))); (first | with_reducible have hM2 := Mem.later hb (hM.out) | with_reducible have hM2 := Mem.later hb (Mem.al (hM.out) _ _) | with_reducible have hM2 := Mem.later hb (Mem.al (Mem.al (hM.out) _ _) _ _) | with_reducible have hM2 := Mem.later hb (Mem.al (Mem.al (Mem.al (hM.out) _ _) _ _) _ _) | with_reducible have hM2 := Mem.later hb (Mem.al (Mem.al (Mem.al (Mem.al (hM.out) _ _) _ _) _ _) _ _) | with_reducible have hM2 := Mem.later hb (Mem.drew (hM.out)) | with_reducible have hM2 := Mem.later hb (Mem.drew (Mem.al (hM.out) _ _)) | with_reducible have hM2 := Mem.later hb (Mem.al (Mem.drew (hM.out)) _ _) | with_reducible have hM2 := Mem.later hb (Mem.al (Mem.drew (Mem.al (hM.out) _ _)) _ _) | with_reducible have hM2 := Mem.later hb (Mem.drew (Mem.al (Mem.al (hM.out) _ _) _ _)) | with_reducible have hM2 := Mem.later hb (Mem.al (Mem.al (Mem.drew (hM.out)) _ _) _ _) | with_reducible have hM2 := Mem.later hb (Mem.drew (Mem.drew (hM.out))) | with_reducible have hM2 := Mem.later hb (Mem.drew (Mem.al (Mem.drew (hM.out)) _ _)) | with_reducible have hM2 := Mem.later hb (Mem.drew (Mem.al (Mem.al (Mem.al (hM.out) _ _) _ _) _ _)) | with_reducible have hM2 := Mem.later hb (Mem.al (Mem.al (Mem.drew (Mem.al (hM.out) _ _)) _ _) _ _) | with_reducible have hM2 := Mem.later hb (Mem.drew (Mem.al (Mem.drew (Mem.al (hM.out) _ _)) _ _)) | with_reducible have hM2 := Mem.later hb (Mem.al (Mem.al (Mem.al (Mem.al (Mem.al (hM.out) _ _) _ _) _ _) _ _) _ _) | with_reducible have hM2 := Mem.later hb (Mem.al (Mem.al (Mem.al (Mem.al (Mem.al (Mem.al (hM.out) _ _) _ _) _ _) _ _) _ _) _ _) | with_reducible have hM2 := Mem.later hb (Mem.al (Mem.al (Mem.al (Mem.al (Mem.al (Mem.al (Mem.al (hM.out) _ _) _ _) _ _) _ _) _ _) _ _) _ _) | with_reducible have hM2 := Mem.later hb (Mem.al (Mem.al (Mem.al (Mem.al (Mem.al (Mem.al (Mem.al (Mem.al (hM.out) _ _) _ _) _ _) _ _) _ _) _ _) _ _) _ _)); (try simp only [World.size_alloc, size_drew] at hM2); clear hM; have hM := Lib.hid hM2; clear hF; have hF := hM2; (try simp only [Mem, cellsAt, World.size_alloc, Nat.zero_add, Nat.reduceAdd, and_true] at hF); clear hM2; clear hb)
          rcases Hout.out with ⟨_, _, n1, n2⟩ | ⟨h, _⟩
          · refine ⟨⟨k, t0, t1, t2, t3, z0, s1, s2, s3, by omega, rfl, HT4.out, HZ.out.1, n1, n2, bl_al (bl_set4 z0 s1 s2 s3 hgs5 hB) _, Mem.skip (Mem.set4 z0 s1 s2 s3 D5.out hM.out.2) _⟩, by simp [intOf]⟩
          · exact (h (by simp)).elim
        · have htail : ∀ (o u : Bool), ¬ (o = false ∧ u = true) → (o || !u) = true := by intro o u h; cases o <;> cases u <;> simp at h ⊢
          rcases Hout.out with ⟨h1, h2, _⟩ | ⟨_, n1, n2⟩
          · exact absurd ⟨h1, h2⟩ hne
          have N1 := Lib.hid n1
          have N2 := Lib.hid n2
          clear n1 n2 htail
          cases over <;> cases under
          case' false.true => exact absurd ⟨rfl, rfl⟩ hne
          all_goals
            clear hne
            go_wp2_with (go_at_call 37; (with_reducible refine (HSub.out _).mono ?_); rintro e w2 ⟨rfl, hb⟩; have hB : Below w.heap.size w w2 := (by refine bl_then ?_ hb; (repeat (first | exact hB | refine bl_al ?_ _ | refine Below.setCell ?_ (by first | exact hgs | exact Nat.le_succ_of_le hgs | exact hgs2 | exact hgs3) _ | refine Below.drew ?_ | refine bl_drewN ?_ _))); (first | with_reducible have hM2 := Mem.later hb (hM.out) | with_reducible have hM2 := Mem.later hb (Mem.al (hM.out) _ _) | with_reducible have hM2 := Mem.later hb (Mem.al (Mem.al (hM.out) _ _) _ _) | with_reducible have hM2 := Mem.later hb (Mem.al (Mem.al (Mem.al (hM.out) _ _) _ _) _ _) | with_reducible have hM2 := Mem.later hb (Mem.al (Mem.al (Mem.al (Mem.al (hM.out) _ _) _ _) _ _) _ _) | with_reducible have hM2 := Mem.later hb (Mem.drew (hM.out)) | with_reducible have hM2 := Mem.later hb (Mem.drew (Mem.al (hM.out) _ _)) | with_reducible have hM2 := Mem.later hb (Mem.al (Mem.drew (hM.out)) _ _) | with_reducible have hM2 := Mem.later hb (Mem.al (Mem.drew (Mem.al (hM.out) _ _)) _ _) | with_reducible have hM2 := Mem.later hb (Mem.drew (Mem.al (Mem.al (hM.out) _ _) _ _)) | with_reducible have hM2 := Mem.later hb (Mem.al (Mem.al (Mem.drew (hM.out)) _ _) _ _) | with_reducible have hM2 := Mem.later hb (Mem.drew (Mem.drew (hM.out))) | with_reducible have hM2 := Mem.later hb (Mem.drew (Mem.al (Mem.drew (hM.out)) _ _)) | with_reducible have hM2 := Mem.later hb (Mem.drew (Mem.al (Mem.al (Mem.al (hM.out) _ _) _ _) _ _)) | with_reducible have hM2 := Mem.later hb (Mem.al (Mem.al (Mem.drew (Mem.al (hM.out) _ _)) _ _) _ _) | with_reducible have hM2 := Mem.later hb (Mem.drew (Mem.al (Mem.drew (Mem.al (hM.out) _ _)) _ _)) | with_reducible have hM2 := Mem.later hb (Mem.al (Mem.al (Mem.al (Mem.al (Mem.al (hM.out) _ _) _ _) _ _) _ _) _ _) | with_reducible have hM2 := Mem.later hb (Mem.al (Mem.al (Mem.al (Mem.al (Mem.al (Mem.al (hM.out) _ _) _ _) _ _) _ _) _ _) _ _) | with_reducible have hM2 := Mem.later hb (Mem.al (Mem.al (Mem.al (Mem.al (Mem.al (Mem.al (Mem.al (hM.out) _ _) _ _) _ _) _ _) _ _) _ _) _ _) | with_reducible have hM2 := Mem.later hb (Mem.al (Mem.al (Mem.al (Mem.al (Mem.al (Mem.al (Mem.al (Mem.al (hM.out) _ _) _ _) _ _) _ _) _ _) _ _) _ _) _ _)); (try simp only [World.size_alloc, size_drew] at hM2); clear hM; have hM := Lib.hid hM2; clear hF; have hF := hM2; (try simp only [Mem, cellsAt, World.size_alloc, Nat.zero_add, Nat.reduceAdd, and_true] at hF); clear hM2; clear hb)
            refine wp_plan (fun x => True) [3, 9] [0, 1, 2, 4, 5, 6, 3, 7, 8, 9] (by kernel_rfl) (by kernel_rfl) trivial (fun hHeld => ?_)
            iterate 6 (refine wpT_take rfl (by rfl) (by rfl) (by intro w' hSw; (try dsimp only [Mem, cellsAt] at hSw); go_simp; (try with_reducible rfl)) (by assumption) ?_; (try simp only [Act.put, List.setIfInBounds_toArray, List.set_cons_zero, List.set_cons_succ]))
            (refine wpT_step rfl (by rfl) (fun K hK => ?_); go_simp)
            (refine hK.out _ _ _ (fun _ h => h) (trivial) (fun hHeld => ?_); clear hK; clear K; (try simp only [Act.put, List.setIfInBounds_toArray, List.set_cons_zero, List.set_cons_succ]))
            iterate 2 (refine wpT_take rfl (by rfl) (by rfl) (by intro w' hSw; (try dsimp only [Mem, cellsAt] at hSw); go_simp; (try with_reducible rfl)) (by assumption) ?_; (try simp only [Act.put, List.setIfInBounds_toArray, List.set_cons_zero, List.set_cons_succ]))
            (refine wpT_step rfl (by rfl) (fun K hK => ?_); go_simp)
            (refine hK.out _ _ _ (fun _ h => h) (trivial) (fun hHeld => ?_); clear hK; clear K; (try simp only [Act.put, List.setIfInBounds_toArray, List.set_cons_zero, List.set_cons_succ]))
            (refine wpT_nil ?_)
            go_wp2
            have h1 := Mem.set4 d0 d1 d2 d3 D5.out hM.out.2
            have h2 := Mem.swap (Mem.setN (k := 3) (v := .int .u64 y) D4.out (Mem.swap h1))
            refine ⟨⟨k, t0, t1, t2, y, d0, d1, d2, d3, by omega, rfl, HY.out.1, HZ.out.2, N1.out, HY.out.2.trans N2.out, (bl_al ((bl_set4 d0 d1 d2 d3 hgs5 hB).setCell hgs4 _) _).drew, Mem.drew (Mem.skip h2 _)⟩, by simp [intOf]⟩
end Go.Proofs.YtfbhpkhpkaeagaaDoor
