/- florinlaw07: HeaderBytes part c (made by gen_hd16.py). (hM) Merged: Hd16c, Hd16d. -/
import Derived.Test.YtpdgeiflmnhkfaaDoorHd15
import Derived.Test.YtpdgeiflmnhkfaaDoorHp0
import Derived.Test.YtpdgeiflmnhkfaaDoorVz
/- florinlaw07: HeaderBytes part c (made by gen_hd16.py). (hM) -/
namespace Go.Proofs.YtpdgeiflmnhkfaaDoor
set_option linter.unusedVariables false
set_option linter.unusedSimpArgs false
open Go.RowKit

def BbRelc (w : World) (b : Int) (n i : Value) (wr : World) : Prop :=
  ∃ (s : Nat) (x : Int), s ≤ 4 ∧ x + 1 = s ∧ i = .int .i64 x ∧ n = .int .u32 (b / 256 ^ s) ∧ wr = w

set_option maxRecDepth 100000 in
set_option maxHeartbeats 40000000 in
theorem hbytes_c (h : Hd) (ho : HdOk h) (k0 : Int) (w : World) (hT : Tab w) (hrg : ∀ m : Nat, bits .and .i64 k0 65535 = (m : Int) → ∀ a, m % 80 = a → 36 ≤ a ∧ a < 68) :
    Calls Tryd.prog 7 #[hdV h, .int .i64 k0] w fun e w' => e = .returned (.bool true) ∧ Below w.heap.size w w' := by
  have HA := Lib.hid (fun (x : World) (hb : Below w.heap.size w x) => awake7_any x (hT.later hb))
  have HPut := Lib.hid (fun (x : World) => hput_any h ho x)
  have hId := fun (x : World) (hb : Below w.heap.size w x) => hid_any h ho x (hT.later hb)
  have hDb : ∀ (x : World), Below w.heap.size w x → ∀ b : Nat, cellsAt x b 0 (b8l (hdF h) 80) → Calls Tryd.prog 21 #[.slice (some ⟨b, 0, none⟩) 80 80] x fun e w' => e = .returned (arr32 (idF h)) ∧ Below x.heap.size x w' :=
    fun (x : World) (hb : Below w.heap.size w x) (b : Nat) (hr : cellsAt x b 0 (b8l (hdF h) 80)) => double_any (some ⟨b, 0, none⟩) 80 80 (hdF h) x (hT.later hb) (row_ofWc (Nat.le_refl _) hr) (hdF_b ho) (by omega)
  obtain ⟨I, hI⟩ : ∃ I, idF h = I := ⟨_, rfl⟩
  simp only [hI] at hId hDb
  have HId := Lib.hid hId
  have HDb := Lib.hid hDb
  have hEI := eql_hash I
  obtain ⟨m, hK, hK2⟩ := and_64k k0
  obtain ⟨a, ha0⟩ : ∃ a, m % 80 = a := ⟨_, rfl⟩
  have ha : a < 80 := by omega
  have HRG := Lib.hid (hrg m hK a ha0)
  clear hrg
  have hrI : (m : Int) % 80 = (a : Int) := by omega
  have hrT : (m : Int).tmod 80 = (a : Int) := by rw [Int.tmod_eq_emod_of_nonneg (by omega)]; exact hrI
  have haI : (a : Int) < 80 := by omega
  have hTn := turned_get ho a ha
  have hG := fun (x : World) (g c : Nat) (hr : Row x (some ⟨g, 0, none⟩) 80 c 1 (bcells (turnF (hdF h) a) 80)) => hget_any g 0 c (turnF (hdF h) a) x hr (turnF_b (hdF_b ho) a)
  obtain ⟨G, hGG⟩ : ∃ G, getH (turnF (hdF h) a) = G := ⟨_, rfl⟩
  simp only [hGG] at hG hTn
  have HG := Lib.hid hG
  have HTn := Lib.hid hTn
  have hNe := neq_hdr G h true (by rw [hTn.e]; rfl)
  have HFb := Lib.hid (hdF_b ho)
  have HOb := Lib.hid ho
  obtain ⟨x, hx⟩ : ∃ x, hdF h a = x := ⟨_, rfl⟩
  have hxb : 0 ≤ x ∧ x < 256 := by rw [← hx]; exact hdF_b ho a
  obtain ⟨y, hy⟩ : ∃ y, 255 - x = y := ⟨_, rfl⟩
  have hxor : bits .xor .u8 x 255 = y := (turn_u8 x hxb).trans hy
  have HX := Lib.hid (And.intro hx (And.intro hy ha))
  have hB := bl_al (Below.refl w.heap.size w) (.cells (hdL h).toArray 71)
  have hM := Lib.hid (Mem.al (mem_nil w) (hdL h) 71)
  clear hT ho hId hDb hI hK2 ha0 ha hG hGG hTn hx hxb hy
  have hF : True := trivial
  go_enter Tryd.func7, Tryd.ntmps7
  go_wp2_with (first |
    (go_at_call 60; (with_reducible refine (HA.out _ (by (repeat (first | exact hB | refine bl_al ?_ _ | refine Below.setCell ?_ (by first | exact hgs | exact Nat.le_succ_of_le hgs | exact hgs2 | exact hgs3) _ | refine Below.drew ?_ | refine bl_drewN ?_ _)))).mono ?_); rintro e w1 ⟨rfl, hb⟩; have hB : Below w.heap.size w w1 := (by refine bl_then ?_ hb; (repeat (first | exact hB | refine bl_al ?_ _ | refine Below.setCell ?_ (by first | exact hgs | exact Nat.le_succ_of_le hgs | exact hgs2 | exact hgs3) _ | refine Below.drew ?_ | refine bl_drewN ?_ _))); (first | with_reducible have hM2 := Mem.later hb (hM.out) | with_reducible have hM2 := Mem.later hb (Mem.al (hM.out) _ _) | with_reducible have hM2 := Mem.later hb (Mem.al (Mem.al (hM.out) _ _) _ _) | with_reducible have hM2 := Mem.later hb (Mem.al (Mem.al (Mem.al (hM.out) _ _) _ _) _ _) | with_reducible have hM2 := Mem.later hb (Mem.al (Mem.al (Mem.al (Mem.al (hM.out) _ _) _ _) _ _) _ _) | with_reducible have hM2 := Mem.later hb (Mem.drew (hM.out)) | with_reducible have hM2 := Mem.later hb (Mem.drew (Mem.al (hM.out) _ _)) | with_reducible have hM2 := Mem.later hb (Mem.al (Mem.drew (hM.out)) _ _) | with_reducible have hM2 := Mem.later hb (Mem.al (Mem.drew (Mem.al (hM.out) _ _)) _ _) | with_reducible have hM2 := Mem.later hb (Mem.drew (Mem.al (Mem.al (hM.out) _ _) _ _)) | with_reducible have hM2 := Mem.later hb (Mem.al (Mem.al (Mem.drew (hM.out)) _ _) _ _) | with_reducible have hM2 := Mem.later hb (Mem.drew (Mem.drew (hM.out))) | with_reducible have hM2 := Mem.later hb (Mem.drew (Mem.al (Mem.drew (hM.out)) _ _)) | with_reducible have hM2 := Mem.later hb (Mem.drew (Mem.al (Mem.al (Mem.al (hM.out) _ _) _ _) _ _)) | with_reducible have hM2 := Mem.later hb (Mem.al (Mem.al (Mem.drew (Mem.al (hM.out) _ _)) _ _) _ _) | with_reducible have hM2 := Mem.later hb (Mem.drew (Mem.al (Mem.drew (Mem.al (hM.out) _ _)) _ _)) | with_reducible have hM2 := Mem.later hb (Mem.al (Mem.al (Mem.al (Mem.al (Mem.al (hM.out) _ _) _ _) _ _) _ _) _ _) | with_reducible have hM2 := Mem.later hb (Mem.al (Mem.al (Mem.al (Mem.al (Mem.al (Mem.al (hM.out) _ _) _ _) _ _) _ _) _ _) _ _) | with_reducible have hM2 := Mem.later hb (Mem.al (Mem.al (Mem.al (Mem.al (Mem.al (Mem.al (Mem.al (hM.out) _ _) _ _) _ _) _ _) _ _) _ _) _ _) | with_reducible have hM2 := Mem.later hb (Mem.al (Mem.al (Mem.al (Mem.al (Mem.al (Mem.al (Mem.al (Mem.al (hM.out) _ _) _ _) _ _) _ _) _ _) _ _) _ _) _ _)); (try simp only [World.size_alloc, size_drew] at hM2); clear hM; have hM := Lib.hid hM2; clear hF; have hF := hM2; (try simp only [Mem, cellsAt, World.size_alloc, Nat.zero_add, Nat.reduceAdd, and_true] at hF); clear hM2; clear hb; clear hF; have hF : True := trivial) |
    (refine Go.wpList_load_mid rfl 71 (.tmp 2) rfl w.heap.size 0 rfl (hdL h) _ (rangeAt_of (Mem.get hM.out (by simp))) Tryd.underlying71 rfl (by rw [hdL_len]; kernel_rfl) ?_) |
    (go_at_call 69; (with_reducible refine (HPut.out _).mono ?_); rintro e w2 ⟨g1, rfl, _, hmp, hb⟩; have HMp := Lib.hid hmp; clear hmp; have hB : Below w.heap.size w w2 := (by refine bl_then ?_ hb; (repeat (first | exact hB | refine bl_al ?_ _ | refine Below.setCell ?_ (by first | exact hgs | exact Nat.le_succ_of_le hgs | exact hgs2 | exact hgs3) _ | refine Below.drew ?_ | refine bl_drewN ?_ _))); (first | with_reducible have hM2 := Mem.later hb (hM.out) | with_reducible have hM2 := Mem.later hb (Mem.al (hM.out) _ _) | with_reducible have hM2 := Mem.later hb (Mem.al (Mem.al (hM.out) _ _) _ _) | with_reducible have hM2 := Mem.later hb (Mem.al (Mem.al (Mem.al (hM.out) _ _) _ _) _ _) | with_reducible have hM2 := Mem.later hb (Mem.al (Mem.al (Mem.al (Mem.al (hM.out) _ _) _ _) _ _) _ _) | with_reducible have hM2 := Mem.later hb (Mem.drew (hM.out)) | with_reducible have hM2 := Mem.later hb (Mem.drew (Mem.al (hM.out) _ _)) | with_reducible have hM2 := Mem.later hb (Mem.al (Mem.drew (hM.out)) _ _) | with_reducible have hM2 := Mem.later hb (Mem.al (Mem.drew (Mem.al (hM.out) _ _)) _ _) | with_reducible have hM2 := Mem.later hb (Mem.drew (Mem.al (Mem.al (hM.out) _ _) _ _)) | with_reducible have hM2 := Mem.later hb (Mem.al (Mem.al (Mem.drew (hM.out)) _ _) _ _) | with_reducible have hM2 := Mem.later hb (Mem.drew (Mem.drew (hM.out))) | with_reducible have hM2 := Mem.later hb (Mem.drew (Mem.al (Mem.drew (hM.out)) _ _)) | with_reducible have hM2 := Mem.later hb (Mem.drew (Mem.al (Mem.al (Mem.al (hM.out) _ _) _ _) _ _)) | with_reducible have hM2 := Mem.later hb (Mem.al (Mem.al (Mem.drew (Mem.al (hM.out) _ _)) _ _) _ _) | with_reducible have hM2 := Mem.later hb (Mem.drew (Mem.al (Mem.drew (Mem.al (hM.out) _ _)) _ _)) | with_reducible have hM2 := Mem.later hb (Mem.al (Mem.al (Mem.al (Mem.al (Mem.al (hM.out) _ _) _ _) _ _) _ _) _ _) | with_reducible have hM2 := Mem.later hb (Mem.al (Mem.al (Mem.al (Mem.al (Mem.al (Mem.al (hM.out) _ _) _ _) _ _) _ _) _ _) _ _) | with_reducible have hM2 := Mem.later hb (Mem.al (Mem.al (Mem.al (Mem.al (Mem.al (Mem.al (Mem.al (hM.out) _ _) _ _) _ _) _ _) _ _) _ _) _ _) | with_reducible have hM2 := Mem.later hb (Mem.al (Mem.al (Mem.al (Mem.al (Mem.al (Mem.al (Mem.al (Mem.al (hM.out) _ _) _ _) _ _) _ _) _ _) _ _) _ _) _ _)); (try simp only [World.size_alloc, size_drew] at hM2); clear hM; have hM := Lib.hid hM2; clear hF; have hF := hM2; (try simp only [Mem, cellsAt, World.size_alloc, Nat.zero_add, Nat.reduceAdd, and_true] at hF); clear hM2; clear hb; clear hF; have hF : True := trivial))
  have HB0 := Lib.hid hB
  have HM0 : Hid (Mem w2 [(g1, b8l (hdF h) 80), (w.heap.size, hdL h)]) := ⟨HMp.out.1, hM.out⟩
  clear hB hM hF HMp
  go_loopw [7, 8] (fun n i wr => BbRelc w2 h.b n i wr) (fun _ i _ => (intOf i + 1).toNat)
  case atStart => exact ⟨4, 3, Nat.le_refl _, rfl, rfl, by have hb := HOb.out.b; rw [show (256 : Int) ^ 4 = 4294967296 by decide]; exact congrArg (Value.int .u32) (show (0 : Int) = h.b / 4294967296 by omega), rfl⟩
  case round =>
    obtain ⟨s, z, hs, hz, rfl, rfl, hW⟩ := hrel
    subst hW
    rename World => W
    by_cases hlt : 0 < s
    · obtain ⟨j, rfl⟩ : ∃ j, s = j + 1 := ⟨s - 1, by omega⟩
      obtain rfl : z = (j : Int) := by omega
      obtain ⟨k, hk⟩ : ∃ k, 72 + j = k := ⟨_, rfl⟩
      obtain ⟨z2, hz2⟩ : ∃ z2, (j : Int) - 1 = z2 := ⟨_, rfl⟩
      have hc := cellsAt_get HM0.out.1.2.2 (b8l_get (hdF h) 80 k (by omega))
      rw [← hk, hdF_bt h j (by omega), hk] at hc
      have k1 : IntKind.i64.wrap (72 + (j : Int)) = (k : Int) := by rw [IntKind.wrap_i64]; omega
      have k2 : IntKind.i64.wrap ((j : Int) - 1) = z2 := by rw [IntKind.wrap_i64]; omega
      have k3 : (k : Int) < 80 := by omega
      have k4 : 0 ≤ (j : Int) := by omega
      have hor := bits_step h.b HOb.out.b j (by omega)
      have hle := le4_b h.b j
      obtain ⟨p, hp⟩ : ∃ p, h.b / 256 ^ (j + 1) = p := ⟨_, rfl⟩
      obtain ⟨q, hq⟩ : ∃ q, le4 h.b j = q := ⟨_, rfl⟩
      rw [hp, hq] at hor
      rw [hq] at hc hle
      rw [hp]
      have k5 : IntKind.u32.wrap q = q := by rw [IntKind.wrap_u32]; omega
      have HJ : Hid (j + 1 ≤ 4) := hs
      have HZ := Lib.hid hz2
      clear hk hp hq hle hs hz hz2 hlt
      go_wp2
      refine ⟨⟨j, z2, by have := HJ.out; omega, by have := HZ.out; omega, rfl, rfl, by first | rfl | trivial⟩, by have := HZ.out; simp [intOf]; omega⟩
    · obtain rfl : s = 0 := by omega
      obtain rfl : z = -1 := by omega
      have hb1 : h.b / 256 ^ 0 = h.b := by rw [Int.pow_zero, Int.ediv_one]
      rw [hb1]
      clear hb1 hs hz hlt
      have HRp := Lib.hid (row_ofWc (f := hdF h) (Nat.le_refl 80) HM0.out.1.2.2)
      have HG1 : Hid (g1 < W.heap.size ∧ w.heap.size < W.heap.size) := ⟨Mem.lt HM0.out (g1, b8l (hdF h) 80) (by simp), Mem.lt HM0.out (w.heap.size, hdL h) (by simp)⟩
      go_wp2_with (first |
        (refine wpList_appN eltU8 W _ (below_alloc W _) rfl (.tmp 36) (.tmp 37) rfl (some ⟨W.heap.size, 0, none⟩) 0 0 [] rfl (ownN_lit0 _ _ _ _ (Nat.le_refl _)) (some ⟨g1, 0, none⟩) 80 80 (bcells (hdF h) 80) rfl (HRp.out.later (below_alloc _ _)) (fun h => by cases h) (by omega) ?_; intro g2 cp2 wA hownA hbA; have HoA : Hid (wA.ownsRow W.heap.size 5 1 (.slice (some ⟨g2, 0, none⟩) 80 cp2) 80 (bcells (hdF h) 80)) := hownA; clear hownA; have hg2 := World.ownsRow.lt HoA.out g2 rfl; have HMA : Hid (Mem wA [(g2, b8l (hdF h) 80), (g1, b8l (hdF h) 80), (w.heap.size, hdL h)]) := ⟨own_mem HoA.out, Mem.later hbA HM0.out⟩; have hcl := (cellsAt_get HMA.out.1.2.2 (b8l_get (hdF h) 80 a HX.out.2.2)).trans (by rw [HX.out.1]); have hfr := HMA.out.1.2.1 a; have HLe := Lib.hid ((row_own HoA.out (bcells_one _ _)).le); have HMs : Hid (Mem (wA.setCell ⟨g2, a, none⟩ (.int .u8 y)) [(g2, b8l (turnF (hdF h) a) 80), (g1, b8l (hdF h) 80), (w.heap.size, hdL h)]) := (by have h1 := Mem.setN (k := a) (v := .int .u8 y) (by intro p hp; have := HG1.out; have := hg2.1; simp at hp; rcases hp with rfl | rfl <;> (simp; omega)) HMA.out; rw [b8l_set] at h1; have e : turnF (hdF h) a = setF (hdF h) a y := (by unfold turnF; rw [HX.out.1, HX.out.2.1]); rw [e]; exact h1); have HRg := Lib.hid (row_ofWc (f := turnF (hdF h) a) HLe.out HMs.out.1.2.2); have HBs : Hid (Below w.heap.size w (wA.setCell ⟨g2, a, none⟩ (.int .u8 y))) := (bl_then HB0.out hbA).setCell (by have := HG1.out; show w.heap.size ≤ g2; omega) _; clear HMA HoA hbA hg2) |
        (go_at_call 61; (with_reducible refine (HG.out _ g2 cp2 HRg.out).mono ?_); rintro e w3 ⟨rfl, hb⟩; have hM := Lib.hid (Mem.later hb HMs.out); have hB := bl_then HBs.out hb; clear HMs HBs HRg hcl hfr hb) |
        (refine wpList_store_newV rfl (.tmp 11) (.tmp 50) 71 rfl _ (hdL G) _ Tryd.underlying71 rfl (by rw [hdL_len]; kernel_rfl) (by rw [hdL_len]; rfl) (hdL_one _) rfl rfl hM.out ?_; intro W7 hMW hb; have hBW := bl_then hB hb; obtain ⟨b7, hbx⟩ : ∃ b, w3.heap.size = b := ⟨_, rfl⟩; rw [hbx] at hMW; simp only [hbx]; clear hbx hM hB; have hM := Lib.hid hMW; have hB := hBW; clear hMW hb hBW; refine (?_ : Hid _).out))
      refine Lib.hid ?_
      have c1 := cellsAt_get (Mem.get (b := b7) (vs := hdL G) hM.out (by simp)) (hdL_0 G)
      have c2 := cellsAt_get (Mem.get (b := w.heap.size) (vs := hdL h) hM.out (by simp)) (hdL_0 h)
      have hS : ∀ x : World, Mem x [(b7, hdL G), (g2, b8l (turnF (hdF h) a) 80), (g1, b8l (hdF h) 80), (w.heap.size, hdL h)] → _ ∧ _ ∧ _ ∧ _ ∧ _ ∧ _ ∧ _ ∧ _ ∧ _ ∧ _ := fun x hm => ⟨hm, cellsAt_get (Mem.get (b := w.heap.size) (vs := hdL h) hm (by simp)) (hdL_b h), cellsAt_get (Mem.get (b := b7) (vs := hdL G) hm (by simp)) (hdL_t G), cellsAt_get (Mem.get (b := w.heap.size) (vs := hdL h) hm (by simp)) (hdL_t h), cellsAt_get (Mem.get (b := b7) (vs := hdL G) hm (by simp)) (hdL_n G), cellsAt_get (Mem.get (b := w.heap.size) (vs := hdL h) hm (by simp)) (hdL_n h),
        row_string (P := Tryd.prog) (T := 22) (S := 9) (zs := bnums h.p 32) x Tryd.underlying22 Tryd.underlying5 Tryd.underlying9 (ao := some ⟨g1, 4, none⟩) (n := 32) (c := 76) (by rw [← bcells_nums]; exact row_rng (by omega) (b8l_congr (hdF_p h) ▸ range_b8l (Mem.get (vs := b8l (hdF h) 80) (b := g1) hm (by simp)) 4 32 (by omega))),
        row_string (P := Tryd.prog) (T := 22) (S := 9) (zs := bnums h.p 32) x Tryd.underlying22 Tryd.underlying5 Tryd.underlying9 (ao := some ⟨w.heap.size, 1, none⟩) (n := 32) (c := 32) (by rw [← bcells_nums]; exact row_rng (by omega) (hd_range_p (Mem.get hm (by simp)))),
        row_string (P := Tryd.prog) (T := 22) (S := 9) (zs := bnums h.r 32) x Tryd.underlying22 Tryd.underlying5 Tryd.underlying9 (ao := some ⟨g1, 36, none⟩) (n := 32) (c := 44) (by rw [← bcells_nums]; exact row_rng (by omega) (b8l_congr (hdF_r h) ▸ range_b8l (Mem.get (vs := b8l (hdF h) 80) (b := g1) hm (by simp)) 36 32 (by omega))),
        row_string (P := Tryd.prog) (T := 22) (S := 9) (zs := bnums h.r 32) x Tryd.underlying22 Tryd.underlying5 Tryd.underlying9 (ao := some ⟨w.heap.size, 33, none⟩) (n := 32) (c := 32) (by rw [← bcells_nums]; exact row_rng (by omega) (hd_range_r (Mem.get hm (by simp))))⟩
      obtain ⟨sp, hsp⟩ : ∃ z, strOfNums (bnums h.p 32) = z := ⟨_, rfl⟩
      obtain ⟨sr, hsr⟩ : ∃ z, strOfNums (bnums h.r 32) = z := ⟨_, rfl⟩
      rw [hsp, hsr] at hS
      have HS := Lib.hid hS
      have ha := HX.out.2.2
      clear hsp hsr hS
      have hr := HRG.out
      clear ha HRG
      have q0 : 4 ≤ (a : Int) := by omega
      have q1 : ¬ (a : Int) < 4 := by omega
      have q2 : 36 ≤ (a : Int) := by omega
      have q3 : ¬ (a : Int) < 36 := by omega
      have q4 : (a : Int) < 68 := by omega
      have q5 : ¬ 68 ≤ (a : Int) := by omega
      have q6 : (a : Int) < 72 := by omega
      have q7 : ¬ 72 ≤ (a : Int) := by omega
      have q8 : (a : Int) < 76 := by omega
      have q9 : ¬ 76 ≤ (a : Int) := by omega
      have r0 : decide (4 ≤ (a : Int)) = true := by simp; omega
      have p0 : decide ((a : Int) < 4) = false := by simp; omega
      have r1 : decide (36 ≤ (a : Int)) = true := by simp; omega
      have p1 : decide ((a : Int) < 36) = false := by simp; omega
      have r2 : decide (68 ≤ (a : Int)) = false := by simp; omega
      have p2 : decide ((a : Int) < 68) = true := by simp; omega
      have r3 : decide (72 ≤ (a : Int)) = false := by simp; omega
      have p3 : decide ((a : Int) < 72) = true := by simp; omega
      have r4 : decide (76 ≤ (a : Int)) = false := by simp; omega
      have p4 : decide ((a : Int) < 76) = true := by simp; omega
      have z1 : G.v = h.v := by rw [HTn.out.v]; omega
      have z2 : G.t = h.t := by rw [HTn.out.t]; omega
      have z3 : G.n = h.n := by rw [HTn.out.n]; omega
      have z1a : (G.v == h.v) = true := by simp [z1]
      have z1b : (G.v != h.v) = false := by simp [z1]
      have z2a : (G.t == h.t) = true := by simp [z2]
      have z2b : (G.t != h.t) = false := by simp [z2]
      have z3a : (G.n == h.n) = true := by simp [z3]
      have z3b : (G.n != h.n) = false := by simp [z3]
      clear z1 z2 z3
      have z4 : ∀ x : World, (binOp .neq 30 (arr32 G.p) (arr32 h.p)).run Tryd.prog x = .ok (.bool false) x := fun x => neq_hash7 G.p h.p _ (by have e := HTn.out.p; have e2 := e.2 (by omega); simp [e2]) x
      clear hr
      go_wp2
      skip
      clear c1 c2
      have hF : True := trivial
      refine wp_plan (fun x => Mem x [(b7, hdL G), (g2, b8l (turnF (hdF h) a) 80), (g1, b8l (hdF h) 80), (w.heap.size, hdL h)] ∧ x.cell? ⟨w.heap.size, 66, none⟩ = some (.int .u32 h.b) ∧ x.cell? ⟨b7, 65, none⟩ = some (.int .u32 G.t) ∧ x.cell? ⟨w.heap.size, 65, none⟩ = some (.int .u32 h.t) ∧ x.cell? ⟨b7, 67, none⟩ = some (.int .u32 G.n) ∧ x.cell? ⟨w.heap.size, 67, none⟩ = some (.int .u32 h.n) ∧ (convert 22 9 (.slice (some ⟨g1, 4, none⟩) 32 76)).run Tryd.prog x = .ok (.string sp) x ∧ (convert 22 9 (.slice (some ⟨w.heap.size, 1, none⟩) 32 32)).run Tryd.prog x = .ok (.string sp) x ∧ (convert 22 9 (.slice (some ⟨g1, 36, none⟩) 32 44)).run Tryd.prog x = .ok (.string sr) x ∧ (convert 22 9 (.slice (some ⟨w.heap.size, 33, none⟩) 32 32)).run Tryd.prog x = .ok (.string sr) x) [27, 29] [0, 1, 2, 3, 4, 5, 6, 7, 8, 9, 10, 11, 12, 13, 14, 15, 16, 17, 18, 19, 20, 21, 22, 23, 24, 25, 26, 28, 27, 29, 30, 31, 32, 33, 34, 35, 36, 37, 38, 39, 40, 41, 42, 43, 44, 45, 46, 47, 48, 49, 50, 51, 52, 53, 54, 55, 56, 57, 58, 59, 60, 61, 62, 63, 64, 65, 66, 67, 68, 69, 70, 71, 72, 73, 74, 75, 76, 77, 78, 79, 80, 81, 82] (by kernel_rfl) (by kernel_rfl) (HS.out _ (Mem.drew hM.out)) (fun hHeld => ?_)
      iterate 26 (refine wpT_take rfl (by rfl) (by rfl) (by intro w' hSw; (try dsimp only [Mem, cellsAt] at hSw); go_simp; (try with_reducible rfl)) (by assumption) ?_; (try simp only [Act.put, List.setIfInBounds_toArray, List.set_cons_zero, List.set_cons_succ]))
      (refine wpT_yield rfl (by rfl) (Go.yieldsIf_load_mid (by rfl) 71 (.tmp 2) rfl w.heap.size 0 rfl (hdL h) _ (fun w' h => rangeAt_of (Mem.get h.1 (by simp))) Tryd.underlying71 rfl (by rw [hdL_len]; kernel_rfl)) (by assumption) ?_; (try simp only [Act.put, List.setIfInBounds_toArray, List.set_cons_zero, List.set_cons_succ]))
      iterate 1 (refine wpT_take rfl (by rfl) (by rfl) (by intro w' hSw; (try dsimp only [Mem, cellsAt] at hSw); go_simp; (try with_reducible rfl)) (by assumption) ?_; (try simp only [Act.put, List.setIfInBounds_toArray, List.set_cons_zero, List.set_cons_succ]))
      (refine wpT_step rfl (by rfl) (fun K hK => ?_); go_simp)
      ((with_reducible refine (HId.out _ (by (repeat (first | exact hB | refine bl_al ?_ _ | refine Below.setCell ?_ (by first | exact hgs | exact Nat.le_succ_of_le hgs | exact hgs2 | exact hgs3) _ | refine Below.drew ?_ | refine bl_drewN ?_ _)))).mono ?_); rintro e w5 ⟨rfl, hb⟩; have hB : Below w.heap.size w w5 := (by refine bl_then ?_ hb; (repeat (first | exact hB | refine bl_al ?_ _ | refine Below.setCell ?_ (by first | exact hgs | exact Nat.le_succ_of_le hgs | exact hgs2 | exact hgs3) _ | refine Below.drew ?_ | refine bl_drewN ?_ _))); (first | with_reducible have hM2 := Mem.later hb (hM.out) | with_reducible have hM2 := Mem.later hb (Mem.al (hM.out) _ _) | with_reducible have hM2 := Mem.later hb (Mem.al (Mem.al (hM.out) _ _) _ _) | with_reducible have hM2 := Mem.later hb (Mem.al (Mem.al (Mem.al (hM.out) _ _) _ _) _ _) | with_reducible have hM2 := Mem.later hb (Mem.al (Mem.al (Mem.al (Mem.al (hM.out) _ _) _ _) _ _) _ _) | with_reducible have hM2 := Mem.later hb (Mem.drew (hM.out)) | with_reducible have hM2 := Mem.later hb (Mem.drew (Mem.al (hM.out) _ _)) | with_reducible have hM2 := Mem.later hb (Mem.al (Mem.drew (hM.out)) _ _) | with_reducible have hM2 := Mem.later hb (Mem.al (Mem.drew (Mem.al (hM.out) _ _)) _ _) | with_reducible have hM2 := Mem.later hb (Mem.drew (Mem.al (Mem.al (hM.out) _ _) _ _)) | with_reducible have hM2 := Mem.later hb (Mem.al (Mem.al (Mem.drew (hM.out)) _ _) _ _) | with_reducible have hM2 := Mem.later hb (Mem.drew (Mem.drew (hM.out))) | with_reducible have hM2 := Mem.later hb (Mem.drew (Mem.al (Mem.drew (hM.out)) _ _)) | with_reducible have hM2 := Mem.later hb (Mem.drew (Mem.al (Mem.al (Mem.al (hM.out) _ _) _ _) _ _)) | with_reducible have hM2 := Mem.later hb (Mem.al (Mem.al (Mem.drew (Mem.al (hM.out) _ _)) _ _) _ _) | with_reducible have hM2 := Mem.later hb (Mem.drew (Mem.al (Mem.drew (Mem.al (hM.out) _ _)) _ _)) | with_reducible have hM2 := Mem.later hb (Mem.al (Mem.al (Mem.al (Mem.al (Mem.al (hM.out) _ _) _ _) _ _) _ _) _ _) | with_reducible have hM2 := Mem.later hb (Mem.al (Mem.al (Mem.al (Mem.al (Mem.al (Mem.al (hM.out) _ _) _ _) _ _) _ _) _ _) _ _) | with_reducible have hM2 := Mem.later hb (Mem.al (Mem.al (Mem.al (Mem.al (Mem.al (Mem.al (Mem.al (hM.out) _ _) _ _) _ _) _ _) _ _) _ _) _ _) | with_reducible have hM2 := Mem.later hb (Mem.al (Mem.al (Mem.al (Mem.al (Mem.al (Mem.al (Mem.al (Mem.al (hM.out) _ _) _ _) _ _) _ _) _ _) _ _) _ _) _ _)); (try simp only [World.size_alloc, size_drew] at hM2); clear hM; have hM := Lib.hid hM2; clear hF; have hF := hM2; (try simp only [Mem, cellsAt, World.size_alloc, Nat.zero_add, Nat.reduceAdd, and_true] at hF); clear hM2; clear hb; clear hF; have hF : True := trivial; (refine hK.out _ _ _ (fun _ h => h) (HS.out _ hM.out) (fun hHeld => ?_); clear hK; clear K; (try simp only [Act.put, List.setIfInBounds_toArray, List.set_cons_zero, List.set_cons_succ])))
      (refine wpT_step rfl (by rfl) (fun K hK => ?_); go_simp)
      ((with_reducible refine (HDb.out _ (by (repeat (first | exact hB | refine bl_al ?_ _ | refine Below.setCell ?_ (by first | exact hgs | exact Nat.le_succ_of_le hgs | exact hgs2 | exact hgs3) _ | refine Below.drew ?_ | refine bl_drewN ?_ _))) g1 (Mem.get hM.out (by simp))).mono ?_); rintro e w6 ⟨rfl, hb⟩; have hB : Below w.heap.size w w6 := (by refine bl_then ?_ hb; (repeat (first | exact hB | refine bl_al ?_ _ | refine Below.setCell ?_ (by first | exact hgs | exact Nat.le_succ_of_le hgs | exact hgs2 | exact hgs3) _ | refine Below.drew ?_ | refine bl_drewN ?_ _))); (first | with_reducible have hM2 := Mem.later hb (hM.out) | with_reducible have hM2 := Mem.later hb (Mem.al (hM.out) _ _) | with_reducible have hM2 := Mem.later hb (Mem.al (Mem.al (hM.out) _ _) _ _) | with_reducible have hM2 := Mem.later hb (Mem.al (Mem.al (Mem.al (hM.out) _ _) _ _) _ _) | with_reducible have hM2 := Mem.later hb (Mem.al (Mem.al (Mem.al (Mem.al (hM.out) _ _) _ _) _ _) _ _) | with_reducible have hM2 := Mem.later hb (Mem.drew (hM.out)) | with_reducible have hM2 := Mem.later hb (Mem.drew (Mem.al (hM.out) _ _)) | with_reducible have hM2 := Mem.later hb (Mem.al (Mem.drew (hM.out)) _ _) | with_reducible have hM2 := Mem.later hb (Mem.al (Mem.drew (Mem.al (hM.out) _ _)) _ _) | with_reducible have hM2 := Mem.later hb (Mem.drew (Mem.al (Mem.al (hM.out) _ _) _ _)) | with_reducible have hM2 := Mem.later hb (Mem.al (Mem.al (Mem.drew (hM.out)) _ _) _ _) | with_reducible have hM2 := Mem.later hb (Mem.drew (Mem.drew (hM.out))) | with_reducible have hM2 := Mem.later hb (Mem.drew (Mem.al (Mem.drew (hM.out)) _ _)) | with_reducible have hM2 := Mem.later hb (Mem.drew (Mem.al (Mem.al (Mem.al (hM.out) _ _) _ _) _ _)) | with_reducible have hM2 := Mem.later hb (Mem.al (Mem.al (Mem.drew (Mem.al (hM.out) _ _)) _ _) _ _) | with_reducible have hM2 := Mem.later hb (Mem.drew (Mem.al (Mem.drew (Mem.al (hM.out) _ _)) _ _)) | with_reducible have hM2 := Mem.later hb (Mem.al (Mem.al (Mem.al (Mem.al (Mem.al (hM.out) _ _) _ _) _ _) _ _) _ _) | with_reducible have hM2 := Mem.later hb (Mem.al (Mem.al (Mem.al (Mem.al (Mem.al (Mem.al (hM.out) _ _) _ _) _ _) _ _) _ _) _ _) | with_reducible have hM2 := Mem.later hb (Mem.al (Mem.al (Mem.al (Mem.al (Mem.al (Mem.al (Mem.al (hM.out) _ _) _ _) _ _) _ _) _ _) _ _) _ _) | with_reducible have hM2 := Mem.later hb (Mem.al (Mem.al (Mem.al (Mem.al (Mem.al (Mem.al (Mem.al (Mem.al (hM.out) _ _) _ _) _ _) _ _) _ _) _ _) _ _) _ _)); (try simp only [World.size_alloc, size_drew] at hM2); clear hM; have hM := Lib.hid hM2; clear hF; have hF := hM2; (try simp only [Mem, cellsAt, World.size_alloc, Nat.zero_add, Nat.reduceAdd, and_true] at hF); clear hM2; clear hb; clear hF; have hF : True := trivial; (refine hK.out _ _ _ (fun _ h => h) (HS.out _ hM.out) (fun hHeld => ?_); clear hK; clear K; (try simp only [Act.put, List.setIfInBounds_toArray, List.set_cons_zero, List.set_cons_succ])))
      iterate 7 (refine wpT_take rfl (by rfl) (by rfl) (by intro w' hSw; (try dsimp only [Mem, cellsAt] at hSw); go_simp; (try with_reducible rfl)) (by assumption) ?_; (try simp only [Act.put, List.setIfInBounds_toArray, List.set_cons_zero, List.set_cons_succ]))
      (refine wpT_yield rfl (by rfl) (Go.yieldsIf_load_mid (by rfl) 71 (.tmp 11) rfl b7 0 rfl (hdL G) _ (fun w' h => rangeAt_of (Mem.get h.1 (by simp))) Tryd.underlying71 rfl (by rw [hdL_len]; kernel_rfl)) (by assumption) ?_; (try simp only [Act.put, List.setIfInBounds_toArray, List.set_cons_zero, List.set_cons_succ]))
      (refine wpT_yield rfl (by rfl) (Go.yieldsIf_load_mid (by rfl) 71 (.tmp 2) rfl w.heap.size 0 rfl (hdL h) _ (fun w' h => rangeAt_of (Mem.get h.1 (by simp))) Tryd.underlying71 rfl (by rw [hdL_len]; kernel_rfl)) (by assumption) ?_; (try simp only [Act.put, List.setIfInBounds_toArray, List.set_cons_zero, List.set_cons_succ]))
      iterate 7 (refine wpT_take rfl (by rfl) (by rfl) (by intro w' hSw; (try dsimp only [Mem, cellsAt] at hSw); go_simp; (try with_reducible rfl)) (by assumption) ?_; (try simp only [Act.put, List.setIfInBounds_toArray, List.set_cons_zero, List.set_cons_succ]))
      (refine wpT_yield rfl (by rfl) (Go.yieldsIf_load_mid (by rfl) 30 (.tmp 117) rfl b7 (1) rfl (b8l G.p 32) _ (fun w' h' => hd_range_p (Mem.get (b := b7) (vs := hdL G) h'.1 (by simp))) Tryd.underlying30 rfl (by rw [b8l_len]; kernel_rfl)) (by assumption) ?_; (try simp only [Act.put, List.setIfInBounds_toArray, List.set_cons_zero, List.set_cons_succ]))
      iterate 1 (refine wpT_take rfl (by rfl) (by rfl) (by intro w' hSw; (try dsimp only [Mem, cellsAt] at hSw); go_simp; (try with_reducible rfl)) (by assumption) ?_; (try simp only [Act.put, List.setIfInBounds_toArray, List.set_cons_zero, List.set_cons_succ]))
      (refine wpT_yield rfl (by rfl) (Go.yieldsIf_load_mid (by rfl) 30 (.tmp 119) rfl w.heap.size (1) rfl (b8l h.p 32) _ (fun w' h' => hd_range_p (Mem.get (b := w.heap.size) (vs := hdL h) h'.1 (by simp))) Tryd.underlying30 rfl (by rw [b8l_len]; kernel_rfl)) (by assumption) ?_; (try simp only [Act.put, List.setIfInBounds_toArray, List.set_cons_zero, List.set_cons_succ]))
      iterate 18 (refine wpT_take rfl (by rfl) (by rfl) (by intro w' hSw; (try dsimp only [Mem, cellsAt] at hSw); go_simp; (try with_reducible rfl)) (by assumption) ?_; (try simp only [Act.put, List.setIfInBounds_toArray, List.set_cons_zero, List.set_cons_succ]))
      iterate 2 (refine wpT_pass rfl (by rfl) (by rfl) (by assumption) ?_; (try simp only [Act.put, List.setIfInBounds_toArray, List.set_cons_zero, List.set_cons_succ]))
      iterate 14 (refine wpT_take rfl (by rfl) (by rfl) (by intro w' hSw; (try dsimp only [Mem, cellsAt] at hSw); go_simp; (try with_reducible rfl)) (by assumption) ?_; (try simp only [Act.put, List.setIfInBounds_toArray, List.set_cons_zero, List.set_cons_succ]))
      (refine wpT_nil ?_)
      go_wp2
      go_ret
      exact ⟨rfl, by (repeat (first | exact hB | refine bl_al ?_ _ | refine Below.setCell ?_ (by first | exact hgs | exact Nat.le_succ_of_le hgs | exact hgs2 | exact hgs3) _ | refine Below.drew ?_ | refine bl_drewN ?_ _))⟩
end Go.Proofs.YtpdgeiflmnhkfaaDoor

/- florinlaw07: HeaderBytes part d (made by gen_hd16.py). (hM) -/
namespace Go.Proofs.YtpdgeiflmnhkfaaDoor
set_option linter.unusedVariables false
set_option linter.unusedSimpArgs false
open Go.RowKit

def BbReld (w : World) (b : Int) (n i : Value) (wr : World) : Prop :=
  ∃ (s : Nat) (x : Int), s ≤ 4 ∧ x + 1 = s ∧ i = .int .i64 x ∧ n = .int .u32 (b / 256 ^ s) ∧ wr = w

set_option maxRecDepth 100000 in
set_option maxHeartbeats 40000000 in
theorem hbytes_d (h : Hd) (ho : HdOk h) (k0 : Int) (w : World) (hT : Tab w) (hrg : ∀ m : Nat, bits .and .i64 k0 65535 = (m : Int) → ∀ a, m % 80 = a → 68 ≤ a ∧ a < 72) :
    Calls Tryd.prog 7 #[hdV h, .int .i64 k0] w fun e w' => e = .returned (.bool true) ∧ Below w.heap.size w w' := by
  have HA := Lib.hid (fun (x : World) (hb : Below w.heap.size w x) => awake7_any x (hT.later hb))
  have HPut := Lib.hid (fun (x : World) => hput_any h ho x)
  have hId := fun (x : World) (hb : Below w.heap.size w x) => hid_any h ho x (hT.later hb)
  have hDb : ∀ (x : World), Below w.heap.size w x → ∀ b : Nat, cellsAt x b 0 (b8l (hdF h) 80) → Calls Tryd.prog 21 #[.slice (some ⟨b, 0, none⟩) 80 80] x fun e w' => e = .returned (arr32 (idF h)) ∧ Below x.heap.size x w' :=
    fun (x : World) (hb : Below w.heap.size w x) (b : Nat) (hr : cellsAt x b 0 (b8l (hdF h) 80)) => double_any (some ⟨b, 0, none⟩) 80 80 (hdF h) x (hT.later hb) (row_ofWc (Nat.le_refl _) hr) (hdF_b ho) (by omega)
  obtain ⟨I, hI⟩ : ∃ I, idF h = I := ⟨_, rfl⟩
  simp only [hI] at hId hDb
  have HId := Lib.hid hId
  have HDb := Lib.hid hDb
  have hEI := eql_hash I
  obtain ⟨m, hK, hK2⟩ := and_64k k0
  obtain ⟨a, ha0⟩ : ∃ a, m % 80 = a := ⟨_, rfl⟩
  have ha : a < 80 := by omega
  have HRG := Lib.hid (hrg m hK a ha0)
  clear hrg
  have hrI : (m : Int) % 80 = (a : Int) := by omega
  have hrT : (m : Int).tmod 80 = (a : Int) := by rw [Int.tmod_eq_emod_of_nonneg (by omega)]; exact hrI
  have haI : (a : Int) < 80 := by omega
  have hTn := turned_get ho a ha
  have hG := fun (x : World) (g c : Nat) (hr : Row x (some ⟨g, 0, none⟩) 80 c 1 (bcells (turnF (hdF h) a) 80)) => hget_any g 0 c (turnF (hdF h) a) x hr (turnF_b (hdF_b ho) a)
  obtain ⟨G, hGG⟩ : ∃ G, getH (turnF (hdF h) a) = G := ⟨_, rfl⟩
  simp only [hGG] at hG hTn
  have HG := Lib.hid hG
  have HTn := Lib.hid hTn
  have hNe := neq_hdr G h true (by rw [hTn.e]; rfl)
  have HFb := Lib.hid (hdF_b ho)
  have HOb := Lib.hid ho
  obtain ⟨x, hx⟩ : ∃ x, hdF h a = x := ⟨_, rfl⟩
  have hxb : 0 ≤ x ∧ x < 256 := by rw [← hx]; exact hdF_b ho a
  obtain ⟨y, hy⟩ : ∃ y, 255 - x = y := ⟨_, rfl⟩
  have hxor : bits .xor .u8 x 255 = y := (turn_u8 x hxb).trans hy
  have HX := Lib.hid (And.intro hx (And.intro hy ha))
  have hB := bl_al (Below.refl w.heap.size w) (.cells (hdL h).toArray 71)
  have hM := Lib.hid (Mem.al (mem_nil w) (hdL h) 71)
  clear hT ho hId hDb hI hK2 ha0 ha hG hGG hTn hx hxb hy
  have hF : True := trivial
  go_enter Tryd.func7, Tryd.ntmps7
  go_wp2_with (first |
    (go_at_call 60; (with_reducible refine (HA.out _ (by (repeat (first | exact hB | refine bl_al ?_ _ | refine Below.setCell ?_ (by first | exact hgs | exact Nat.le_succ_of_le hgs | exact hgs2 | exact hgs3) _ | refine Below.drew ?_ | refine bl_drewN ?_ _)))).mono ?_); rintro e w1 ⟨rfl, hb⟩; have hB : Below w.heap.size w w1 := (by refine bl_then ?_ hb; (repeat (first | exact hB | refine bl_al ?_ _ | refine Below.setCell ?_ (by first | exact hgs | exact Nat.le_succ_of_le hgs | exact hgs2 | exact hgs3) _ | refine Below.drew ?_ | refine bl_drewN ?_ _))); (first | with_reducible have hM2 := Mem.later hb (hM.out) | with_reducible have hM2 := Mem.later hb (Mem.al (hM.out) _ _) | with_reducible have hM2 := Mem.later hb (Mem.al (Mem.al (hM.out) _ _) _ _) | with_reducible have hM2 := Mem.later hb (Mem.al (Mem.al (Mem.al (hM.out) _ _) _ _) _ _) | with_reducible have hM2 := Mem.later hb (Mem.al (Mem.al (Mem.al (Mem.al (hM.out) _ _) _ _) _ _) _ _) | with_reducible have hM2 := Mem.later hb (Mem.drew (hM.out)) | with_reducible have hM2 := Mem.later hb (Mem.drew (Mem.al (hM.out) _ _)) | with_reducible have hM2 := Mem.later hb (Mem.al (Mem.drew (hM.out)) _ _) | with_reducible have hM2 := Mem.later hb (Mem.al (Mem.drew (Mem.al (hM.out) _ _)) _ _) | with_reducible have hM2 := Mem.later hb (Mem.drew (Mem.al (Mem.al (hM.out) _ _) _ _)) | with_reducible have hM2 := Mem.later hb (Mem.al (Mem.al (Mem.drew (hM.out)) _ _) _ _) | with_reducible have hM2 := Mem.later hb (Mem.drew (Mem.drew (hM.out))) | with_reducible have hM2 := Mem.later hb (Mem.drew (Mem.al (Mem.drew (hM.out)) _ _)) | with_reducible have hM2 := Mem.later hb (Mem.drew (Mem.al (Mem.al (Mem.al (hM.out) _ _) _ _) _ _)) | with_reducible have hM2 := Mem.later hb (Mem.al (Mem.al (Mem.drew (Mem.al (hM.out) _ _)) _ _) _ _) | with_reducible have hM2 := Mem.later hb (Mem.drew (Mem.al (Mem.drew (Mem.al (hM.out) _ _)) _ _)) | with_reducible have hM2 := Mem.later hb (Mem.al (Mem.al (Mem.al (Mem.al (Mem.al (hM.out) _ _) _ _) _ _) _ _) _ _) | with_reducible have hM2 := Mem.later hb (Mem.al (Mem.al (Mem.al (Mem.al (Mem.al (Mem.al (hM.out) _ _) _ _) _ _) _ _) _ _) _ _) | with_reducible have hM2 := Mem.later hb (Mem.al (Mem.al (Mem.al (Mem.al (Mem.al (Mem.al (Mem.al (hM.out) _ _) _ _) _ _) _ _) _ _) _ _) _ _) | with_reducible have hM2 := Mem.later hb (Mem.al (Mem.al (Mem.al (Mem.al (Mem.al (Mem.al (Mem.al (Mem.al (hM.out) _ _) _ _) _ _) _ _) _ _) _ _) _ _) _ _)); (try simp only [World.size_alloc, size_drew] at hM2); clear hM; have hM := Lib.hid hM2; clear hF; have hF := hM2; (try simp only [Mem, cellsAt, World.size_alloc, Nat.zero_add, Nat.reduceAdd, and_true] at hF); clear hM2; clear hb; clear hF; have hF : True := trivial) |
    (refine Go.wpList_load_mid rfl 71 (.tmp 2) rfl w.heap.size 0 rfl (hdL h) _ (rangeAt_of (Mem.get hM.out (by simp))) Tryd.underlying71 rfl (by rw [hdL_len]; kernel_rfl) ?_) |
    (go_at_call 69; (with_reducible refine (HPut.out _).mono ?_); rintro e w2 ⟨g1, rfl, _, hmp, hb⟩; have HMp := Lib.hid hmp; clear hmp; have hB : Below w.heap.size w w2 := (by refine bl_then ?_ hb; (repeat (first | exact hB | refine bl_al ?_ _ | refine Below.setCell ?_ (by first | exact hgs | exact Nat.le_succ_of_le hgs | exact hgs2 | exact hgs3) _ | refine Below.drew ?_ | refine bl_drewN ?_ _))); (first | with_reducible have hM2 := Mem.later hb (hM.out) | with_reducible have hM2 := Mem.later hb (Mem.al (hM.out) _ _) | with_reducible have hM2 := Mem.later hb (Mem.al (Mem.al (hM.out) _ _) _ _) | with_reducible have hM2 := Mem.later hb (Mem.al (Mem.al (Mem.al (hM.out) _ _) _ _) _ _) | with_reducible have hM2 := Mem.later hb (Mem.al (Mem.al (Mem.al (Mem.al (hM.out) _ _) _ _) _ _) _ _) | with_reducible have hM2 := Mem.later hb (Mem.drew (hM.out)) | with_reducible have hM2 := Mem.later hb (Mem.drew (Mem.al (hM.out) _ _)) | with_reducible have hM2 := Mem.later hb (Mem.al (Mem.drew (hM.out)) _ _) | with_reducible have hM2 := Mem.later hb (Mem.al (Mem.drew (Mem.al (hM.out) _ _)) _ _) | with_reducible have hM2 := Mem.later hb (Mem.drew (Mem.al (Mem.al (hM.out) _ _) _ _)) | with_reducible have hM2 := Mem.later hb (Mem.al (Mem.al (Mem.drew (hM.out)) _ _) _ _) | with_reducible have hM2 := Mem.later hb (Mem.drew (Mem.drew (hM.out))) | with_reducible have hM2 := Mem.later hb (Mem.drew (Mem.al (Mem.drew (hM.out)) _ _)) | with_reducible have hM2 := Mem.later hb (Mem.drew (Mem.al (Mem.al (Mem.al (hM.out) _ _) _ _) _ _)) | with_reducible have hM2 := Mem.later hb (Mem.al (Mem.al (Mem.drew (Mem.al (hM.out) _ _)) _ _) _ _) | with_reducible have hM2 := Mem.later hb (Mem.drew (Mem.al (Mem.drew (Mem.al (hM.out) _ _)) _ _)) | with_reducible have hM2 := Mem.later hb (Mem.al (Mem.al (Mem.al (Mem.al (Mem.al (hM.out) _ _) _ _) _ _) _ _) _ _) | with_reducible have hM2 := Mem.later hb (Mem.al (Mem.al (Mem.al (Mem.al (Mem.al (Mem.al (hM.out) _ _) _ _) _ _) _ _) _ _) _ _) | with_reducible have hM2 := Mem.later hb (Mem.al (Mem.al (Mem.al (Mem.al (Mem.al (Mem.al (Mem.al (hM.out) _ _) _ _) _ _) _ _) _ _) _ _) _ _) | with_reducible have hM2 := Mem.later hb (Mem.al (Mem.al (Mem.al (Mem.al (Mem.al (Mem.al (Mem.al (Mem.al (hM.out) _ _) _ _) _ _) _ _) _ _) _ _) _ _) _ _)); (try simp only [World.size_alloc, size_drew] at hM2); clear hM; have hM := Lib.hid hM2; clear hF; have hF := hM2; (try simp only [Mem, cellsAt, World.size_alloc, Nat.zero_add, Nat.reduceAdd, and_true] at hF); clear hM2; clear hb; clear hF; have hF : True := trivial))
  have HB0 := Lib.hid hB
  have HM0 : Hid (Mem w2 [(g1, b8l (hdF h) 80), (w.heap.size, hdL h)]) := ⟨HMp.out.1, hM.out⟩
  clear hB hM hF HMp
  go_loopw [7, 8] (fun n i wr => BbReld w2 h.b n i wr) (fun _ i _ => (intOf i + 1).toNat)
  case atStart => exact ⟨4, 3, Nat.le_refl _, rfl, rfl, by have hb := HOb.out.b; rw [show (256 : Int) ^ 4 = 4294967296 by decide]; exact congrArg (Value.int .u32) (show (0 : Int) = h.b / 4294967296 by omega), rfl⟩
  case round =>
    obtain ⟨s, z, hs, hz, rfl, rfl, hW⟩ := hrel
    subst hW
    rename World => W
    by_cases hlt : 0 < s
    · obtain ⟨j, rfl⟩ : ∃ j, s = j + 1 := ⟨s - 1, by omega⟩
      obtain rfl : z = (j : Int) := by omega
      obtain ⟨k, hk⟩ : ∃ k, 72 + j = k := ⟨_, rfl⟩
      obtain ⟨z2, hz2⟩ : ∃ z2, (j : Int) - 1 = z2 := ⟨_, rfl⟩
      have hc := cellsAt_get HM0.out.1.2.2 (b8l_get (hdF h) 80 k (by omega))
      rw [← hk, hdF_bt h j (by omega), hk] at hc
      have k1 : IntKind.i64.wrap (72 + (j : Int)) = (k : Int) := by rw [IntKind.wrap_i64]; omega
      have k2 : IntKind.i64.wrap ((j : Int) - 1) = z2 := by rw [IntKind.wrap_i64]; omega
      have k3 : (k : Int) < 80 := by omega
      have k4 : 0 ≤ (j : Int) := by omega
      have hor := bits_step h.b HOb.out.b j (by omega)
      have hle := le4_b h.b j
      obtain ⟨p, hp⟩ : ∃ p, h.b / 256 ^ (j + 1) = p := ⟨_, rfl⟩
      obtain ⟨q, hq⟩ : ∃ q, le4 h.b j = q := ⟨_, rfl⟩
      rw [hp, hq] at hor
      rw [hq] at hc hle
      rw [hp]
      have k5 : IntKind.u32.wrap q = q := by rw [IntKind.wrap_u32]; omega
      have HJ : Hid (j + 1 ≤ 4) := hs
      have HZ := Lib.hid hz2
      clear hk hp hq hle hs hz hz2 hlt
      go_wp2
      refine ⟨⟨j, z2, by have := HJ.out; omega, by have := HZ.out; omega, rfl, rfl, by first | rfl | trivial⟩, by have := HZ.out; simp [intOf]; omega⟩
    · obtain rfl : s = 0 := by omega
      obtain rfl : z = -1 := by omega
      have hb1 : h.b / 256 ^ 0 = h.b := by rw [Int.pow_zero, Int.ediv_one]
      rw [hb1]
      clear hb1 hs hz hlt
      have HRp := Lib.hid (row_ofWc (f := hdF h) (Nat.le_refl 80) HM0.out.1.2.2)
      have HG1 : Hid (g1 < W.heap.size ∧ w.heap.size < W.heap.size) := ⟨Mem.lt HM0.out (g1, b8l (hdF h) 80) (by simp), Mem.lt HM0.out (w.heap.size, hdL h) (by simp)⟩
      go_wp2_with (first |
        (refine wpList_appN eltU8 W _ (below_alloc W _) rfl (.tmp 36) (.tmp 37) rfl (some ⟨W.heap.size, 0, none⟩) 0 0 [] rfl (ownN_lit0 _ _ _ _ (Nat.le_refl _)) (some ⟨g1, 0, none⟩) 80 80 (bcells (hdF h) 80) rfl (HRp.out.later (below_alloc _ _)) (fun h => by cases h) (by omega) ?_; intro g2 cp2 wA hownA hbA; have HoA : Hid (wA.ownsRow W.heap.size 5 1 (.slice (some ⟨g2, 0, none⟩) 80 cp2) 80 (bcells (hdF h) 80)) := hownA; clear hownA; have hg2 := World.ownsRow.lt HoA.out g2 rfl; have HMA : Hid (Mem wA [(g2, b8l (hdF h) 80), (g1, b8l (hdF h) 80), (w.heap.size, hdL h)]) := ⟨own_mem HoA.out, Mem.later hbA HM0.out⟩; have hcl := (cellsAt_get HMA.out.1.2.2 (b8l_get (hdF h) 80 a HX.out.2.2)).trans (by rw [HX.out.1]); have hfr := HMA.out.1.2.1 a; have HLe := Lib.hid ((row_own HoA.out (bcells_one _ _)).le); have HMs : Hid (Mem (wA.setCell ⟨g2, a, none⟩ (.int .u8 y)) [(g2, b8l (turnF (hdF h) a) 80), (g1, b8l (hdF h) 80), (w.heap.size, hdL h)]) := (by have h1 := Mem.setN (k := a) (v := .int .u8 y) (by intro p hp; have := HG1.out; have := hg2.1; simp at hp; rcases hp with rfl | rfl <;> (simp; omega)) HMA.out; rw [b8l_set] at h1; have e : turnF (hdF h) a = setF (hdF h) a y := (by unfold turnF; rw [HX.out.1, HX.out.2.1]); rw [e]; exact h1); have HRg := Lib.hid (row_ofWc (f := turnF (hdF h) a) HLe.out HMs.out.1.2.2); have HBs : Hid (Below w.heap.size w (wA.setCell ⟨g2, a, none⟩ (.int .u8 y))) := (bl_then HB0.out hbA).setCell (by have := HG1.out; show w.heap.size ≤ g2; omega) _; clear HMA HoA hbA hg2) |
        (go_at_call 61; (with_reducible refine (HG.out _ g2 cp2 HRg.out).mono ?_); rintro e w3 ⟨rfl, hb⟩; have hM := Lib.hid (Mem.later hb HMs.out); have hB := bl_then HBs.out hb; clear HMs HBs HRg hcl hfr hb) |
        (refine wpList_store_newV rfl (.tmp 11) (.tmp 50) 71 rfl _ (hdL G) _ Tryd.underlying71 rfl (by rw [hdL_len]; kernel_rfl) (by rw [hdL_len]; rfl) (hdL_one _) rfl rfl hM.out ?_; intro W7 hMW hb; have hBW := bl_then hB hb; obtain ⟨b7, hbx⟩ : ∃ b, w3.heap.size = b := ⟨_, rfl⟩; rw [hbx] at hMW; simp only [hbx]; clear hbx hM hB; have hM := Lib.hid hMW; have hB := hBW; clear hMW hb hBW; refine (?_ : Hid _).out))
      refine Lib.hid ?_
      have c1 := cellsAt_get (Mem.get (b := b7) (vs := hdL G) hM.out (by simp)) (hdL_0 G)
      have c2 := cellsAt_get (Mem.get (b := w.heap.size) (vs := hdL h) hM.out (by simp)) (hdL_0 h)
      have hS : ∀ x : World, Mem x [(b7, hdL G), (g2, b8l (turnF (hdF h) a) 80), (g1, b8l (hdF h) 80), (w.heap.size, hdL h)] → _ ∧ _ ∧ _ ∧ _ ∧ _ ∧ _ ∧ _ ∧ _ ∧ _ ∧ _ := fun x hm => ⟨hm, cellsAt_get (Mem.get (b := w.heap.size) (vs := hdL h) hm (by simp)) (hdL_b h), cellsAt_get (Mem.get (b := b7) (vs := hdL G) hm (by simp)) (hdL_t G), cellsAt_get (Mem.get (b := w.heap.size) (vs := hdL h) hm (by simp)) (hdL_t h), cellsAt_get (Mem.get (b := b7) (vs := hdL G) hm (by simp)) (hdL_n G), cellsAt_get (Mem.get (b := w.heap.size) (vs := hdL h) hm (by simp)) (hdL_n h),
        row_string (P := Tryd.prog) (T := 22) (S := 9) (zs := bnums h.p 32) x Tryd.underlying22 Tryd.underlying5 Tryd.underlying9 (ao := some ⟨g1, 4, none⟩) (n := 32) (c := 76) (by rw [← bcells_nums]; exact row_rng (by omega) (b8l_congr (hdF_p h) ▸ range_b8l (Mem.get (vs := b8l (hdF h) 80) (b := g1) hm (by simp)) 4 32 (by omega))),
        row_string (P := Tryd.prog) (T := 22) (S := 9) (zs := bnums h.p 32) x Tryd.underlying22 Tryd.underlying5 Tryd.underlying9 (ao := some ⟨w.heap.size, 1, none⟩) (n := 32) (c := 32) (by rw [← bcells_nums]; exact row_rng (by omega) (hd_range_p (Mem.get hm (by simp)))),
        row_string (P := Tryd.prog) (T := 22) (S := 9) (zs := bnums h.r 32) x Tryd.underlying22 Tryd.underlying5 Tryd.underlying9 (ao := some ⟨g1, 36, none⟩) (n := 32) (c := 44) (by rw [← bcells_nums]; exact row_rng (by omega) (b8l_congr (hdF_r h) ▸ range_b8l (Mem.get (vs := b8l (hdF h) 80) (b := g1) hm (by simp)) 36 32 (by omega))),
        row_string (P := Tryd.prog) (T := 22) (S := 9) (zs := bnums h.r 32) x Tryd.underlying22 Tryd.underlying5 Tryd.underlying9 (ao := some ⟨w.heap.size, 33, none⟩) (n := 32) (c := 32) (by rw [← bcells_nums]; exact row_rng (by omega) (hd_range_r (Mem.get hm (by simp))))⟩
      obtain ⟨sp, hsp⟩ : ∃ z, strOfNums (bnums h.p 32) = z := ⟨_, rfl⟩
      obtain ⟨sr, hsr⟩ : ∃ z, strOfNums (bnums h.r 32) = z := ⟨_, rfl⟩
      rw [hsp, hsr] at hS
      have HS := Lib.hid hS
      have ha := HX.out.2.2
      clear hsp hsr hS
      have hr := HRG.out
      clear ha HRG
      have q0 : 4 ≤ (a : Int) := by omega
      have q1 : ¬ (a : Int) < 4 := by omega
      have q2 : 36 ≤ (a : Int) := by omega
      have q3 : ¬ (a : Int) < 36 := by omega
      have q4 : 68 ≤ (a : Int) := by omega
      have q5 : ¬ (a : Int) < 68 := by omega
      have q6 : (a : Int) < 72 := by omega
      have q7 : ¬ 72 ≤ (a : Int) := by omega
      have q8 : (a : Int) < 76 := by omega
      have q9 : ¬ 76 ≤ (a : Int) := by omega
      have r0 : decide (4 ≤ (a : Int)) = true := by simp; omega
      have p0 : decide ((a : Int) < 4) = false := by simp; omega
      have r1 : decide (36 ≤ (a : Int)) = true := by simp; omega
      have p1 : decide ((a : Int) < 36) = false := by simp; omega
      have r2 : decide (68 ≤ (a : Int)) = true := by simp; omega
      have p2 : decide ((a : Int) < 68) = false := by simp; omega
      have r3 : decide (72 ≤ (a : Int)) = false := by simp; omega
      have p3 : decide ((a : Int) < 72) = true := by simp; omega
      have r4 : decide (76 ≤ (a : Int)) = false := by simp; omega
      have p4 : decide ((a : Int) < 76) = true := by simp; omega
      have z1 : G.v = h.v := by rw [HTn.out.v]; omega
      have z2 : ¬ G.t = h.t := by rw [HTn.out.t]; omega
      have z3 : G.n = h.n := by rw [HTn.out.n]; omega
      have z1a : (G.v == h.v) = true := by simp [z1]
      have z1b : (G.v != h.v) = false := by simp [z1]
      have z2a : (G.t == h.t) = false := by simp [z2]
      have z2b : (G.t != h.t) = true := by simp [z2]
      have z3a : (G.n == h.n) = true := by simp [z3]
      have z3b : (G.n != h.n) = false := by simp [z3]
      clear z1 z2 z3
      have z4 : ∀ x : World, (binOp .neq 30 (arr32 G.p) (arr32 h.p)).run Tryd.prog x = .ok (.bool false) x := fun x => neq_hash7 G.p h.p _ (by have e := HTn.out.p; have e2 := e.2 (by omega); simp [e2]) x
      clear hr
      go_wp2
      skip
      clear c1 c2
      have hF : True := trivial
      refine wp_plan (fun x => Mem x [(b7, hdL G), (g2, b8l (turnF (hdF h) a) 80), (g1, b8l (hdF h) 80), (w.heap.size, hdL h)] ∧ x.cell? ⟨w.heap.size, 66, none⟩ = some (.int .u32 h.b) ∧ x.cell? ⟨b7, 65, none⟩ = some (.int .u32 G.t) ∧ x.cell? ⟨w.heap.size, 65, none⟩ = some (.int .u32 h.t) ∧ x.cell? ⟨b7, 67, none⟩ = some (.int .u32 G.n) ∧ x.cell? ⟨w.heap.size, 67, none⟩ = some (.int .u32 h.n) ∧ (convert 22 9 (.slice (some ⟨g1, 4, none⟩) 32 76)).run Tryd.prog x = .ok (.string sp) x ∧ (convert 22 9 (.slice (some ⟨w.heap.size, 1, none⟩) 32 32)).run Tryd.prog x = .ok (.string sp) x ∧ (convert 22 9 (.slice (some ⟨g1, 36, none⟩) 32 44)).run Tryd.prog x = .ok (.string sr) x ∧ (convert 22 9 (.slice (some ⟨w.heap.size, 33, none⟩) 32 32)).run Tryd.prog x = .ok (.string sr) x) [27, 29] [0, 1, 2, 3, 4, 5, 6, 7, 8, 9, 10, 11, 12, 13, 14, 15, 16, 17, 18, 19, 20, 21, 22, 23, 24, 25, 26, 28, 27, 29, 30, 31, 32, 33, 34, 35, 36, 37, 38, 39, 40, 41, 42, 43, 44, 45, 46, 47, 48, 49, 50, 51, 52, 53, 54, 55, 56, 57, 58, 59, 60, 61, 62, 63, 64, 65, 66, 67, 68, 69, 70, 71, 72, 73, 74, 75, 76, 77, 78, 79, 80, 81, 82] (by kernel_rfl) (by kernel_rfl) (HS.out _ (Mem.drew hM.out)) (fun hHeld => ?_)
      iterate 26 (refine wpT_take rfl (by rfl) (by rfl) (by intro w' hSw; (try dsimp only [Mem, cellsAt] at hSw); go_simp; (try with_reducible rfl)) (by assumption) ?_; (try simp only [Act.put, List.setIfInBounds_toArray, List.set_cons_zero, List.set_cons_succ]))
      (refine wpT_yield rfl (by rfl) (Go.yieldsIf_load_mid (by rfl) 71 (.tmp 2) rfl w.heap.size 0 rfl (hdL h) _ (fun w' h => rangeAt_of (Mem.get h.1 (by simp))) Tryd.underlying71 rfl (by rw [hdL_len]; kernel_rfl)) (by assumption) ?_; (try simp only [Act.put, List.setIfInBounds_toArray, List.set_cons_zero, List.set_cons_succ]))
      iterate 1 (refine wpT_take rfl (by rfl) (by rfl) (by intro w' hSw; (try dsimp only [Mem, cellsAt] at hSw); go_simp; (try with_reducible rfl)) (by assumption) ?_; (try simp only [Act.put, List.setIfInBounds_toArray, List.set_cons_zero, List.set_cons_succ]))
      (refine wpT_step rfl (by rfl) (fun K hK => ?_); go_simp)
      ((with_reducible refine (HId.out _ (by (repeat (first | exact hB | refine bl_al ?_ _ | refine Below.setCell ?_ (by first | exact hgs | exact Nat.le_succ_of_le hgs | exact hgs2 | exact hgs3) _ | refine Below.drew ?_ | refine bl_drewN ?_ _)))).mono ?_); rintro e w5 ⟨rfl, hb⟩; have hB : Below w.heap.size w w5 := (by refine bl_then ?_ hb; (repeat (first | exact hB | refine bl_al ?_ _ | refine Below.setCell ?_ (by first | exact hgs | exact Nat.le_succ_of_le hgs | exact hgs2 | exact hgs3) _ | refine Below.drew ?_ | refine bl_drewN ?_ _))); (first | with_reducible have hM2 := Mem.later hb (hM.out) | with_reducible have hM2 := Mem.later hb (Mem.al (hM.out) _ _) | with_reducible have hM2 := Mem.later hb (Mem.al (Mem.al (hM.out) _ _) _ _) | with_reducible have hM2 := Mem.later hb (Mem.al (Mem.al (Mem.al (hM.out) _ _) _ _) _ _) | with_reducible have hM2 := Mem.later hb (Mem.al (Mem.al (Mem.al (Mem.al (hM.out) _ _) _ _) _ _) _ _) | with_reducible have hM2 := Mem.later hb (Mem.drew (hM.out)) | with_reducible have hM2 := Mem.later hb (Mem.drew (Mem.al (hM.out) _ _)) | with_reducible have hM2 := Mem.later hb (Mem.al (Mem.drew (hM.out)) _ _) | with_reducible have hM2 := Mem.later hb (Mem.al (Mem.drew (Mem.al (hM.out) _ _)) _ _) | with_reducible have hM2 := Mem.later hb (Mem.drew (Mem.al (Mem.al (hM.out) _ _) _ _)) | with_reducible have hM2 := Mem.later hb (Mem.al (Mem.al (Mem.drew (hM.out)) _ _) _ _) | with_reducible have hM2 := Mem.later hb (Mem.drew (Mem.drew (hM.out))) | with_reducible have hM2 := Mem.later hb (Mem.drew (Mem.al (Mem.drew (hM.out)) _ _)) | with_reducible have hM2 := Mem.later hb (Mem.drew (Mem.al (Mem.al (Mem.al (hM.out) _ _) _ _) _ _)) | with_reducible have hM2 := Mem.later hb (Mem.al (Mem.al (Mem.drew (Mem.al (hM.out) _ _)) _ _) _ _) | with_reducible have hM2 := Mem.later hb (Mem.drew (Mem.al (Mem.drew (Mem.al (hM.out) _ _)) _ _)) | with_reducible have hM2 := Mem.later hb (Mem.al (Mem.al (Mem.al (Mem.al (Mem.al (hM.out) _ _) _ _) _ _) _ _) _ _) | with_reducible have hM2 := Mem.later hb (Mem.al (Mem.al (Mem.al (Mem.al (Mem.al (Mem.al (hM.out) _ _) _ _) _ _) _ _) _ _) _ _) | with_reducible have hM2 := Mem.later hb (Mem.al (Mem.al (Mem.al (Mem.al (Mem.al (Mem.al (Mem.al (hM.out) _ _) _ _) _ _) _ _) _ _) _ _) _ _) | with_reducible have hM2 := Mem.later hb (Mem.al (Mem.al (Mem.al (Mem.al (Mem.al (Mem.al (Mem.al (Mem.al (hM.out) _ _) _ _) _ _) _ _) _ _) _ _) _ _) _ _)); (try simp only [World.size_alloc, size_drew] at hM2); clear hM; have hM := Lib.hid hM2; clear hF; have hF := hM2; (try simp only [Mem, cellsAt, World.size_alloc, Nat.zero_add, Nat.reduceAdd, and_true] at hF); clear hM2; clear hb; clear hF; have hF : True := trivial; (refine hK.out _ _ _ (fun _ h => h) (HS.out _ hM.out) (fun hHeld => ?_); clear hK; clear K; (try simp only [Act.put, List.setIfInBounds_toArray, List.set_cons_zero, List.set_cons_succ])))
      (refine wpT_step rfl (by rfl) (fun K hK => ?_); go_simp)
      ((with_reducible refine (HDb.out _ (by (repeat (first | exact hB | refine bl_al ?_ _ | refine Below.setCell ?_ (by first | exact hgs | exact Nat.le_succ_of_le hgs | exact hgs2 | exact hgs3) _ | refine Below.drew ?_ | refine bl_drewN ?_ _))) g1 (Mem.get hM.out (by simp))).mono ?_); rintro e w6 ⟨rfl, hb⟩; have hB : Below w.heap.size w w6 := (by refine bl_then ?_ hb; (repeat (first | exact hB | refine bl_al ?_ _ | refine Below.setCell ?_ (by first | exact hgs | exact Nat.le_succ_of_le hgs | exact hgs2 | exact hgs3) _ | refine Below.drew ?_ | refine bl_drewN ?_ _))); (first | with_reducible have hM2 := Mem.later hb (hM.out) | with_reducible have hM2 := Mem.later hb (Mem.al (hM.out) _ _) | with_reducible have hM2 := Mem.later hb (Mem.al (Mem.al (hM.out) _ _) _ _) | with_reducible have hM2 := Mem.later hb (Mem.al (Mem.al (Mem.al (hM.out) _ _) _ _) _ _) | with_reducible have hM2 := Mem.later hb (Mem.al (Mem.al (Mem.al (Mem.al (hM.out) _ _) _ _) _ _) _ _) | with_reducible have hM2 := Mem.later hb (Mem.drew (hM.out)) | with_reducible have hM2 := Mem.later hb (Mem.drew (Mem.al (hM.out) _ _)) | with_reducible have hM2 := Mem.later hb (Mem.al (Mem.drew (hM.out)) _ _) | with_reducible have hM2 := Mem.later hb (Mem.al (Mem.drew (Mem.al (hM.out) _ _)) _ _) | with_reducible have hM2 := Mem.later hb (Mem.drew (Mem.al (Mem.al (hM.out) _ _) _ _)) | with_reducible have hM2 := Mem.later hb (Mem.al (Mem.al (Mem.drew (hM.out)) _ _) _ _) | with_reducible have hM2 := Mem.later hb (Mem.drew (Mem.drew (hM.out))) | with_reducible have hM2 := Mem.later hb (Mem.drew (Mem.al (Mem.drew (hM.out)) _ _)) | with_reducible have hM2 := Mem.later hb (Mem.drew (Mem.al (Mem.al (Mem.al (hM.out) _ _) _ _) _ _)) | with_reducible have hM2 := Mem.later hb (Mem.al (Mem.al (Mem.drew (Mem.al (hM.out) _ _)) _ _) _ _) | with_reducible have hM2 := Mem.later hb (Mem.drew (Mem.al (Mem.drew (Mem.al (hM.out) _ _)) _ _)) | with_reducible have hM2 := Mem.later hb (Mem.al (Mem.al (Mem.al (Mem.al (Mem.al (hM.out) _ _) _ _) _ _) _ _) _ _) | with_reducible have hM2 := Mem.later hb (Mem.al (Mem.al (Mem.al (Mem.al (Mem.al (Mem.al (hM.out) _ _) _ _) _ _) _ _) _ _) _ _) | with_reducible have hM2 := Mem.later hb (Mem.al (Mem.al (Mem.al (Mem.al (Mem.al (Mem.al (Mem.al (hM.out) _ _) _ _) _ _) _ _) _ _) _ _) _ _) | with_reducible have hM2 := Mem.later hb (Mem.al (Mem.al (Mem.al (Mem.al (Mem.al (Mem.al (Mem.al (Mem.al (hM.out) _ _) _ _) _ _) _ _) _ _) _ _) _ _) _ _)); (try simp only [World.size_alloc, size_drew] at hM2); clear hM; have hM := Lib.hid hM2; clear hF; have hF := hM2; (try simp only [Mem, cellsAt, World.size_alloc, Nat.zero_add, Nat.reduceAdd, and_true] at hF); clear hM2; clear hb; clear hF; have hF : True := trivial; (refine hK.out _ _ _ (fun _ h => h) (HS.out _ hM.out) (fun hHeld => ?_); clear hK; clear K; (try simp only [Act.put, List.setIfInBounds_toArray, List.set_cons_zero, List.set_cons_succ])))
      iterate 7 (refine wpT_take rfl (by rfl) (by rfl) (by intro w' hSw; (try dsimp only [Mem, cellsAt] at hSw); go_simp; (try with_reducible rfl)) (by assumption) ?_; (try simp only [Act.put, List.setIfInBounds_toArray, List.set_cons_zero, List.set_cons_succ]))
      (refine wpT_yield rfl (by rfl) (Go.yieldsIf_load_mid (by rfl) 71 (.tmp 11) rfl b7 0 rfl (hdL G) _ (fun w' h => rangeAt_of (Mem.get h.1 (by simp))) Tryd.underlying71 rfl (by rw [hdL_len]; kernel_rfl)) (by assumption) ?_; (try simp only [Act.put, List.setIfInBounds_toArray, List.set_cons_zero, List.set_cons_succ]))
      (refine wpT_yield rfl (by rfl) (Go.yieldsIf_load_mid (by rfl) 71 (.tmp 2) rfl w.heap.size 0 rfl (hdL h) _ (fun w' h => rangeAt_of (Mem.get h.1 (by simp))) Tryd.underlying71 rfl (by rw [hdL_len]; kernel_rfl)) (by assumption) ?_; (try simp only [Act.put, List.setIfInBounds_toArray, List.set_cons_zero, List.set_cons_succ]))
      iterate 7 (refine wpT_take rfl (by rfl) (by rfl) (by intro w' hSw; (try dsimp only [Mem, cellsAt] at hSw); go_simp; (try with_reducible rfl)) (by assumption) ?_; (try simp only [Act.put, List.setIfInBounds_toArray, List.set_cons_zero, List.set_cons_succ]))
      (refine wpT_yield rfl (by rfl) (Go.yieldsIf_load_mid (by rfl) 30 (.tmp 117) rfl b7 (1) rfl (b8l G.p 32) _ (fun w' h' => hd_range_p (Mem.get (b := b7) (vs := hdL G) h'.1 (by simp))) Tryd.underlying30 rfl (by rw [b8l_len]; kernel_rfl)) (by assumption) ?_; (try simp only [Act.put, List.setIfInBounds_toArray, List.set_cons_zero, List.set_cons_succ]))
      iterate 1 (refine wpT_take rfl (by rfl) (by rfl) (by intro w' hSw; (try dsimp only [Mem, cellsAt] at hSw); go_simp; (try with_reducible rfl)) (by assumption) ?_; (try simp only [Act.put, List.setIfInBounds_toArray, List.set_cons_zero, List.set_cons_succ]))
      (refine wpT_yield rfl (by rfl) (Go.yieldsIf_load_mid (by rfl) 30 (.tmp 119) rfl w.heap.size (1) rfl (b8l h.p 32) _ (fun w' h' => hd_range_p (Mem.get (b := w.heap.size) (vs := hdL h) h'.1 (by simp))) Tryd.underlying30 rfl (by rw [b8l_len]; kernel_rfl)) (by assumption) ?_; (try simp only [Act.put, List.setIfInBounds_toArray, List.set_cons_zero, List.set_cons_succ]))
      iterate 34 (refine wpT_take rfl (by rfl) (by rfl) (by intro w' hSw; (try dsimp only [Mem, cellsAt] at hSw); go_simp; (try with_reducible rfl)) (by assumption) ?_; (try simp only [Act.put, List.setIfInBounds_toArray, List.set_cons_zero, List.set_cons_succ]))
      (refine wpT_nil ?_)
      go_wp2
      go_ret
      exact ⟨rfl, by (repeat (first | exact hB | refine bl_al ?_ _ | refine Below.setCell ?_ (by first | exact hgs | exact Nat.le_succ_of_le hgs | exact hgs2 | exact hgs3) _ | refine Below.drew ?_ | refine bl_drewN ?_ _))⟩
end Go.Proofs.YtpdgeiflmnhkfaaDoor
