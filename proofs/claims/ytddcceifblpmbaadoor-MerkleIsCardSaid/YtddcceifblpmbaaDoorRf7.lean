/- florinlaw02: theirs, Sha2Start; florinref02: Same, Start. (hM) Merged: Ss2, Rf3, Rf4, Rf5, Rf6, Rf7. -/
import Derived.Test.YtddcceifblpmbaaDoorSs1
import Derived.Test.YtddcceifblpmbaaDoorRf2
import Derived.Test.YtddcceifblpmbaaDoorAppG
/- florinlaw02: theirs, Sha2Start; florinref02: Same, Start. (hM) -/
namespace Go.Proofs.YtddcceifblpmbaaDoor
set_option linter.unusedVariables false
set_option linter.unusedSimpArgs false
open Go.RowKit
set_option maxRecDepth 100000 in
set_option maxHeartbeats 2000000 in
theorem rstart_any (w : World) : Calls Tryd.prog 96 #[] w fun e w' => e = .returned (stV s0H (.slice none 0 0) 0) ∧ Below w.heap.size w w' := by
  go_enter Tryd.func96, Tryd.ntmps96
  go_wp2
  go_loopw [2] (fun i wr => StRel w i wr) (fun i _ => 8 - (intOf i).toNat)
  case atStart =>
    refine ⟨0, fun _ => 0, Nat.zero_le _, rfl, fun k hk => by omega, by (repeat (first | exact Below.refl _ _ | refine Below.drew ?_ | refine bl_drewN ?_ _ | (refine Below.alloc ?_ (by first | exact Nat.le_refl _ | (simp; done) | (simp; omega)) _))), ?_⟩
    have h := Mem.al (Mem.al (mem_nil w) (st0l fun _ => 0) 121) (st0l fun _ => 0) 121
    simp only [World.size_alloc] at h
    exact h
  case round =>
    obtain ⟨j, g, hj, rfl, hg, hB, hm⟩ := hrel
    by_cases hlt : j < 8
    · obtain ⟨v, hv⟩ : ∃ v, hF0 j = v := ⟨_, rfl⟩
      have hi := fun x => rinit_any (j : Int) x
      rw [show hAny (j : Int) = hF0 j by unfold hAny; rw [if_pos (by omega), Int.toNat_natCast], hv] at hi
      have HI := Lib.hid hi
      have hM := Lib.hid hm
      have hF : True := trivial
      have HGv := Lib.hid (And.intro hg hv)
      have hj8 : (j : Int) < 8 := by omega
      clear hm hg hv hi
      go_wp2_with (go_at_call 114; (with_reducible refine (HI.out _).mono ?_); rintro e w1 ⟨rfl, hb⟩; have hB : Below w.heap.size w w1 := (by refine bl_then ?_ hb; (repeat (first | exact hB | refine bl_al ?_ _ | refine Below.setCell ?_ (by first | exact hgs | exact Nat.le_succ_of_le hgs | exact hgs2 | exact hgs3) _ | refine Below.drew ?_ | refine bl_drewN ?_ _))); (first | with_reducible have hM2 := Mem.later hb (hM.out) | with_reducible have hM2 := Mem.later hb (Mem.al (hM.out) _ _) | with_reducible have hM2 := Mem.later hb (Mem.al (Mem.al (hM.out) _ _) _ _) | with_reducible have hM2 := Mem.later hb (Mem.al (Mem.al (Mem.al (hM.out) _ _) _ _) _ _) | with_reducible have hM2 := Mem.later hb (Mem.al (Mem.al (Mem.al (Mem.al (hM.out) _ _) _ _) _ _) _ _) | with_reducible have hM2 := Mem.later hb (Mem.drew (hM.out)) | with_reducible have hM2 := Mem.later hb (Mem.drew (Mem.al (hM.out) _ _)) | with_reducible have hM2 := Mem.later hb (Mem.al (Mem.drew (hM.out)) _ _) | with_reducible have hM2 := Mem.later hb (Mem.al (Mem.drew (Mem.al (hM.out) _ _)) _ _) | with_reducible have hM2 := Mem.later hb (Mem.drew (Mem.al (Mem.al (hM.out) _ _) _ _)) | with_reducible have hM2 := Mem.later hb (Mem.al (Mem.al (Mem.drew (hM.out)) _ _) _ _) | with_reducible have hM2 := Mem.later hb (Mem.drew (Mem.drew (hM.out))) | with_reducible have hM2 := Mem.later hb (Mem.drew (Mem.al (Mem.drew (hM.out)) _ _)) | with_reducible have hM2 := Mem.later hb (Mem.drew (Mem.al (Mem.al (Mem.al (hM.out) _ _) _ _) _ _)) | with_reducible have hM2 := Mem.later hb (Mem.al (Mem.al (Mem.drew (Mem.al (hM.out) _ _)) _ _) _ _) | with_reducible have hM2 := Mem.later hb (Mem.drew (Mem.al (Mem.drew (Mem.al (hM.out) _ _)) _ _)) | with_reducible have hM2 := Mem.later hb (Mem.al (Mem.al (Mem.al (Mem.al (Mem.al (hM.out) _ _) _ _) _ _) _ _) _ _) | with_reducible have hM2 := Mem.later hb (Mem.al (Mem.al (Mem.al (Mem.al (Mem.al (Mem.al (hM.out) _ _) _ _) _ _) _ _) _ _) _ _) | with_reducible have hM2 := Mem.later hb (Mem.al (Mem.al (Mem.al (Mem.al (Mem.al (Mem.al (Mem.al (hM.out) _ _) _ _) _ _) _ _) _ _) _ _) _ _) | with_reducible have hM2 := Mem.later hb (Mem.al (Mem.al (Mem.al (Mem.al (Mem.al (Mem.al (Mem.al (Mem.al (hM.out) _ _) _ _) _ _) _ _) _ _) _ _) _ _) _ _)); (try simp only [World.size_alloc, size_drew] at hM2); clear hM; have hM := Lib.hid hM2; clear hF; have hF := hM2; (try simp only [Mem, cellsAt, World.size_alloc, Nat.zero_add, Nat.reduceAdd, and_true] at hF); clear hM2; clear hb; clear hF; have hc := cellsAt_get hM.out.1.2.2 (st0l_get g j hlt); have hz := hM.out.1.2.1 j)
      have hM2 := Mem.setN (k := j) (v := .int .u32 v) (b := w.heap.size + 1) (by intro p hp; simp at hp; subst hp; simp) hM.out
      rw [st0l_set g j hlt] at hM2
      refine ⟨⟨j + 1, setF g j v, by omega, by go_num, fun k hk => ?_, hB.setCell (by show w.heap.size ≤ w.heap.size + 1; omega) _, hM2⟩, by simp [intOf]; omega⟩
      unfold setF
      by_cases hkj : k = j
      · rw [if_pos hkj, hkj]
        exact HGv.out.2.symm
      · rw [if_neg hkj]
        exact HGv.out.1 k (by omega)
    · have hje : j = 8 := by omega
      subst hje
      have h8 : ¬ ((8 : Nat) : Int) < 8 := by omega
      rw [st0l_s0 g hg] at hm
      have hF := hm
      simp only [Mem, cellsAt, st0l, u32l, List.range, List.range.loop, List.map_cons, List.map_nil, List.cons_append, List.nil_append, Nat.zero_add, Nat.reduceAdd, and_true] at hF
      have HMz := Lib.hid hm.2.1
      clear hm hg
      go_wp2
      have hR := Mem.over (us := [.int .u32 s0H.a, .int .u32 s0H.b, .int .u32 s0H.c, .int .u32 s0H.d, .int .u32 s0H.e, .int .u32 s0H.f, .int .u32 s0H.g, .int .u32 s0H.h, .slice none 0 0, .int .u64 0]) (b := w.heap.size) (L := []) (by simp) ⟨HMz.out, trivial⟩ rfl
      have hBl := bl_setCellsW (Nat.le_refl _) [.int .u32 s0H.a, .int .u32 s0H.b, .int .u32 s0H.c, .int .u32 s0H.d, .int .u32 s0H.e, .int .u32 s0H.f, .int .u32 s0H.g, .int .u32 s0H.h, .slice none 0 0, .int .u64 0] 0 wr hB
      have hRr := rangeAt_of hR.1.2.2
      clear hF hR HMz hB
      change bodyPost _ _ _ _ _ (wr.setCells w.heap.size 0 [.int .u32 s0H.a, .int .u32 s0H.b, .int .u32 s0H.c, .int .u32 s0H.d, .int .u32 s0H.e, .int .u32 s0H.f, .int .u32 s0H.g, .int .u32 s0H.h, .slice none 0 0, .int .u64 0])
      generalize wr.setCells w.heap.size 0 [.int .u32 s0H.a, .int .u32 s0H.b, .int .u32 s0H.c, .int .u32 s0H.d, .int .u32 s0H.e, .int .u32 s0H.f, .int .u32 s0H.g, .int .u32 s0H.h, .slice none 0 0, .int .u64 0] = wf at *
      have hl := Go.run_loadVar_mid (P := Tryd.prog) wf w.heap.size 0 121 [.int .u32 s0H.a, .int .u32 s0H.b, .int .u32 s0H.c, .int .u32 s0H.d, .int .u32 s0H.e, .int .u32 s0H.f, .int .u32 s0H.g, .int .u32 s0H.h, .slice none 0 0, .int .u64 0] _ hRr Tryd.underlying121 rfl (by kernel_rfl)
      refine bodyPost_ret (v := stV s0H (.slice none 0 0) 0) (by simp [results, Tryd.results96, asAddr, hl, Act.put]) rfl ⟨rfl, hBl⟩

end Go.Proofs.YtddcceifblpmbaaDoor

/- florinref02: Pad, Sane. (hM) -/
namespace Go.Proofs.YtddcceifblpmbaaDoor
set_option linter.unusedVariables false
set_option linter.unusedSimpArgs false
open Go.RowKit

theorem bcells_snoc (F : Nat → Int) (k : Nat) : bcells F (k + 1) = bcells F k ++ [.int .u8 (F k)] := by simp [bcells, List.range_succ]
theorem row_byte (W : World) (x : Int) : Row (W.alloc (.cells #[.int .u8 x] 5)) (some ⟨W.heap.size, 0, none⟩) 1 1 1 [.int .u8 x] := row_new W #[.int .u8 x] 5 1 1 1 rfl (Nat.le_refl _) (by intro u hu; simp at hu; subst hu; rfl)
def RpRel (w : World) (F : Nat → Int) (z : Nat) (o : Value) (wr : World) : Prop :=
  ∃ (j g c : Nat), j ≤ z ∧ o = .slice (some ⟨g, 0, none⟩) (j + 1) c ∧ wr.ownsRow w.heap.size 5 1 (.slice (some ⟨g, 0, none⟩) (j + 1) c) (j + 1) (bcells F (j + 1)) ∧ Below w.heap.size w wr
def RqRel (w : World) (F : Nat → Int) (z : Nat) (o i : Value) (wr : World) : Prop :=
  ∃ (j g c : Nat), j ≤ 8 ∧ i = .int .i64 (7 - (j : Int)) ∧ o = .slice (some ⟨g, 0, none⟩) (z + 1 + j) c ∧ wr.ownsRow w.heap.size 5 1 (.slice (some ⟨g, 0, none⟩) (z + 1 + j) c) (z + 1 + j) (bcells F (z + 1 + j)) ∧ Below w.heap.size w wr

set_option maxRecDepth 100000 in
set_option maxHeartbeats 4000000 in
theorem rpad_any (n : Nat) (hn : n < 18446744073709551616) (w : World) :
    Calls Tryd.prog 112 #[.int .u64 n] w fun e w' => ∃ g c : Nat, e = .returned (.slice (some ⟨g, 0, none⟩) (padN n) c) ∧ w'.ownsRow w.heap.size 5 1 (.slice (some ⟨g, 0, none⟩) (padN n) c) (padN n) (bcells (padF n (padN n)) (padN n)) ∧ Below w.heap.size w w' := by
  obtain ⟨r, hr⟩ : ∃ r, n % 64 = r := ⟨_, rfl⟩
  obtain ⟨z, hz⟩ : ∃ z, (119 - r) % 64 = z := ⟨_, rfl⟩
  obtain ⟨k, hk⟩ : ∃ k, padN n = k := ⟨_, rfl⟩
  have hkz : k = z + 1 + 8 := by rw [← hk, padN, hr, hz]; omega
  obtain ⟨D, hD⟩ : ∃ D, IntKind.u64.wrap ((n : Int) * 8) = D := ⟨_, rfl⟩
  obtain ⟨F, hF⟩ : ∃ F, padF n k = F := ⟨_, rfl⟩
  rw [hk, hF, hkz]
  have hF0 : F 0 = 128 := by rw [← hF]; rfl
  have hFz : ∀ j, 0 < j → j < z + 1 → F j = 0 := fun j h1 h2 => by rw [← hF]; unfold padF; rw [if_neg (by omega), if_neg (by omega)]
  have hFd : ∀ j, j < 8 → F (z + 1 + j) = IntKind.u8.wrap (D / 2 ^ (8 * (7 - j))) := fun j hj => by
    rw [← hF]; unfold padF; rw [if_neg (by omega), if_pos (by omega), hD, show k - 1 - (z + 1 + j) = 7 - j by omega]
  have f1 : (n : Int).tmod 64 = (r : Int) := by rw [Int.tmod_eq_emod_of_nonneg (by omega)]; omega
  have hn0 : (0 : Int) ≤ (n : Int) := by omega
  have HZ := Lib.hid (And.intro hr hz)
  have HF := Lib.hid (And.intro hF0 (And.intro hFz hFd))
  have hr64 : r < 64 := by omega
  clear hr hz hk hkz hF hF0 hFz hFd hn
  have hB0 := below_alloc w (.cells #[.int .u8 128] 5)
  have hown0 := World.ownsRow_lit w #[.int .u8 128] 1 (base := w.heap.size) (e := 5) (size := 1) (Nat.le_refl _) (by unfold maxLen; omega) rfl
  have HO0 := Lib.hid hown0
  clear hown0
  go_enter Tryd.func112, Tryd.ntmps112
  go_wp2
  go_loopw [3] (fun o wr => RpRel w F z o wr) (fun o _ => 100 - slLen o)
  case atStart =>
    refine ⟨0, w.heap.size, 1, Nat.zero_le _, rfl, ?_, hB0⟩
    have h := HO0.out
    have e : bcells F (0 + 1) = [.int .u8 128] := by rw [bcells_snoc, HF.out.1]; rfl
    rw [e]
    exact h
  case round =>
    obtain ⟨j, g, c, hj, rfl, hown, hB⟩ := hrel
    have HO := Lib.hid hown
    clear hown
    obtain ⟨j1, hj1⟩ : ∃ j1, j + 1 = j1 := ⟨_, rfl⟩
    rw [hj1] at HO ⊢
    have hjb : j1 ≤ 64 := by have := HZ.out.2; omega
    have v1 : IntKind.u64.wrap (j1 : Int) = (j1 : Int) := by rw [IntKind.wrap_u64]; omega
    have v2 : IntKind.u64.wrap ((r : Int) + (j1 : Int)) = (r : Int) + (j1 : Int) := by rw [IntKind.wrap_u64]; omega
    have v3 : IntKind.u64.wrap ((r : Int) + (j1 : Int) + 8) = (r : Int) + (j1 : Int) + 8 := by rw [IntKind.wrap_u64]; omega
    obtain ⟨y, hy⟩ : ∃ y, ((r : Int) + (j1 : Int) + 8) % 64 = y := ⟨_, rfl⟩
    have v4 : ((r : Int) + (j1 : Int) + 8).tmod 64 = y := by rw [Int.tmod_eq_emod_of_nonneg (by omega)]; exact hy
    have hp0 : 0 ≤ (r : Int) + (j1 : Int) + 8 := by omega
    by_cases hlt : j < z
    · have hy0 : ¬ y = 0 := by have := HZ.out.2; omega
      have hyb : (y != 0) = true := by simp; exact hy0
      have HJ := Lib.hid (And.intro hj1 hlt)
      clear hj1 hy
      go_wp2_with (refine wpList_appN eltU8 w _ (bl_al hB _) rfl (.tmp 16) (.tmp 17) rfl (some ⟨g, 0, none⟩) j1 c (bcells F j1) rfl (.inr ⟨g, rfl, HO.out.alloc _⟩) (some ⟨wr.heap.size, 0, none⟩) 1 1 [.int .u8 0] rfl (row_byte wr 0) (fun h => by cases h) (by omega) ?_; intro g2 c2 w2 hown2 hb2; have HO2 := Lib.hid hown2; have HB2 := Lib.hid hb2; clear hown2 hb2)
      have h2 := HO2.out
      have e : bcells F (j + 1 + 1) = bcells F j1 ++ [.int .u8 0] := by rw [HJ.out.1, bcells_snoc, HF.out.2.1 j1 (by have := HJ.out; omega) (by have := HJ.out; omega)]
      refine ⟨⟨j + 1, g2, c2, by have := HJ.out; omega, by rw [HJ.out.1], ?_, HB2.out⟩, by simp only [slLen]; omega⟩
      rw [e, HJ.out.1]
      exact h2
    · have hje : j = z := by omega
      have hy0 : y = 0 := by have := HZ.out.2; omega
      subst hy0
      subst hje
      have HJ := Lib.hid hj1
      clear hj1 hy v1 v2 v3 hp0
      go_wp2
      go_loopw [3, 5] (fun o i wr => RqRel w F j o i wr) (fun _ i _ => ((intOf i) + 1).toNat)
      case atStart => exact ⟨0, g, c, Nat.zero_le _, rfl, by rw [← HJ.out], by have h := HO.out; rw [← HJ.out] at h; exact h, hB⟩
      case round =>
        obtain ⟨q, g, c, hq, rfl, rfl, hown, hB⟩ := hrel
        have HO := Lib.hid hown
        clear hown
        obtain ⟨m, hm⟩ : ∃ m, j + 1 + q = m := ⟨_, rfl⟩
        rw [hm] at HO ⊢
        by_cases hlt2 : q < 8
        · obtain ⟨t, ht⟩ : ∃ t : Nat, 7 - q = t := ⟨_, rfl⟩
          have hti : 7 - (q : Int) = (t : Int) := by omega
          obtain ⟨s, hs⟩ : ∃ s, 8 * t = s := ⟨_, rfl⟩
          have g3 : IntKind.i64.wrap (8 * (t : Int)) = (s : Int) := by rw [IntKind.wrap_i64]; omega
          have g4 : IntKind.u64.wrap (s : Int) = (s : Int) := by rw [IntKind.wrap_u64]; omega
          have hs64 : (s : Int) ≤ 64 := by omega
          have g5 : IntKind.i64.wrap ((t : Int) - 1) = (t : Int) - 1 := by rw [IntKind.wrap_i64]; omega
          have ht0 : 0 ≤ (t : Int) := by omega
          obtain ⟨y, hy⟩ : ∃ y, IntKind.u8.wrap (D / 2 ^ s) = y := ⟨_, rfl⟩
          have hFm : F m = y := by rw [← hm, HF.out.2.2 q hlt2, ht, hs, hy]
          have hmb : m ≤ 80 := by have := HZ.out.2; omega
          rw [hti]
          have HM := Lib.hid (And.intro hm (And.intro hFm (And.intro ht hmb)))
          clear hm hs ht hti hFm hmb
          go_wp2_with (refine wpList_appN eltU8 w _ (bl_al hB _) rfl (.tmp 25) (.tmp 32) rfl (some ⟨g, 0, none⟩) m c (bcells F m) rfl (.inr ⟨g, rfl, HO.out.alloc _⟩) (some ⟨wr.heap.size, 0, none⟩) 1 1 [.int .u8 y] rfl (row_byte wr y) (fun h => by cases h) (by have := HM.out.2.2.2; omega) ?_; intro g2 c2 w2 hown2 hb2; have HO2 := Lib.hid hown2; have HB2 := Lib.hid hb2; clear hown2 hb2)
          have h2 := HO2.out
          have e : bcells F (j + 1 + (q + 1)) = bcells F m ++ [.int .u8 y] := by rw [show j + 1 + (q + 1) = m + 1 by have := HM.out.1; omega, bcells_snoc, HM.out.2.1]
          have e2 : j + 1 + (q + 1) = m + 1 := by have := HM.out.1; omega
          refine ⟨⟨q + 1, g2, c2, by omega, by (have := HM.out.2.2.1; first | (congr 1; omega) | (congr 1; done)), by rw [e2], ?_, HB2.out⟩, by have := HM.out.2.2.1; simp [intOf] <;> omega⟩
          rw [e, e2]
          exact h2
        · have hqe : q = 8 := by omega
          subst hqe
          have h8 : ¬ (0 : Int) ≤ 7 - ((8 : Nat) : Int) := by omega
          have HM := Lib.hid hm
          clear hm
          go_wp2
          go_ret
          have hm := HM.out
          subst hm
          exact ⟨g, c, rfl, HO.out, hB⟩
end Go.Proofs.YtddcceifblpmbaaDoor

/- florinref02: Sane, Write (made by gen_rf4.py). (hM) -/
namespace Go.Proofs.YtddcceifblpmbaaDoor
set_option linter.unusedVariables false
set_option linter.unusedSimpArgs false
open Go.RowKit

set_option maxHeartbeats 2000000 in
theorem rsane_any (s : S8) (ao : Option Addr) (n c : Nat) (N : Int) (hn : n < 18446744073709551616) (b : Bool) (hb : decide ((n : Int) = N % 64) = b) (hN : 0 ≤ N) (w : World) :
    Calls Tryd.prog 111 #[stV s (.slice ao n c) N] w fun e w' => e = .returned (.bool b) ∧ Below w.heap.size w w' := by
  have hw : IntKind.u64.wrap (n : Int) = (n : Int) := by rw [IntKind.wrap_u64]; omega
  obtain ⟨r, hr⟩ : ∃ r, N % 64 = r := ⟨_, rfl⟩
  have hr' : N.tmod 64 = r := by rw [Int.tmod_eq_emod_of_nonneg hN]; exact hr
  rw [hr] at hb
  have hb' : ((n : Int) == r) = b := by rw [← hb]; rfl
  obtain ⟨a0, b0, c0, d0, e0, f0, g0, h0⟩ := s
  clear hn hb
  go_enter Tryd.func111, Tryd.ntmps111
  go_wp2
  go_ret
  exact ⟨rfl, by (repeat (first | exact Below.refl _ _ | refine Below.drew ?_ | refine bl_drewN ?_ _ | (refine Below.alloc ?_ (by first | exact Nat.le_refl _ | (simp; done) | (simp; omega)) _)))⟩
def z10 : List Value := stL ⟨0, 0, 0, 0, 0, 0, 0, 0⟩ (.slice none 0 0) 0
theorem Mem.st8l {w : World} {b : Nat} (t t' : S8) {l : List (Nat × List Value)} (hd : ∀ p ∈ l, p.1 ≠ b) (h : Mem w ((b, t.l) :: l)) :
    Mem (wset8 w b t'.a t'.b t'.c t'.d t'.e t'.f t'.g t'.h) ((b, t'.l) :: l) := ((((((((h.setN (k := 0) (v := .int .u32 t'.a) hd).setN (k := 1) (v := .int .u32 t'.b) hd).setN (k := 2) (v := .int .u32 t'.c) hd).setN (k := 3) (v := .int .u32 t'.d) hd).setN (k := 4) (v := .int .u32 t'.e) hd).setN (k := 5) (v := .int .u32 t'.f) hd).setN (k := 6) (v := .int .u32 t'.g) hd).setN (k := 7) (v := .int .u32 t'.h) hd)
def RwRel (w : World) (s : S8) (T : Nat → Int) (tot gh : Nat) (x0 : List Value) (sl : Value) (wr : World) : Prop :=
  ∃ (j m c : Nat) (ao : Option Addr), 64 * j + m = tot ∧ sl = .slice ao m c ∧ Below w.heap.size w wr ∧ Row wr ao m c 1 (bcells (fun i => T (64 * j + i)) m) ∧ (∀ ad, ao = some ad → ad.block ≠ gh ∧ w.heap.size + 1 < ad.block) ∧
    Mem wr [(gh, (blks s T j).l), (w.heap.size + 1, z10), (w.heap.size, x0)]

set_option maxRecDepth 100000 in
set_option maxHeartbeats 4000000 in
theorem rwrite_yes (s : S8) (a1 a2 : Option Addr) (n1 c1 n2 c2 : Nat) (N : Int) (f1 f2 : Nat → Int) (w : World) (hs : (n1 : Int) = N % 64)
    (hr1 : Row w a1 n1 c1 1 (bcells f1 n1)) (hr2 : Row w a2 n2 c2 1 (bcells f2 n2)) (hf1 : ∀ i, 0 ≤ f1 i ∧ f1 i < 256) (hf2 : ∀ i, 0 ≤ f2 i ∧ f2 i < 256) (hn : n2 ≤ 70368744177664) (hN : 0 ≤ N ∧ N < WI) :
    Calls Tryd.prog 95 #[stV s (.slice a1 n1 c1) N, .slice a2 n2 c2] w fun e w' => ∃ ao cap, e = .returned (stV (blks s (catF f1 n1 f2) ((n1 + n2) / 64)) (.slice ao ((n1 + n2) % 64) cap) (IntKind.u64.wrap (N + (n2 : Int)))) ∧
      Row w' ao ((n1 + n2) % 64) cap 1 (bcells (fun i => catF f1 n1 f2 (64 * ((n1 + n2) / 64) + i)) ((n1 + n2) % 64)) ∧ Below w.heap.size w w' := by
  have HSn := Lib.hid (fun (x : World) => rsane_any s a1 n1 c1 N (by omega) true (by rw [hs]; simp) hN.1 x)
  obtain ⟨T, hTT⟩ : ∃ T, catF f1 n1 f2 = T := ⟨_, rfl⟩
  obtain ⟨tot, htot⟩ : ∃ t, n1 + n2 = t := ⟨_, rfl⟩
  obtain ⟨N2, hN2⟩ : ∃ z, IntKind.u64.wrap (N + (n2 : Int)) = z := ⟨_, rfl⟩
  have hTb : ∀ i, 0 ≤ T i ∧ T i < 256 := fun i => by
    rw [← hTT]
    unfold catF
    split
    · exact hf1 i
    · exact hf2 _
  have hcat : bcells f1 n1 ++ bcells f2 n2 = bcells T tot := by rw [catF_cells, hTT, htot]
  have hw2 : IntKind.u64.wrap (n2 : Int) = (n2 : Int) := by rw [IntKind.wrap_u64]; omega
  have hnb : n1 + n2 ≤ 140737488355328 := by omega
  have HR1 := Lib.hid hr1
  have HR2 := Lib.hid hr2
  have HC := Lib.hid (And.intro hcat (And.intro hnb (And.intro htot hN2)))
  have HTb := Lib.hid hTb
  rw [hTT, htot]
  clear hs hr1 hr2 hf1 hf2 hn hN hTT htot hTb hcat hnb
  obtain ⟨a0, b0, c0, d0, e0, f0, g0, h0⟩ := s
  have hB := Below.refl w.heap.size w
  have hM := Lib.hid (mem_nil w)
  have hF : True := trivial
  go_enter Tryd.func95, Tryd.ntmps95
  go_wp2_with (first |
   (go_at_call 111; (with_reducible refine (HSn.out _).mono ?_); rintro e w1 ⟨rfl, hb⟩; have hB : Below w.heap.size w w1 := (by refine bl_then ?_ hb; (repeat (first | exact hB | refine bl_al ?_ _ | refine Below.setCell ?_ (by first | exact hgs | exact Nat.le_succ_of_le hgs | exact hgs2 | exact hgs3) _ | refine Below.drew ?_ | refine bl_drewN ?_ _))); (first | with_reducible have hM2 := Mem.later hb (hM.out) | with_reducible have hM2 := Mem.later hb (Mem.al (hM.out) _ _) | with_reducible have hM2 := Mem.later hb (Mem.al (Mem.al (hM.out) _ _) _ _) | with_reducible have hM2 := Mem.later hb (Mem.al (Mem.al (Mem.al (hM.out) _ _) _ _) _ _) | with_reducible have hM2 := Mem.later hb (Mem.al (Mem.al (Mem.al (Mem.al (hM.out) _ _) _ _) _ _) _ _) | with_reducible have hM2 := Mem.later hb (Mem.drew (hM.out)) | with_reducible have hM2 := Mem.later hb (Mem.drew (Mem.al (hM.out) _ _)) | with_reducible have hM2 := Mem.later hb (Mem.al (Mem.drew (hM.out)) _ _) | with_reducible have hM2 := Mem.later hb (Mem.al (Mem.drew (Mem.al (hM.out) _ _)) _ _) | with_reducible have hM2 := Mem.later hb (Mem.drew (Mem.al (Mem.al (hM.out) _ _) _ _)) | with_reducible have hM2 := Mem.later hb (Mem.al (Mem.al (Mem.drew (hM.out)) _ _) _ _) | with_reducible have hM2 := Mem.later hb (Mem.drew (Mem.drew (hM.out))) | with_reducible have hM2 := Mem.later hb (Mem.drew (Mem.al (Mem.drew (hM.out)) _ _)) | with_reducible have hM2 := Mem.later hb (Mem.drew (Mem.al (Mem.al (Mem.al (hM.out) _ _) _ _) _ _)) | with_reducible have hM2 := Mem.later hb (Mem.al (Mem.al (Mem.drew (Mem.al (hM.out) _ _)) _ _) _ _) | with_reducible have hM2 := Mem.later hb (Mem.drew (Mem.al (Mem.drew (Mem.al (hM.out) _ _)) _ _)) | with_reducible have hM2 := Mem.later hb (Mem.al (Mem.al (Mem.al (Mem.al (Mem.al (hM.out) _ _) _ _) _ _) _ _) _ _) | with_reducible have hM2 := Mem.later hb (Mem.al (Mem.al (Mem.al (Mem.al (Mem.al (Mem.al (hM.out) _ _) _ _) _ _) _ _) _ _) _ _) | with_reducible have hM2 := Mem.later hb (Mem.al (Mem.al (Mem.al (Mem.al (Mem.al (Mem.al (Mem.al (hM.out) _ _) _ _) _ _) _ _) _ _) _ _) _ _) | with_reducible have hM2 := Mem.later hb (Mem.al (Mem.al (Mem.al (Mem.al (Mem.al (Mem.al (Mem.al (Mem.al (hM.out) _ _) _ _) _ _) _ _) _ _) _ _) _ _) _ _)); (try simp only [World.size_alloc, size_drew] at hM2); clear hM; have hM := Lib.hid hM2; clear hF; have hF := hM2; (try simp only [Mem, cellsAt, World.size_alloc, Nat.zero_add, Nat.reduceAdd, and_true] at hF); clear hM2; clear hb; have HB1 := Lib.hid hB; have HMA := Lib.hid hM.out) |
    (refine wpList_appN eltU8 w1 _ (below_alloc w1 _) rfl (.tmp 11) (.tmp 13) rfl (some ⟨w1.heap.size, 0, none⟩) 0 0 [] rfl (ownN_lit0 _ _ _ _ (Nat.le_refl _)) a1 n1 c1 (bcells f1 n1) rfl (HR1.out.later (bl_al HB1.out _)) (fun h => by cases h) (by have := HC.out.2.1; omega) ?_; intro g4 cp4 w4 hown4 hb4; (simp only [Nat.zero_add, List.nil_append] at hown4); have HO4 := Lib.hid hown4; have HB4 := Lib.hid hb4; have hM4 := Lib.hid (Mem.later hb4 hM.out); clear hown4 hb4 hM hF hB; have hM := hM4; have hF : True := trivial; clear hM4) |
    (refine wpList_appN eltU8 w1 _ HB4.out rfl (.tmp 15) (.tmp 16) rfl (some ⟨g4, 0, none⟩) n1 cp4 (bcells f1 n1) rfl (.inr ⟨g4, rfl, HO4.out⟩) a2 n2 c2 (bcells f2 n2) rfl (HR2.out.later (bl_then HB1.out HB4.out)) (fun h => by cases h) (by have := HC.out.2.1; omega) ?_; intro g5 cp5 w5 hown5 hb5; have HO5 := Lib.hid hown5; have HB5 := Lib.hid hb5; have hB := bl_then HB1.out hb5; have hM5 := Lib.hid (Mem.later hb5 HMA.out); have hv5 := hM5.out; (simp only [Mem, cellsAt, stL, z10, Nat.zero_add, Nat.reduceAdd, and_true] at hv5); clear hM hF; have hM := hM5; have hF := hv5; clear hM5 hv5 hown5 hb5 HO4))
  have HN2 := Lib.hid hN2
  have hgw : w.heap.size + 1 < w5.heap.size := hM.out.1.1
  have hR0 : Row w5 (some ⟨g5, 0, none⟩) (n1 + n2) cp5 1 (bcells T tot) := HC.out.1 ▸ row_own HO5.out (by rw [HC.out.1]; exact bcells_one _ _)
  have hg5 := HO5.out.lt g5 rfl
  have hw1s : w.heap.size + 1 < w1.heap.size := HMA.out.1.1
  have hMv := Mem.al hM.out [.int .u32 a0, .int .u32 b0, .int .u32 c0, .int .u32 d0, .int .u32 e0, .int .u32 f0, .int .u32 g0, .int .u32 h0] 115
  have hBv := bl_al hB (.cells #[.int .u32 a0, .int .u32 b0, .int .u32 c0, .int .u32 d0, .int .u32 e0, .int .u32 f0, .int .u32 g0, .int .u32 h0] 115)
  have HR0 : Hid (RwRel w ⟨a0, b0, c0, d0, e0, f0, g0, h0⟩ T tot w5.heap.size [.int .u32 a0, .int .u32 b0, .int .u32 c0, .int .u32 d0, .int .u32 e0, .int .u32 f0, .int .u32 g0, .int .u32 h0, .slice a1 n1 c1, .int .u64 N] (.slice (some ⟨g5, 0, none⟩) (n1 + n2) cp5) (w5.alloc (.cells #[.int .u32 a0, .int .u32 b0, .int .u32 c0, .int .u32 d0, .int .u32 e0, .int .u32 f0, .int .u32 g0, .int .u32 h0] 115))) :=
    ⟨0, n1 + n2, cp5, _, by rw [HC.out.2.2.1]; omega, rfl, hBv, by
      have := hR0.later (below_alloc w5 (.cells #[.int .u32 a0, .int .u32 b0, .int .u32 c0, .int .u32 d0, .int .u32 e0, .int .u32 f0, .int .u32 g0, .int .u32 h0] 115))
      rw [HC.out.2.2.1] at this ⊢
      simpa using this, fun ad h => by cases h; exact ⟨by show g5 ≠ _; omega, by show _ < g5; omega⟩, hMv⟩
  have HGW := Lib.hid hgw
  obtain ⟨gh, hgh⟩ : ∃ g, w5.heap.size = g := ⟨_, rfl⟩
  obtain ⟨x8, hx8⟩ : ∃ x : Value, .slice a1 n1 c1 = x := ⟨_, rfl⟩
  rw [hgh, hx8] at HR0
  rw [hgh] at HGW
  rw [hgh]
  clear hgh hx8 hBv hMv hR0 hg5 hw1s hB hM hF HMA HB1 HB4 HB5 HO5 hgw HC HR1 HR2 HSn hN2
  go_loopw [5] (fun sl wr => RwRel w ⟨a0, b0, c0, d0, e0, f0, g0, h0⟩ T tot gh [.int .u32 a0, .int .u32 b0, .int .u32 c0, .int .u32 d0, .int .u32 e0, .int .u32 f0, .int .u32 g0, .int .u32 h0, x8, .int .u64 N] sl wr) (fun sl _ => slLen sl)
  case atStart => exact HR0.out
  case round =>
    clear HR0
    obtain ⟨j, m, c, ao, htot, rfl, hB, hr, hlt, hm⟩ := hrel
    by_cases h64 : 64 ≤ m
    · have hne : bcells (fun i => T (64 * j + i)) m ≠ [] := bcells_ne _ _ (by omega)
      obtain ⟨g, off, rfl⟩ := row_addr hr hne
      have hgl := hlt _ rfl
      dsimp only at hgl
      obtain ⟨t, ht⟩ : ∃ t, blks ⟨a0, b0, c0, d0, e0, f0, g0, h0⟩ T j = t := ⟨_, rfl⟩
      obtain ⟨F, hF'⟩ : ∃ F : Nat → Int, (fun i => T (64 * j + i)) = F := ⟨_, rfl⟩
      obtain ⟨t', ht'⟩ : ∃ t', blk t F = t' := ⟨_, rfl⟩
      have hst : blks ⟨a0, b0, c0, d0, e0, f0, g0, h0⟩ T (j + 1) = t' := by
        show blk (blks _ T j) (fun i => T (64 * j + i)) = t'
        rw [ht, hF', ht']
      rw [ht] at hm
      rw [hF'] at hr
      have hFb : ∀ i, 0 ≤ F i ∧ F i < 256 := fun i => by rw [← hF']; exact HTb.out _
      have hle := hr.le
      have HBlk := Lib.hid (fun (x : World) (hb : Below wr.heap.size wr x) => ht' ▸ rblock_any t (some ⟨g, off, none⟩) c F x (row_pre (hr.later hb) 64 h64) hFb)
      have HX := Lib.hid (And.intro hr (And.intro hst hF'))
      have HM := Lib.hid hm
      have hm64 : (64 : Int) ≤ (m : Int) := by omega
      have hc64 : 64 ≤ c := by omega
      have hcI : (64 : Int) ≤ (c : Int) := by omega
      have hBB := Lib.hid hB
      have HGL := Lib.hid hgl
      clear hr hst hF' hm ht ht' hFb hne hlt hB hgl
      obtain ⟨ta, tb, tc, td, te, tf, tg, th⟩ := t
      go_wp2
      have hF0 := HM.out.1
      simp only [cellsAt, S8.l, Nat.zero_add, Nat.reduceAdd, and_true] at hF0
      refine wp_plan (fun x => True) [0, 3, 4] [1, 2, 0, 3, 4] (by kernel_rfl) (by kernel_rfl) trivial (fun hHeld => ?_)
      iterate 2 (refine wpT_take rfl (by rfl) (by rfl) (by intro w' hSw; (try dsimp only [Mem, cellsAt] at hSw); go_simp; (try with_reducible rfl)) (by assumption) ?_; (try simp only [Act.put, List.setIfInBounds_toArray, List.set_cons_zero, List.set_cons_succ]))
      (refine wpT_step rfl (by rfl) (fun K hK => ?_); go_simp)
      (refine hK.out _ _ _ (fun _ h => h) (trivial) (fun hHeld => ?_); clear hK; clear K; (try simp only [Act.put, List.setIfInBounds_toArray, List.set_cons_zero, List.set_cons_succ]))
      (refine wpT_step rfl (by rfl) (fun K hK => ?_); go_simp)
      refine (HBlk.out _ (Below.refl _ _).drew).mono ?_
      rintro e w3 ⟨rfl, hb3⟩
      have HM3 := Lib.hid (Mem.later hb3 (Mem.drew HM.out))
      have hB3 := bl_then hBB.out.drew hb3
      have HR3 := Lib.hid ((HX.out.1.later (Below.refl _ _).drew).later hb3)
      have hF3 := HM3.out.1
      simp only [cellsAt, S8.l, Nat.zero_add, Nat.reduceAdd, and_true] at hF3
      clear hb3 hF0
      (refine hK.out _ _ _ (fun _ h => h) (trivial) (fun hHeld => ?_); clear hK; clear K; (try simp only [Act.put, List.setIfInBounds_toArray, List.set_cons_zero, List.set_cons_succ]))
      (refine wpT_step rfl (by rfl) (fun K hK => ?_); go_simp)
      have D2 : Hid (∀ p ∈ [(w.heap.size + 1, z10), (w.heap.size, [.int .u32 a0, .int .u32 b0, .int .u32 c0, .int .u32 d0, .int .u32 e0, .int .u32 f0, .int .u32 g0, .int .u32 h0, x8, .int .u64 N])], p.1 ≠ gh) := by
        intro p hp
        have := HGW.out
        simp at hp
        rcases hp with rfl | rfl <;> simp <;> omega
      have HM5 := Lib.hid (Mem.st8l _ t' D2.out HM3.out)
      (refine hK.out _ _ _ (fun _ h => h) (trivial) (fun hHeld => ?_); clear hK; clear K; (try simp only [Act.put, List.setIfInBounds_toArray, List.set_cons_zero, List.set_cons_succ]))
      (refine wpT_nil ?_)
      have hr8 : (wset8 w3 gh t'.a t'.b t'.c t'.d t'.e t'.f t'.g t'.h).heap[g]? = w3.heap[g]? := heap_set8 _ _ _ _ _ _ _ _ _ _ _ HGL.out.1
      have HR5 := Lib.hid (HR3.out.kept (w' := wset8 w3 gh t'.a t'.b t'.c t'.d t'.e t'.f t'.g t'.h) (fun ad h => by cases h; exact hr8))
      have hB5 := bl_set8 t'.a t'.b t'.c t'.d t'.e t'.f t'.g t'.h (by have := HGW.out; omega : w.heap.size ≤ gh) hB3
      clear hF3 hr8 HR3
      have hrow : Row (wset8 w3 gh t'.a t'.b t'.c t'.d t'.e t'.f t'.g t'.h) (if c = 64 then some ⟨g, off, none⟩ else some ⟨g, off + 64, none⟩) (m - 64) (c - 64) 1 (bcells (fun i => T (64 * (j + 1) + i)) (m - 64)) := by
        have e : bcells (fun i => T (64 * (j + 1) + i)) (m - 64) = bcells (fun i => F (64 + i)) (m - 64) := by
          rw [← HX.out.2.2]
          exact bcells_congr fun i _ => by
            show T _ = T _
            congr 1
            omega
        rw [e]
        refine ⟨by rw [bcells_len, Nat.mul_one], by omega, (fun h => by split at h <;> cases h), (fun ad ha i u hu => ?_), bcells_one _ _⟩
        have hi : i < m - 64 := by
          have := (List.getElem?_eq_some_iff.1 hu).1
          rwa [bcells_len] at this
        rw [bcells_get _ _ _ hi] at hu
        have hc := (HR5.out.cells _ rfl (64 + i) _ (bcells_get F m (64 + i) (by omega))).2
        split at ha
        · omega
        · cases ha
          refine ⟨rfl, ?_⟩
          rw [← hu, Nat.add_assoc]
          exact hc
      have HFin : Hid (RwRel w ⟨a0, b0, c0, d0, e0, f0, g0, h0⟩ T tot gh [.int .u32 a0, .int .u32 b0, .int .u32 c0, .int .u32 d0, .int .u32 e0, .int .u32 f0, .int .u32 g0, .int .u32 h0, x8, .int .u64 N] (.slice (if c = 64 then some ⟨g, off, none⟩ else some ⟨g, off + 64, none⟩) (m - 64) (c - 64)) (wset8 w3 gh t'.a t'.b t'.c t'.d t'.e t'.f t'.g t'.h)) := by
        refine ⟨j + 1, m - 64, c - 64, _, by omega, rfl, hB5, hrow, fun ad ha => ?_, ?_⟩
        · split at ha <;> (cases ha; exact HGL.out)
        · rw [HX.out.2.1]
          exact HM5.out
      clear hB5 hrow hB3
      by_cases hcc : c = 64
      · rw [if_pos hcc] at HFin
        have HCc := Lib.hid hcc
        clear hcc
        go_wp2
        simp only [if_pos HCc.out]
        exact ⟨HFin.out, by show m - 64 < m; omega⟩
      · rw [if_neg hcc] at HFin
        go_wp2
        exact ⟨HFin.out, by show m - 64 < m; omega⟩
    · have htm : tot % 64 = m := by omega
      have htj : tot / 64 = j := by omega
      obtain ⟨F, hF'⟩ : ∃ F : Nat → Int, (fun i => T (64 * j + i)) = F := ⟨_, rfl⟩
      obtain ⟨t, ht⟩ : ∃ t, blks ⟨a0, b0, c0, d0, e0, f0, g0, h0⟩ T j = t := ⟨_, rfl⟩
      rw [ht] at hm
      rw [hF'] at hr
      have HTJ := Lib.hid (And.intro htm (And.intro htj (And.intro hF' ht)))
      have HM := Lib.hid hm
      have hBB := Lib.hid hB
      have HRr := Lib.hid hr
      have HLt := Lib.hid hlt
      have hm64 : ¬ (64 : Int) ≤ (m : Int) := by omega
      have hmlt : (m : Int) < 64 := by omega
      have hN2 := HN2.out
      have hF := HM.out
      clear hr hm ht hF' hlt hB htm htj htot
      obtain ⟨ta, tb, tc, td, te, tf, tg, th⟩ := t
      simp only [Mem, cellsAt, z10, S8.l, stL, Nat.zero_add, Nat.reduceAdd, and_true] at hF
      go_wp2
      have hR := Mem.over (us := stL ⟨ta, tb, tc, td, te, tf, tg, th⟩ (.slice ao m c) N2) (b := w.heap.size + 1) (L := []) (by simp) (⟨HM.out.2.1, trivial⟩ : Mem wr [(w.heap.size + 1, z10)]) rfl
      have hBl := bl_setCellsW (b := w.heap.size + 1) (Nat.le_succ _) (stL ⟨ta, tb, tc, td, te, tf, tg, th⟩ (.slice ao m c) N2) 0 _ hBB.out
      have hRr := rangeAt_of hR.1.2.2
      have hO : Row (wr.setCells (w.heap.size + 1) 0 (stL ⟨ta, tb, tc, td, te, tf, tg, th⟩ (.slice ao m c) N2)) ao m c 1 (bcells F m) :=
        HRr.out.kept fun ad h => by
          have := (HLt.out ad h).2
          exact heap_setCellsW _ _ (show ad.block ≠ w.heap.size + 1 by omega) _ _ _
      clear hR hF
      change bodyPost _ _ _ _ _ (wr.setCells (w.heap.size + 1) 0 (stL ⟨ta, tb, tc, td, te, tf, tg, th⟩ (.slice ao m c) N2))
      generalize wr.setCells (w.heap.size + 1) 0 (stL ⟨ta, tb, tc, td, te, tf, tg, th⟩ (.slice ao m c) N2) = wf at *
      have hl := Go.run_loadVar_mid (P := Tryd.prog) wf (w.heap.size + 1) 0 121 (stL ⟨ta, tb, tc, td, te, tf, tg, th⟩ (.slice ao m c) N2) _ hRr Tryd.underlying121 rfl (by kernel_rfl)
      refine bodyPost_ret (v := .agg (stL ⟨ta, tb, tc, td, te, tf, tg, th⟩ (.slice ao m c) N2).toArray) (by simp [results, Tryd.results95, asAddr, hl, Act.put]) rfl ?_
      obtain ⟨k1, k2, k3, k4⟩ := HTJ.out
      rw [k1, k2, k3, k4]
      exact ⟨ao, c, rfl, hO, hBl⟩
end Go.Proofs.YtddcceifblpmbaaDoor

/- florinref02: Write of a state that may not be (made by gen_rf4.py). (hM) -/
namespace Go.Proofs.YtddcceifblpmbaaDoor
set_option linter.unusedVariables false
set_option linter.unusedSimpArgs false
open Go.RowKit

set_option maxRecDepth 100000 in
set_option maxHeartbeats 1000000 in
theorem rwrite_from (v0 : S8) (vao : Option Addr) (vn vc : Nat) (vN : Int) (s : S8) (a1 a2 : Option Addr) (n1 c1 n2 c2 : Nat) (N : Int) (f1 f2 : Nat → Int) (w : World) (hS : ∀ x, Calls Tryd.prog 111 #[stV v0 (.slice vao vn vc) vN] x fun e w' => e = .returned (.bool false) ∧ Below x.heap.size x w')
    (hSt : ∀ x, Calls Tryd.prog 96 #[] x fun e w' => e = .returned (stV s (.slice a1 n1 c1) N) ∧ Below x.heap.size x w') (hn1 : n1 ≤ 64)
    (hr1 : Row w a1 n1 c1 1 (bcells f1 n1)) (hr2 : Row w a2 n2 c2 1 (bcells f2 n2)) (hf1 : ∀ i, 0 ≤ f1 i ∧ f1 i < 256) (hf2 : ∀ i, 0 ≤ f2 i ∧ f2 i < 256) (hn : n2 ≤ 70368744177664) (hN : 0 ≤ N ∧ N < WI) :
    Calls Tryd.prog 95 #[stV v0 (.slice vao vn vc) vN, .slice a2 n2 c2] w fun e w' => ∃ ao cap, e = .returned (stV (blks s (catF f1 n1 f2) ((n1 + n2) / 64)) (.slice ao ((n1 + n2) % 64) cap) (IntKind.u64.wrap (N + (n2 : Int)))) ∧
      Row w' ao ((n1 + n2) % 64) cap 1 (bcells (fun i => catF f1 n1 f2 (64 * ((n1 + n2) / 64) + i)) ((n1 + n2) % 64)) ∧ Below w.heap.size w w' := by
  have HSn := Lib.hid hS
  have HSt := Lib.hid hSt
  have HDj : Hid (∀ p ∈ [(w.heap.size + 1, z10)], p.1 ≠ w.heap.size) := by
    intro p hp; simp at hp; subst hp; simp
  obtain ⟨T, hTT⟩ : ∃ T, catF f1 n1 f2 = T := ⟨_, rfl⟩
  obtain ⟨tot, htot⟩ : ∃ t, n1 + n2 = t := ⟨_, rfl⟩
  obtain ⟨N2, hN2⟩ : ∃ z, IntKind.u64.wrap (N + (n2 : Int)) = z := ⟨_, rfl⟩
  have hTb : ∀ i, 0 ≤ T i ∧ T i < 256 := fun i => by
    rw [← hTT]
    unfold catF
    split
    · exact hf1 i
    · exact hf2 _
  have hcat : bcells f1 n1 ++ bcells f2 n2 = bcells T tot := by rw [catF_cells, hTT, htot]
  have hw2 : IntKind.u64.wrap (n2 : Int) = (n2 : Int) := by rw [IntKind.wrap_u64]; omega
  have hnb : n1 + n2 ≤ 140737488355328 := by omega
  have HR1 := Lib.hid hr1
  have HR2 := Lib.hid hr2
  have HC := Lib.hid (And.intro hcat (And.intro hnb (And.intro htot hN2)))
  have HTb := Lib.hid hTb
  rw [hTT, htot]
  clear hS hSt hn1 hr1 hr2 hf1 hf2 hn hN hTT htot hTb hcat hnb
  obtain ⟨a0, b0, c0, d0, e0, f0, g0, h0⟩ := s
  obtain ⟨p0, p1, p2, p3, p4, p5, p6, p7⟩ := v0
  have hB := Below.refl w.heap.size w
  have hM := Lib.hid (mem_nil w)
  have hF : True := trivial
  go_enter Tryd.func95, Tryd.ntmps95
  go_wp2_with (first |
  (go_at_call 111; (with_reducible refine (HSn.out _).mono ?_); rintro e w1 ⟨rfl, hb⟩; have hB : Below w.heap.size w w1 := (by refine bl_then ?_ hb; (repeat (first | exact hB | refine bl_al ?_ _ | refine Below.setCell ?_ (by first | exact hgs | exact Nat.le_succ_of_le hgs | exact hgs2 | exact hgs3) _ | refine Below.drew ?_ | refine bl_drewN ?_ _))); (first | with_reducible have hM2 := Mem.later hb (hM.out) | with_reducible have hM2 := Mem.later hb (Mem.al (hM.out) _ _) | with_reducible have hM2 := Mem.later hb (Mem.al (Mem.al (hM.out) _ _) _ _) | with_reducible have hM2 := Mem.later hb (Mem.al (Mem.al (Mem.al (hM.out) _ _) _ _) _ _) | with_reducible have hM2 := Mem.later hb (Mem.al (Mem.al (Mem.al (Mem.al (hM.out) _ _) _ _) _ _) _ _) | with_reducible have hM2 := Mem.later hb (Mem.drew (hM.out)) | with_reducible have hM2 := Mem.later hb (Mem.drew (Mem.al (hM.out) _ _)) | with_reducible have hM2 := Mem.later hb (Mem.al (Mem.drew (hM.out)) _ _) | with_reducible have hM2 := Mem.later hb (Mem.al (Mem.drew (Mem.al (hM.out) _ _)) _ _) | with_reducible have hM2 := Mem.later hb (Mem.drew (Mem.al (Mem.al (hM.out) _ _) _ _)) | with_reducible have hM2 := Mem.later hb (Mem.al (Mem.al (Mem.drew (hM.out)) _ _) _ _) | with_reducible have hM2 := Mem.later hb (Mem.drew (Mem.drew (hM.out))) | with_reducible have hM2 := Mem.later hb (Mem.drew (Mem.al (Mem.drew (hM.out)) _ _)) | with_reducible have hM2 := Mem.later hb (Mem.drew (Mem.al (Mem.al (Mem.al (hM.out) _ _) _ _) _ _)) | with_reducible have hM2 := Mem.later hb (Mem.al (Mem.al (Mem.drew (Mem.al (hM.out) _ _)) _ _) _ _) | with_reducible have hM2 := Mem.later hb (Mem.drew (Mem.al (Mem.drew (Mem.al (hM.out) _ _)) _ _)) | with_reducible have hM2 := Mem.later hb (Mem.al (Mem.al (Mem.al (Mem.al (Mem.al (hM.out) _ _) _ _) _ _) _ _) _ _) | with_reducible have hM2 := Mem.later hb (Mem.al (Mem.al (Mem.al (Mem.al (Mem.al (Mem.al (hM.out) _ _) _ _) _ _) _ _) _ _) _ _) | with_reducible have hM2 := Mem.later hb (Mem.al (Mem.al (Mem.al (Mem.al (Mem.al (Mem.al (Mem.al (hM.out) _ _) _ _) _ _) _ _) _ _) _ _) _ _) | with_reducible have hM2 := Mem.later hb (Mem.al (Mem.al (Mem.al (Mem.al (Mem.al (Mem.al (Mem.al (Mem.al (hM.out) _ _) _ _) _ _) _ _) _ _) _ _) _ _) _ _)); (try simp only [World.size_alloc, size_drew] at hM2); clear hM; have hM := Lib.hid hM2; clear hF; have hF := hM2; (try simp only [Mem, cellsAt, World.size_alloc, Nat.zero_add, Nat.reduceAdd, and_true] at hF); clear hM2; clear hb) |
    (go_at_call 96; (with_reducible refine (HSt.out _).mono ?_); rintro e w2 ⟨rfl, hb⟩; have hB : Below w.heap.size w w2 := (by refine bl_then ?_ hb; (repeat (first | exact hB | refine bl_al ?_ _ | refine Below.setCell ?_ (by first | exact hgs | exact Nat.le_succ_of_le hgs | exact hgs2 | exact hgs3) _ | refine Below.drew ?_ | refine bl_drewN ?_ _))); (first | with_reducible have hM2 := Mem.later hb (hM.out) | with_reducible have hM2 := Mem.later hb (Mem.al (hM.out) _ _) | with_reducible have hM2 := Mem.later hb (Mem.al (Mem.al (hM.out) _ _) _ _) | with_reducible have hM2 := Mem.later hb (Mem.al (Mem.al (Mem.al (hM.out) _ _) _ _) _ _) | with_reducible have hM2 := Mem.later hb (Mem.al (Mem.al (Mem.al (Mem.al (hM.out) _ _) _ _) _ _) _ _) | with_reducible have hM2 := Mem.later hb (Mem.drew (hM.out)) | with_reducible have hM2 := Mem.later hb (Mem.drew (Mem.al (hM.out) _ _)) | with_reducible have hM2 := Mem.later hb (Mem.al (Mem.drew (hM.out)) _ _) | with_reducible have hM2 := Mem.later hb (Mem.al (Mem.drew (Mem.al (hM.out) _ _)) _ _) | with_reducible have hM2 := Mem.later hb (Mem.drew (Mem.al (Mem.al (hM.out) _ _) _ _)) | with_reducible have hM2 := Mem.later hb (Mem.al (Mem.al (Mem.drew (hM.out)) _ _) _ _) | with_reducible have hM2 := Mem.later hb (Mem.drew (Mem.drew (hM.out))) | with_reducible have hM2 := Mem.later hb (Mem.drew (Mem.al (Mem.drew (hM.out)) _ _)) | with_reducible have hM2 := Mem.later hb (Mem.drew (Mem.al (Mem.al (Mem.al (hM.out) _ _) _ _) _ _)) | with_reducible have hM2 := Mem.later hb (Mem.al (Mem.al (Mem.drew (Mem.al (hM.out) _ _)) _ _) _ _) | with_reducible have hM2 := Mem.later hb (Mem.drew (Mem.al (Mem.drew (Mem.al (hM.out) _ _)) _ _)) | with_reducible have hM2 := Mem.later hb (Mem.al (Mem.al (Mem.al (Mem.al (Mem.al (hM.out) _ _) _ _) _ _) _ _) _ _) | with_reducible have hM2 := Mem.later hb (Mem.al (Mem.al (Mem.al (Mem.al (Mem.al (Mem.al (hM.out) _ _) _ _) _ _) _ _) _ _) _ _) | with_reducible have hM2 := Mem.later hb (Mem.al (Mem.al (Mem.al (Mem.al (Mem.al (Mem.al (Mem.al (hM.out) _ _) _ _) _ _) _ _) _ _) _ _) _ _) | with_reducible have hM2 := Mem.later hb (Mem.al (Mem.al (Mem.al (Mem.al (Mem.al (Mem.al (Mem.al (Mem.al (hM.out) _ _) _ _) _ _) _ _) _ _) _ _) _ _) _ _)); (try simp only [World.size_alloc, size_drew] at hM2); clear hM; have hM := Lib.hid hM2; clear hF; have hF := hM2; (try simp only [Mem, cellsAt, World.size_alloc, Nat.zero_add, Nat.reduceAdd, and_true] at hF); clear hM2; clear hb) |
    (at_builtin; refine (?_ : Hid _).out))
  refine Lib.hid ?_
  have hM3 := Mem.over (us := stL ⟨a0, b0, c0, d0, e0, f0, g0, h0⟩ (.slice a1 n1 c1) N) HDj.out (⟨hM.out.2.1, hM.out.1, trivial⟩ : Mem w2 ((w.heap.size, stL ⟨p0, p1, p2, p3, p4, p5, p6, p7⟩ (.slice vao vn vc) vN) :: [(w.heap.size + 1, z10)])) rfl
  have hb3 := bl_setCellsW (b := w.heap.size) (Nat.le_refl _) (stL ⟨a0, b0, c0, d0, e0, f0, g0, h0⟩ (.slice a1 n1 c1) N) 0 _ hB
  have hsz : (w2.setCells w.heap.size 0 (stL ⟨a0, b0, c0, d0, e0, f0, g0, h0⟩ (.slice a1 n1 c1) N)).heap.size = w2.heap.size := by simp [size_setCellsW]
  clear hM hF hB
  change wpList _ _ _ _ _ ((w2.setCells w.heap.size 0 (stL ⟨a0, b0, c0, d0, e0, f0, g0, h0⟩ (.slice a1 n1 c1) N)).alloc (.cells #[] 5))
  generalize w2.setCells w.heap.size 0 (stL ⟨a0, b0, c0, d0, e0, f0, g0, h0⟩ (.slice a1 n1 c1) N) = w3 at *
  rw [← hsz]
  have HMA : Hid (Mem w3 [(w.heap.size + 1, z10), (w.heap.size, stL ⟨a0, b0, c0, d0, e0, f0, g0, h0⟩ (.slice a1 n1 c1) N)]) := ⟨hM3.2.1, hM3.1, trivial⟩
  have HB1 := Lib.hid hb3
  have hM := HMA
  have hB := hb3
  have hF : True := trivial
  clear hM3 hb3 hsz
  go_wp2_with (first |
    (refine wpList_appN eltU8 w3 _ (below_alloc w3 _) rfl (.tmp 11) (.tmp 13) rfl (some ⟨w3.heap.size, 0, none⟩) 0 0 [] rfl (ownN_lit0 _ _ _ _ (Nat.le_refl _)) a1 n1 c1 (bcells f1 n1) rfl (HR1.out.later (bl_al HB1.out _)) (fun h => by cases h) (by have := HC.out.2.1; omega) ?_; intro g4 cp4 w4 hown4 hb4; (simp only [Nat.zero_add, List.nil_append] at hown4); have HO4 := Lib.hid hown4; have HB4 := Lib.hid hb4; have hM4 := Lib.hid (Mem.later hb4 hM.out); clear hown4 hb4 hM hF hB; have hM := hM4; have hF : True := trivial; clear hM4) |
    (refine wpList_appN eltU8 w3 _ HB4.out rfl (.tmp 15) (.tmp 16) rfl (some ⟨g4, 0, none⟩) n1 cp4 (bcells f1 n1) rfl (.inr ⟨g4, rfl, HO4.out⟩) a2 n2 c2 (bcells f2 n2) rfl (HR2.out.later (bl_then HB1.out HB4.out)) (fun h => by cases h) (by have := HC.out.2.1; omega) ?_; intro g5 cp5 w5 hown5 hb5; have HO5 := Lib.hid hown5; have HB5 := Lib.hid hb5; have hB := bl_then HB1.out hb5; have hM5 := Lib.hid (Mem.later hb5 HMA.out); have hv5 := hM5.out; (simp only [Mem, cellsAt, stL, z10, Nat.zero_add, Nat.reduceAdd, and_true] at hv5); clear hM hF; have hM := hM5; have hF := hv5; clear hM5 hv5 hown5 hb5 HO4))
  have HN2 := Lib.hid hN2
  have hgw : w.heap.size + 1 < w5.heap.size := hM.out.1.1
  have hR0 : Row w5 (some ⟨g5, 0, none⟩) (n1 + n2) cp5 1 (bcells T tot) := HC.out.1 ▸ row_own HO5.out (by rw [HC.out.1]; exact bcells_one _ _)
  have hg5 := HO5.out.lt g5 rfl
  have hw1s : w.heap.size + 1 < w3.heap.size := HMA.out.1.1
  have hMv := Mem.al hM.out [.int .u32 a0, .int .u32 b0, .int .u32 c0, .int .u32 d0, .int .u32 e0, .int .u32 f0, .int .u32 g0, .int .u32 h0] 115
  have hBv := bl_al hB (.cells #[.int .u32 a0, .int .u32 b0, .int .u32 c0, .int .u32 d0, .int .u32 e0, .int .u32 f0, .int .u32 g0, .int .u32 h0] 115)
  have HR0 : Hid (RwRel w ⟨a0, b0, c0, d0, e0, f0, g0, h0⟩ T tot w5.heap.size [.int .u32 a0, .int .u32 b0, .int .u32 c0, .int .u32 d0, .int .u32 e0, .int .u32 f0, .int .u32 g0, .int .u32 h0, .slice a1 n1 c1, .int .u64 N] (.slice (some ⟨g5, 0, none⟩) (n1 + n2) cp5) (w5.alloc (.cells #[.int .u32 a0, .int .u32 b0, .int .u32 c0, .int .u32 d0, .int .u32 e0, .int .u32 f0, .int .u32 g0, .int .u32 h0] 115))) :=
    ⟨0, n1 + n2, cp5, _, by rw [HC.out.2.2.1]; omega, rfl, hBv, by
      have := hR0.later (below_alloc w5 (.cells #[.int .u32 a0, .int .u32 b0, .int .u32 c0, .int .u32 d0, .int .u32 e0, .int .u32 f0, .int .u32 g0, .int .u32 h0] 115))
      rw [HC.out.2.2.1] at this ⊢
      simpa using this, fun ad h => by cases h; exact ⟨by show g5 ≠ _; omega, by show _ < g5; omega⟩, hMv⟩
  have HGW := Lib.hid hgw
  obtain ⟨gh, hgh⟩ : ∃ g, w5.heap.size = g := ⟨_, rfl⟩
  obtain ⟨x8, hx8⟩ : ∃ x : Value, .slice a1 n1 c1 = x := ⟨_, rfl⟩
  rw [hgh, hx8] at HR0
  rw [hgh] at HGW
  rw [hgh]
  clear hgh hx8 hBv hMv hR0 hg5 hw1s hB hM hF HMA HB1 HB4 HB5 HO5 hgw HC HR1 HR2 HSn hN2
  go_loopw [5] (fun sl wr => RwRel w ⟨a0, b0, c0, d0, e0, f0, g0, h0⟩ T tot gh [.int .u32 a0, .int .u32 b0, .int .u32 c0, .int .u32 d0, .int .u32 e0, .int .u32 f0, .int .u32 g0, .int .u32 h0, x8, .int .u64 N] sl wr) (fun sl _ => slLen sl)
  case atStart => exact HR0.out
  case round =>
    clear HR0
    obtain ⟨j, m, c, ao, htot, rfl, hB, hr, hlt, hm⟩ := hrel
    by_cases h64 : 64 ≤ m
    · have hne : bcells (fun i => T (64 * j + i)) m ≠ [] := bcells_ne _ _ (by omega)
      obtain ⟨g, off, rfl⟩ := row_addr hr hne
      have hgl := hlt _ rfl
      dsimp only at hgl
      obtain ⟨t, ht⟩ : ∃ t, blks ⟨a0, b0, c0, d0, e0, f0, g0, h0⟩ T j = t := ⟨_, rfl⟩
      obtain ⟨F, hF'⟩ : ∃ F : Nat → Int, (fun i => T (64 * j + i)) = F := ⟨_, rfl⟩
      obtain ⟨t', ht'⟩ : ∃ t', blk t F = t' := ⟨_, rfl⟩
      have hst : blks ⟨a0, b0, c0, d0, e0, f0, g0, h0⟩ T (j + 1) = t' := by
        show blk (blks _ T j) (fun i => T (64 * j + i)) = t'
        rw [ht, hF', ht']
      rw [ht] at hm
      rw [hF'] at hr
      have hFb : ∀ i, 0 ≤ F i ∧ F i < 256 := fun i => by rw [← hF']; exact HTb.out _
      have hle := hr.le
      have HBlk := Lib.hid (fun (x : World) (hb : Below wr.heap.size wr x) => ht' ▸ rblock_any t (some ⟨g, off, none⟩) c F x (row_pre (hr.later hb) 64 h64) hFb)
      have HX := Lib.hid (And.intro hr (And.intro hst hF'))
      have HM := Lib.hid hm
      have hm64 : (64 : Int) ≤ (m : Int) := by omega
      have hc64 : 64 ≤ c := by omega
      have hcI : (64 : Int) ≤ (c : Int) := by omega
      have hBB := Lib.hid hB
      have HGL := Lib.hid hgl
      clear hr hst hF' hm ht ht' hFb hne hlt hB hgl
      obtain ⟨ta, tb, tc, td, te, tf, tg, th⟩ := t
      go_wp2
      have hF0 := HM.out.1
      simp only [cellsAt, S8.l, Nat.zero_add, Nat.reduceAdd, and_true] at hF0
      refine wp_plan (fun x => True) [0, 3, 4] [1, 2, 0, 3, 4] (by kernel_rfl) (by kernel_rfl) trivial (fun hHeld => ?_)
      iterate 2 (refine wpT_take rfl (by rfl) (by rfl) (by intro w' hSw; (try dsimp only [Mem, cellsAt] at hSw); go_simp; (try with_reducible rfl)) (by assumption) ?_; (try simp only [Act.put, List.setIfInBounds_toArray, List.set_cons_zero, List.set_cons_succ]))
      (refine wpT_step rfl (by rfl) (fun K hK => ?_); go_simp)
      (refine hK.out _ _ _ (fun _ h => h) (trivial) (fun hHeld => ?_); clear hK; clear K; (try simp only [Act.put, List.setIfInBounds_toArray, List.set_cons_zero, List.set_cons_succ]))
      (refine wpT_step rfl (by rfl) (fun K hK => ?_); go_simp)
      refine (HBlk.out _ (Below.refl _ _).drew).mono ?_
      rintro e w3 ⟨rfl, hb3⟩
      have HM3 := Lib.hid (Mem.later hb3 (Mem.drew HM.out))
      have hB3 := bl_then hBB.out.drew hb3
      have HR3 := Lib.hid ((HX.out.1.later (Below.refl _ _).drew).later hb3)
      have hF3 := HM3.out.1
      simp only [cellsAt, S8.l, Nat.zero_add, Nat.reduceAdd, and_true] at hF3
      clear hb3 hF0
      (refine hK.out _ _ _ (fun _ h => h) (trivial) (fun hHeld => ?_); clear hK; clear K; (try simp only [Act.put, List.setIfInBounds_toArray, List.set_cons_zero, List.set_cons_succ]))
      (refine wpT_step rfl (by rfl) (fun K hK => ?_); go_simp)
      have D2 : Hid (∀ p ∈ [(w.heap.size + 1, z10), (w.heap.size, [.int .u32 a0, .int .u32 b0, .int .u32 c0, .int .u32 d0, .int .u32 e0, .int .u32 f0, .int .u32 g0, .int .u32 h0, x8, .int .u64 N])], p.1 ≠ gh) := by
        intro p hp
        have := HGW.out
        simp at hp
        rcases hp with rfl | rfl <;> simp <;> omega
      have HM5 := Lib.hid (Mem.st8l _ t' D2.out HM3.out)
      (refine hK.out _ _ _ (fun _ h => h) (trivial) (fun hHeld => ?_); clear hK; clear K; (try simp only [Act.put, List.setIfInBounds_toArray, List.set_cons_zero, List.set_cons_succ]))
      (refine wpT_nil ?_)
      have hr8 : (wset8 w3 gh t'.a t'.b t'.c t'.d t'.e t'.f t'.g t'.h).heap[g]? = w3.heap[g]? := heap_set8 _ _ _ _ _ _ _ _ _ _ _ HGL.out.1
      have HR5 := Lib.hid (HR3.out.kept (w' := wset8 w3 gh t'.a t'.b t'.c t'.d t'.e t'.f t'.g t'.h) (fun ad h => by cases h; exact hr8))
      have hB5 := bl_set8 t'.a t'.b t'.c t'.d t'.e t'.f t'.g t'.h (by have := HGW.out; omega : w.heap.size ≤ gh) hB3
      clear hF3 hr8 HR3
      have hrow : Row (wset8 w3 gh t'.a t'.b t'.c t'.d t'.e t'.f t'.g t'.h) (if c = 64 then some ⟨g, off, none⟩ else some ⟨g, off + 64, none⟩) (m - 64) (c - 64) 1 (bcells (fun i => T (64 * (j + 1) + i)) (m - 64)) := by
        have e : bcells (fun i => T (64 * (j + 1) + i)) (m - 64) = bcells (fun i => F (64 + i)) (m - 64) := by
          rw [← HX.out.2.2]
          exact bcells_congr fun i _ => by
            show T _ = T _
            congr 1
            omega
        rw [e]
        refine ⟨by rw [bcells_len, Nat.mul_one], by omega, (fun h => by split at h <;> cases h), (fun ad ha i u hu => ?_), bcells_one _ _⟩
        have hi : i < m - 64 := by
          have := (List.getElem?_eq_some_iff.1 hu).1
          rwa [bcells_len] at this
        rw [bcells_get _ _ _ hi] at hu
        have hc := (HR5.out.cells _ rfl (64 + i) _ (bcells_get F m (64 + i) (by omega))).2
        split at ha
        · omega
        · cases ha
          refine ⟨rfl, ?_⟩
          rw [← hu, Nat.add_assoc]
          exact hc
      have HFin : Hid (RwRel w ⟨a0, b0, c0, d0, e0, f0, g0, h0⟩ T tot gh [.int .u32 a0, .int .u32 b0, .int .u32 c0, .int .u32 d0, .int .u32 e0, .int .u32 f0, .int .u32 g0, .int .u32 h0, x8, .int .u64 N] (.slice (if c = 64 then some ⟨g, off, none⟩ else some ⟨g, off + 64, none⟩) (m - 64) (c - 64)) (wset8 w3 gh t'.a t'.b t'.c t'.d t'.e t'.f t'.g t'.h)) := by
        refine ⟨j + 1, m - 64, c - 64, _, by omega, rfl, hB5, hrow, fun ad ha => ?_, ?_⟩
        · split at ha <;> (cases ha; exact HGL.out)
        · rw [HX.out.2.1]
          exact HM5.out
      clear hB5 hrow hB3
      by_cases hcc : c = 64
      · rw [if_pos hcc] at HFin
        have HCc := Lib.hid hcc
        clear hcc
        go_wp2
        simp only [if_pos HCc.out]
        exact ⟨HFin.out, by show m - 64 < m; omega⟩
      · rw [if_neg hcc] at HFin
        go_wp2
        exact ⟨HFin.out, by show m - 64 < m; omega⟩
    · have htm : tot % 64 = m := by omega
      have htj : tot / 64 = j := by omega
      obtain ⟨F, hF'⟩ : ∃ F : Nat → Int, (fun i => T (64 * j + i)) = F := ⟨_, rfl⟩
      obtain ⟨t, ht⟩ : ∃ t, blks ⟨a0, b0, c0, d0, e0, f0, g0, h0⟩ T j = t := ⟨_, rfl⟩
      rw [ht] at hm
      rw [hF'] at hr
      have HTJ := Lib.hid (And.intro htm (And.intro htj (And.intro hF' ht)))
      have HM := Lib.hid hm
      have hBB := Lib.hid hB
      have HRr := Lib.hid hr
      have HLt := Lib.hid hlt
      have hm64 : ¬ (64 : Int) ≤ (m : Int) := by omega
      have hmlt : (m : Int) < 64 := by omega
      have hN2 := HN2.out
      have hF := HM.out
      clear hr hm ht hF' hlt hB htm htj htot
      obtain ⟨ta, tb, tc, td, te, tf, tg, th⟩ := t
      simp only [Mem, cellsAt, z10, S8.l, stL, Nat.zero_add, Nat.reduceAdd, and_true] at hF
      go_wp2
      have hR := Mem.over (us := stL ⟨ta, tb, tc, td, te, tf, tg, th⟩ (.slice ao m c) N2) (b := w.heap.size + 1) (L := []) (by simp) (⟨HM.out.2.1, trivial⟩ : Mem wr [(w.heap.size + 1, z10)]) rfl
      have hBl := bl_setCellsW (b := w.heap.size + 1) (Nat.le_succ _) (stL ⟨ta, tb, tc, td, te, tf, tg, th⟩ (.slice ao m c) N2) 0 _ hBB.out
      have hRr := rangeAt_of hR.1.2.2
      have hO : Row (wr.setCells (w.heap.size + 1) 0 (stL ⟨ta, tb, tc, td, te, tf, tg, th⟩ (.slice ao m c) N2)) ao m c 1 (bcells F m) :=
        HRr.out.kept fun ad h => by
          have := (HLt.out ad h).2
          exact heap_setCellsW _ _ (show ad.block ≠ w.heap.size + 1 by omega) _ _ _
      clear hR hF
      change bodyPost _ _ _ _ _ (wr.setCells (w.heap.size + 1) 0 (stL ⟨ta, tb, tc, td, te, tf, tg, th⟩ (.slice ao m c) N2))
      generalize wr.setCells (w.heap.size + 1) 0 (stL ⟨ta, tb, tc, td, te, tf, tg, th⟩ (.slice ao m c) N2) = wf at *
      have hl := Go.run_loadVar_mid (P := Tryd.prog) wf (w.heap.size + 1) 0 121 (stL ⟨ta, tb, tc, td, te, tf, tg, th⟩ (.slice ao m c) N2) _ hRr Tryd.underlying121 rfl (by kernel_rfl)
      refine bodyPost_ret (v := .agg (stL ⟨ta, tb, tc, td, te, tf, tg, th⟩ (.slice ao m c) N2).toArray) (by simp [results, Tryd.results95, asAddr, hl, Act.put]) rfl ?_
      obtain ⟨k1, k2, k3, k4⟩ := HTJ.out
      rw [k1, k2, k3, k4]
      exact ⟨ao, c, rfl, hO, hBl⟩
end Go.Proofs.YtddcceifblpmbaaDoor

/- florinref02: End of a state that may be (made by gen_rf6.py). (hM) -/
namespace Go.Proofs.YtddcceifblpmbaaDoor
set_option linter.unusedVariables false
set_option linter.unusedSimpArgs false
open Go.RowKit

def RMid (w : World) (t : S8) (p : Value) (wx : World) : Prop :=
  ∃ (gb : Nat) (ao : Option Addr) (cap : Nat) (N : Int), p = .pointer (some ⟨gb, 0, none⟩) ∧ w.heap.size + 1 < gb ∧ Below w.heap.size w wx ∧ Mem wx [(gb, stL t (.slice ao 0 cap) N), (w.heap.size + 1, bcells (fun _ => 0) 32)]
def RendRel (w : World) (gs gb : Nat) (t : S8) (sl : Value) (N : Int) (i : Value) (wr : World) : Prop :=
  ∃ j : Nat, j ≤ 8 ∧ i = .int .i64 j ∧ Below w.heap.size w wr ∧ Mem wr [(gs, bcells (outP t j) 32), (gb, stL t sl N), (w.heap.size + 1, bcells (fun _ => 0) 32)]

set_option maxRecDepth 100000 in
set_option maxHeartbeats 4000000 in
theorem rend_yes (s : S8) (a1 : Option Addr) (n1 c1 : Nat) (N : Nat) (f1 : Nat → Int) (w : World)
    (hr1 : Row w a1 n1 c1 1 (bcells f1 n1)) (hf1 : ∀ i, 0 ≤ f1 i ∧ f1 i < 256) (hn : n1 = N % 64) (hN : N < 18446744073709551616) :
    Calls Tryd.prog 94 #[stV s (.slice a1 n1 c1) N] w fun e w' => e = .returned (.agg (bcells (outF (blks s (catF f1 n1 (padF N (padN N))) ((n1 + padN N) / 64))) 32).toArray) ∧ Below w.heap.size w w' := by
  have hpl := padN_le N
  have hpw := padN_whole N
  rw [← hn] at hpw
  have HSn := Lib.hid (fun (x : World) => rsane_any s a1 n1 c1 (N : Int) (by omega) true (by rw [hn]; simp) (by omega) x)
  have hWr := fun (x : World) (hb : Below w.heap.size w x) (a2 : Option Addr) (c2 : Nat) (h2 : Row x a2 (padN N) c2 1 (bcells (padF N (padN N)) (padN N))) =>
    rwrite_yes s a1 a2 n1 c1 (padN N) c2 N f1 (padF N (padN N)) x (by omega) (hr1.later hb) h2 hf1 (padF_b _ _) (by omega) ⟨by omega, by unfold WI; omega⟩
  have HPad := Lib.hid (fun w => rpad_any N hN w)
  obtain ⟨t, ht⟩ : ∃ t, blks s (catF f1 n1 (padF N (padN N))) ((n1 + padN N) / 64) = t := ⟨_, rfl⟩
  rw [hpw] at hWr
  rw [ht] at hWr ⊢
  obtain ⟨P, hP⟩ : ∃ P, padN N = P := ⟨_, rfl⟩
  rw [hP] at hWr HPad
  have HWr := Lib.hid hWr
  clear hWr hr1 hf1 hn hpw hpl ht hP
  obtain ⟨a0, b0, c0, d0, e0, f0, g0, h0⟩ := s
  have hB := Below.refl w.heap.size w
  have hM := Lib.hid (mem_nil w)
  have hF : True := trivial
  go_enter Tryd.func94, Tryd.ntmps94
  go_wp2_with (first | (go_at_call 111; (with_reducible refine (HSn.out _).mono ?_); rintro e w1 ⟨rfl, hb⟩; have hB : Below w.heap.size w w1 := (by refine bl_then ?_ hb; (repeat (first | exact hB | refine bl_al ?_ _ | refine Below.setCell ?_ (by first | exact hgs | exact Nat.le_succ_of_le hgs | exact hgs2 | exact hgs3) _ | refine Below.drew ?_ | refine bl_drewN ?_ _))); (first | with_reducible have hM2 := Mem.later hb (hM.out) | with_reducible have hM2 := Mem.later hb (Mem.al (hM.out) _ _) | with_reducible have hM2 := Mem.later hb (Mem.al (Mem.al (hM.out) _ _) _ _) | with_reducible have hM2 := Mem.later hb (Mem.al (Mem.al (Mem.al (hM.out) _ _) _ _) _ _) | with_reducible have hM2 := Mem.later hb (Mem.al (Mem.al (Mem.al (Mem.al (hM.out) _ _) _ _) _ _) _ _) | with_reducible have hM2 := Mem.later hb (Mem.drew (hM.out)) | with_reducible have hM2 := Mem.later hb (Mem.drew (Mem.al (hM.out) _ _)) | with_reducible have hM2 := Mem.later hb (Mem.al (Mem.drew (hM.out)) _ _) | with_reducible have hM2 := Mem.later hb (Mem.al (Mem.drew (Mem.al (hM.out) _ _)) _ _) | with_reducible have hM2 := Mem.later hb (Mem.drew (Mem.al (Mem.al (hM.out) _ _) _ _)) | with_reducible have hM2 := Mem.later hb (Mem.al (Mem.al (Mem.drew (hM.out)) _ _) _ _) | with_reducible have hM2 := Mem.later hb (Mem.drew (Mem.drew (hM.out))) | with_reducible have hM2 := Mem.later hb (Mem.drew (Mem.al (Mem.drew (hM.out)) _ _)) | with_reducible have hM2 := Mem.later hb (Mem.drew (Mem.al (Mem.al (Mem.al (hM.out) _ _) _ _) _ _)) | with_reducible have hM2 := Mem.later hb (Mem.al (Mem.al (Mem.drew (Mem.al (hM.out) _ _)) _ _) _ _) | with_reducible have hM2 := Mem.later hb (Mem.drew (Mem.al (Mem.drew (Mem.al (hM.out) _ _)) _ _)) | with_reducible have hM2 := Mem.later hb (Mem.al (Mem.al (Mem.al (Mem.al (Mem.al (hM.out) _ _) _ _) _ _) _ _) _ _) | with_reducible have hM2 := Mem.later hb (Mem.al (Mem.al (Mem.al (Mem.al (Mem.al (Mem.al (hM.out) _ _) _ _) _ _) _ _) _ _) _ _) | with_reducible have hM2 := Mem.later hb (Mem.al (Mem.al (Mem.al (Mem.al (Mem.al (Mem.al (Mem.al (hM.out) _ _) _ _) _ _) _ _) _ _) _ _) _ _) | with_reducible have hM2 := Mem.later hb (Mem.al (Mem.al (Mem.al (Mem.al (Mem.al (Mem.al (Mem.al (Mem.al (hM.out) _ _) _ _) _ _) _ _) _ _) _ _) _ _) _ _)); (try simp only [World.size_alloc, size_drew] at hM2); clear hM; have hM := Lib.hid hM2; clear hF; have hF := hM2; (try simp only [Mem, cellsAt, World.size_alloc, Nat.zero_add, Nat.reduceAdd, and_true] at hF); clear hM2; clear hb))
  have HMW : Hid (Mem w1 [(w.heap.size + 1, bcells (fun _ => 0) 32), (w.heap.size, stL ⟨a0, b0, c0, d0, e0, f0, g0, h0⟩ (.slice a1 n1 c1) N)]) := hM
  have HBW := Lib.hid hB
  have hF := HMW.out.2.1
  simp only [cellsAt, stL, Nat.zero_add, Nat.reduceAdd, and_true] at hF
  clear hM hB
  have hz := hF.2.2
  go_cut [3] from 11 to 16 (fun p wx => RMid w t p wx)
  case first =>
    refine wp_fork (fun x => x.cell? ⟨w.heap.size, 0, none⟩ = some (.int .u32 a0) ∧ x.cell? ⟨w.heap.size, 1, none⟩ = some (.int .u32 b0) ∧ x.cell? ⟨w.heap.size, 2, none⟩ = some (.int .u32 c0) ∧ x.cell? ⟨w.heap.size, 3, none⟩ = some (.int .u32 d0) ∧ x.cell? ⟨w.heap.size, 4, none⟩ = some (.int .u32 e0) ∧ x.cell? ⟨w.heap.size, 5, none⟩ = some (.int .u32 f0) ∧ x.cell? ⟨w.heap.size, 6, none⟩ = some (.int .u32 g0) ∧ x.cell? ⟨w.heap.size, 7, none⟩ = some (.int .u32 h0) ∧ x.cell? ⟨w.heap.size, 8, none⟩ = some (.slice a1 n1 c1) ∧ x.cell? ⟨w.heap.size, 9, none⟩ = some (.int .u64 (N : Int))) [3, 4, 5, 6] (nodes [0, 1, 2] (.fork 3 5 (.fork 4 5 (nodes [5, 6] .leaf) (nodes [4, 6] .leaf)) (nodes [3, 4, 6] .leaf))) (by kernel_rfl) (by kernel_rfl) hz (fun hHeld => ?_)
    iterate 3 (refine wpF_take rfl (by rfl) (by rfl) (by intro w' hSw; (try dsimp only [Mem, cellsAt] at hSw); go_simp; (try with_reducible rfl)) (by assumption) ?_; (try simp only [Act.put, List.setIfInBounds_toArray, List.set_cons_zero, List.set_cons_succ]))
    (refine wpF_fork rfl rfl (fun K hK => ?_) (fun K hK => ?_) <;> go_simp)
    · refine (HPad.out _).mono ?_
      rintro e w2 ⟨g2, k2, rfl, ho2, hb2⟩
      have HM2 := Lib.hid (Mem.later hb2 (Mem.drew HMW.out))
      have HB2 := Lib.hid (bl_then HBW.out.drew hb2)
      have HO2 := Lib.hid (row_own ho2 (bcells_one _ _))
      have hz2 := HM2.out.2.1.2.2
      simp only [cellsAt, stL, Nat.zero_add, Nat.reduceAdd, and_true] at hz2
      clear ho2 hb2
      (refine hK.out _ _ _ (fun _ h => h) (hz2) (fun hHeld => ?_); clear hK; clear K; (try simp only [Act.put, List.setIfInBounds_toArray, List.set_cons_zero, List.set_cons_succ]))
      (refine wpF_fork rfl rfl (fun K hK => ?_) (fun K hK => ?_) <;> go_simp)
      · refine (HWr.out _ HB2.out _ _ HO2.out).mono ?_
        rintro e w3 ⟨ao, cap, rfl, _, hb3⟩
        have HM3 := Lib.hid (Mem.later hb3 HM2.out)
        have HB3 := Lib.hid (bl_then HB2.out hb3)
        have hz3 := HM3.out.2.1.2.2
        simp only [cellsAt, stL, Nat.zero_add, Nat.reduceAdd, and_true] at hz3
        clear hb3 hz2
        (refine hK.out _ _ _ (fun _ h => h) (hz3) (fun hHeld => ?_); clear hK; clear K; (try simp only [Act.put, List.setIfInBounds_toArray, List.set_cons_zero, List.set_cons_succ]))
        (refine wpF_step rfl (by rfl) (fun K hK => ?_); go_simp)
        have HM4 := Lib.hid (Mem.al HM3.out z10 121)
        have HB4 := Lib.hid (bl_al HB3.out (.cells z10.toArray 121))
        have hz4 := HM4.out.2.2.1.2.2
        simp only [cellsAt, stL, Nat.zero_add, Nat.reduceAdd, and_true] at hz4
        (refine hK.out _ _ _ (fun _ h => h) (hz4) (fun hHeld => ?_); clear hK; clear K; (try simp only [Act.put, List.setIfInBounds_toArray, List.set_cons_zero, List.set_cons_succ]))
        (refine wpF_step rfl (by rfl) (fun K hK => ?_); go_simp)
        have HM5 := Lib.hid (Mem.al HM3.out (stL t (.slice ao 0 cap) (IntKind.u64.wrap ((N : Int) + (P : Int)))) 121)
        have HB5 := Lib.hid (bl_al HB3.out (.cells (stL t (.slice ao 0 cap) (IntKind.u64.wrap ((N : Int) + (P : Int)))).toArray 121))
        have hz5 := HM5.out.2.2.1.2.2
        simp only [cellsAt, stL, Nat.zero_add, Nat.reduceAdd, and_true] at hz5
        (refine hK.out _ _ _ (fun _ h => h) (hz5) (fun hHeld => ?_); clear hK; clear K; (try simp only [Act.put, List.setIfInBounds_toArray, List.set_cons_zero, List.set_cons_succ]))
        (refine wpF_nil ?_)
        go_wp2
        go_meet
        exact ⟨w3.heap.size, ao, cap, _, rfl, HM3.out.1.1, HB5.out, HM5.out.1, HM5.out.2.1, trivial⟩
      · have HM4 := Lib.hid (Mem.al HM2.out z10 121)
        have HB4 := Lib.hid (bl_al HB2.out (.cells z10.toArray 121))
        have hz4 := HM4.out.2.2.1.2.2
        simp only [cellsAt, stL, Nat.zero_add, Nat.reduceAdd, and_true] at hz4
        have HGB : Hid (w.heap.size + 1 < w2.heap.size) := HM2.out.1.1
        clear hz2
        (refine hK.out _ _ _ (fun _ h => h) (hz4) (fun hHeld => ?_); clear hK; clear K; (try simp only [Act.put, List.setIfInBounds_toArray, List.set_cons_zero, List.set_cons_succ]))
        (refine wpF_step rfl (by rfl) (fun K hK => ?_); go_simp)
        refine (HWr.out _ HB4.out _ _ (HO2.out.later (below_alloc _ _))).mono ?_
        rintro e w3 ⟨ao, cap, rfl, _, hb3⟩
        have HM3 := Lib.hid (Mem.later hb3 HM4.out)
        have HB3 := Lib.hid (bl_then HB4.out hb3)
        have hz3 := HM3.out.2.2.1.2.2
        simp only [cellsAt, stL, Nat.zero_add, Nat.reduceAdd, and_true] at hz3
        clear hb3 hz4
        have hv3 := HM3.out.1.2
        simp only [cellsAt, z10, stL, Nat.zero_add, Nat.reduceAdd, and_true] at hv3
        (refine hK.out _ _ _ (fun _ h => h) (hz3) (fun hHeld => ?_); clear hK; clear K; (try simp only [Act.put, List.setIfInBounds_toArray, List.set_cons_zero, List.set_cons_succ]))
        (refine wpF_step rfl (by rfl) (fun K hK => ?_); go_simp)
        have hD5 : ∀ p ∈ [(w.heap.size + 1, bcells (fun _ => 0) 32), (w.heap.size, stL ⟨a0, b0, c0, d0, e0, f0, g0, h0⟩ (.slice a1 n1 c1) (N : Int))], p.1 ≠ w2.heap.size := by
          intro p hp
          have := HGB.out
          simp at hp
          rcases hp with rfl | rfl <;> dsimp only <;> omega
        have HM5 := Lib.hid (Mem.over (us := stL t (.slice ao 0 cap) (IntKind.u64.wrap ((N : Int) + (P : Int)))) hD5 HM3.out rfl)
        have HB5 := Lib.hid (bl_setCellsW (b := w2.heap.size) (by have := HGB.out; omega) (stL t (.slice ao 0 cap) (IntKind.u64.wrap ((N : Int) + (P : Int)))) 0 w3 HB3.out)
        have hz5 := HM5.out.2.2.1.2.2
        simp only [cellsAt, stL, Nat.zero_add, Nat.reduceAdd, and_true] at hz5
        (refine hK.out _ _ _ (fun _ h => h) (hz5) (fun hHeld => ?_); clear hK; clear K; (try simp only [Act.put, List.setIfInBounds_toArray, List.set_cons_zero, List.set_cons_succ]))
        (refine wpF_nil ?_)
        go_wp2
        go_meet
        exact ⟨w2.heap.size, ao, cap, _, rfl, HGB.out, HB5.out, HM5.out.1, HM5.out.2.1, trivial⟩
    · have HMD := Lib.hid (Mem.drew HMW.out)
      have HM4 := Lib.hid (Mem.al HMD.out z10 121)
      have HB4 := Lib.hid (bl_al HBW.out.drew (.cells z10.toArray 121))
      have hz4 := HM4.out.2.2.1.2.2
      simp only [cellsAt, stL, Nat.zero_add, Nat.reduceAdd, and_true] at hz4
      rw [size_drew] at HM4
      have HGB : Hid (w.heap.size + 1 < w1.heap.size) := HMW.out.1.1
      (refine hK.out _ _ _ (fun _ h => h) (hz4) (fun hHeld => ?_); clear hK; clear K; (try simp only [Act.put, List.setIfInBounds_toArray, List.set_cons_zero, List.set_cons_succ]))
      (refine wpF_step rfl (by rfl) (fun K hK => ?_); go_simp)
      refine (HPad.out _).mono ?_
      rintro e w2 ⟨g2, k2, rfl, ho2, hb2⟩
      have HM2 := Lib.hid (Mem.later hb2 HM4.out)
      have HB2 := Lib.hid (bl_then HB4.out hb2)
      have HO2 := Lib.hid (row_own ho2 (bcells_one _ _))
      have hz2 := HM2.out.2.2.1.2.2
      simp only [cellsAt, stL, Nat.zero_add, Nat.reduceAdd, and_true] at hz2
      clear ho2 hb2
      clear hz4
      (refine hK.out _ _ _ (fun _ h => h) (hz2) (fun hHeld => ?_); clear hK; clear K; (try simp only [Act.put, List.setIfInBounds_toArray, List.set_cons_zero, List.set_cons_succ]))
      (refine wpF_step rfl (by rfl) (fun K hK => ?_); go_simp)
      refine (HWr.out _ HB2.out _ _ HO2.out).mono ?_
      rintro e w3 ⟨ao, cap, rfl, _, hb3⟩
      have HM3 := Lib.hid (Mem.later hb3 HM2.out)
      have HB3 := Lib.hid (bl_then HB2.out hb3)
      have hz3 := HM3.out.2.2.1.2.2
      simp only [cellsAt, stL, Nat.zero_add, Nat.reduceAdd, and_true] at hz3
      clear hb3
      clear hz2
      have hv3 := HM3.out.1.2
      simp only [cellsAt, z10, stL, Nat.zero_add, Nat.reduceAdd, and_true] at hv3
      (refine hK.out _ _ _ (fun _ h => h) (hz3) (fun hHeld => ?_); clear hK; clear K; (try simp only [Act.put, List.setIfInBounds_toArray, List.set_cons_zero, List.set_cons_succ]))
      (refine wpF_step rfl (by rfl) (fun K hK => ?_); go_simp)
      have hD5 : ∀ p ∈ [(w.heap.size + 1, bcells (fun _ => 0) 32), (w.heap.size, stL ⟨a0, b0, c0, d0, e0, f0, g0, h0⟩ (.slice a1 n1 c1) (N : Int))], p.1 ≠ w1.heap.size := by
        intro p hp
        have := HGB.out
        simp at hp
        rcases hp with rfl | rfl <;> dsimp only <;> omega
      have HM5 := Lib.hid (Mem.over (us := stL t (.slice ao 0 cap) (IntKind.u64.wrap ((N : Int) + (P : Int)))) hD5 HM3.out rfl)
      have HB5 := Lib.hid (bl_setCellsW (b := w1.heap.size) (by have := HGB.out; omega) (stL t (.slice ao 0 cap) (IntKind.u64.wrap ((N : Int) + (P : Int)))) 0 w3 HB3.out)
      have hz5 := HM5.out.2.2.1.2.2
      simp only [cellsAt, stL, Nat.zero_add, Nat.reduceAdd, and_true] at hz5
      (refine hK.out _ _ _ (fun _ h => h) (hz5) (fun hHeld => ?_); clear hK; clear K; (try simp only [Act.put, List.setIfInBounds_toArray, List.set_cons_zero, List.set_cons_succ]))
      (refine wpF_nil ?_)
      go_wp2
      go_meet
      exact ⟨w1.heap.size, ao, cap, _, rfl, HGB.out, HB5.out, HM5.out.1, HM5.out.2.1, trivial⟩
  case rest =>
    obtain ⟨gb, ao, cap, N', rfl, hgb, hB, hm⟩ := hcut
    have HM := Lib.hid hm
    have hF := hm.1
    obtain ⟨ta, tb, tc, td, te, tf, tg, th⟩ := t
    simp only [cellsAt, stL, Nat.zero_add, Nat.reduceAdd, and_true] at hF
    have hlt0 := hm.1.1
    clear hm HMW HBW HSn HWr HPad hz
    go_wp2
    obtain ⟨gs, hgs⟩ : ∃ g, wc.heap.size = g := ⟨_, rfl⟩
    have hM2 := Mem.al HM.out (bcells (fun _ => 0) 32) 23
    rw [hgs] at hM2 hF hlt0
    simp only [hgs]
    have HM2 := Lib.hid hM2
    have HB2 := Lib.hid (bl_al hB (.cells (bcells (fun _ => 0) 32).toArray 23))
    have HGS := Lib.hid (And.intro hgs (And.intro hgb hlt0))
    clear hM2 hB hgs hF hgb hlt0
    go_loopw [5] (fun i wr => RendRel w gs gb ⟨ta, tb, tc, td, te, tf, tg, th⟩ (.slice ao 0 cap) N' i wr) (fun i _ => 8 - (intOf i).toNat)
    case atStart =>
      refine ⟨0, Nat.zero_le _, rfl, HB2.out, ?_⟩
      rw [bcells_congr (g := fun _ => 0) (fun i _ => by unfold outP; rw [if_neg (by omega)])]
      exact HM2.out
    case round =>
      obtain ⟨j, hj, rfl, hB, hm⟩ := hrel
      by_cases hlt : j < 8
      · obtain ⟨x, hx⟩ : ∃ x, (⟨ta, tb, tc, td, te, tf, tg, th⟩ : S8).at j = x := ⟨_, rfl⟩
        obtain ⟨q, hq⟩ : ∃ q, 4 * j = q := ⟨_, rfl⟩
        obtain ⟨q1, hq1⟩ : ∃ p, q + 1 = p := ⟨_, rfl⟩
        obtain ⟨q2, hq2⟩ : ∃ p, q + 2 = p := ⟨_, rfl⟩
        obtain ⟨q3, hq3⟩ : ∃ p, q + 3 = p := ⟨_, rfl⟩
        have t0 : IntKind.i64.wrap (4 * (j : Int)) = (q : Int) := by rw [IntKind.wrap_i64]; omega
        have t1 : IntKind.i64.wrap ((q : Int) + 1) = (q1 : Int) := by rw [IntKind.wrap_i64]; omega
        have t2 : IntKind.i64.wrap ((q : Int) + 2) = (q2 : Int) := by rw [IntKind.wrap_i64]; omega
        have t3 : IntKind.i64.wrap ((q : Int) + 3) = (q3 : Int) := by rw [IntKind.wrap_i64]; omega
        have l0 : (q : Int) < 32 := by omega
        have l1 : (q1 : Int) < 32 := by omega
        have l2 : (q2 : Int) < 32 := by omega
        have l3 : (q3 : Int) < 32 := by omega
        have hj8 : (j : Int) < 8 := by omega
        have hxc : wr.cell? ⟨gb, j, none⟩ = some (.int .u32 x) := by
          refine cellsAt_get hm.2.1.2.2 (?_ : (stL ⟨ta, tb, tc, td, te, tf, tg, th⟩ (.slice ao 0 cap) N')[j]? = _)
          rw [← hx]
          have hcase : j = 0 ∨ j = 1 ∨ j = 2 ∨ j = 3 ∨ j = 4 ∨ j = 5 ∨ j = 6 ∨ j = 7 := by omega
          rcases hcase with rfl | rfl | rfl | rfl | rfl | rfl | rfl | rfl <;> rfl
        have hc : ∀ k, k < 32 → wr.cell? ⟨gs, k, none⟩ = some (.int .u8 (outP ⟨ta, tb, tc, td, te, tf, tg, th⟩ j k)) := fun k hk => cellsAt_get hm.1.2.2 (bcells_get _ 32 k hk)
        have d0 := hc q (by omega)
        have d1 := hc q1 (by omega)
        have d2 := hc q2 (by omega)
        have d3 := hc q3 (by omega)
        have hz := hm.1.2.1
        have HMr := Lib.hid hm
        have HQ := Lib.hid (And.intro hx (And.intro hq (And.intro hq1 (And.intro hq2 hq3))))
        have n01 : q ≠ q1 := by omega
        have n02 : q ≠ q2 := by omega
        have n03 : q ≠ q3 := by omega
        have n12 : q1 ≠ q2 := by omega
        have n13 : q1 ≠ q3 := by omega
        have n23 : q2 ≠ q3 := by omega
        have hne : gs ≠ gb := by have := HGS.out.2.2; omega
        have hne' : gb ≠ gs := Ne.symm hne
        clear hm hc hx hq hq1 hq2 hq3
        go_wp2
        refine wp_loop_rounds 5 ?_
        rw [rounds_succ]
        go_wp2
        rw [rounds_succ]
        go_wp2
        rw [rounds_succ]
        go_wp2
        rw [rounds_succ]
        go_wp2
        rw [rounds_succ]
        go_wp2
        obtain ⟨hx, hq, hq1, hq2, hq3⟩ := HQ.out
        have o0 : outF ⟨ta, tb, tc, td, te, tf, tg, th⟩ q = x / 16777216 % 256 := by
          unfold outF
          rw [show q / 4 = j by omega, show q % 4 = 0 by omega, hx]
          exact IntKind.wrap_u8 _
        have o1 : outF ⟨ta, tb, tc, td, te, tf, tg, th⟩ q1 = x / 65536 % 256 := by
          unfold outF
          rw [show q1 / 4 = j by omega, show q1 % 4 = 1 by omega, hx]
          exact IntKind.wrap_u8 _
        have o2 : outF ⟨ta, tb, tc, td, te, tf, tg, th⟩ q2 = x / 256 % 256 := by
          unfold outF
          rw [show q2 / 4 = j by omega, show q2 % 4 = 2 by omega, hx]
          exact IntKind.wrap_u8 _
        have o3 : outF ⟨ta, tb, tc, td, te, tf, tg, th⟩ q3 = x % 256 := by
          unfold outF
          rw [show q3 / 4 = j by omega, show q3 % 4 = 3 by omega, hx]
          rw [show (2 : Int) ^ (24 - 8 * 3) = 1 by decide, Int.ediv_one]
          exact IntKind.wrap_u8 _
        have D4 : ∀ p ∈ [(gb, stL ⟨ta, tb, tc, td, te, tf, tg, th⟩ (.slice ao 0 cap) N'), (w.heap.size + 1, bcells (fun _ => 0) 32)], p.1 ≠ gs := by
          intro p hp
          have hg := HGS.out
          simp at hp
          rcases hp with rfl | rfl <;> dsimp only <;> omega
        have hR := Mem.setN (k := q3) (v := .int .u8 (x % 256)) D4 (Mem.setN (k := q2) (v := .int .u8 (x / 256 % 256)) D4 (Mem.setN (k := q1) (v := .int .u8 (x / 65536 % 256)) D4 (Mem.setN (k := q) (v := .int .u8 (x / 16777216 % 256)) D4 HMr.out)))
        rw [bcells_set, bcells_set, bcells_set, bcells_set] at hR
        have e : bcells (setF (setF (setF (setF (outP ⟨ta, tb, tc, td, te, tf, tg, th⟩ j) q (x / 16777216 % 256)) q1 (x / 65536 % 256)) q2 (x / 256 % 256)) q3 (x % 256)) 32 = bcells (outP ⟨ta, tb, tc, td, te, tf, tg, th⟩ (j + 1)) 32 := by
          refine bcells_congr fun i _ => ?_
          unfold setF
          by_cases h3 : i = q3
          · rw [if_pos h3, h3, ← o3]; unfold outP; rw [if_pos (by omega)]
          rw [if_neg h3]
          by_cases h2 : i = q2
          · rw [if_pos h2, h2, ← o2]; unfold outP; rw [if_pos (by omega)]
          rw [if_neg h2]
          by_cases h1 : i = q1
          · rw [if_pos h1, h1, ← o1]; unfold outP; rw [if_pos (by omega)]
          rw [if_neg h1]
          by_cases h0 : i = q
          · rw [if_pos h0, h0, ← o0]; unfold outP; rw [if_pos (by omega)]
          rw [if_neg h0]
          unfold outP
          by_cases hi : i < 4 * j
          · rw [if_pos hi, if_pos (by omega)]
          · rw [if_neg hi, if_neg (by omega)]
        rw [e] at hR
        have hgw : w.heap.size ≤ gs := by have hg := HGS.out; omega
        exact ⟨⟨j + 1, by omega, by go_num, (((hB.setCell hgw _).setCell hgw _).setCell hgw _).setCell hgw _, hR⟩, by simp [intOf]; omega⟩
      · have hje : j = 8 := by omega
        subst hje
        have h8 : ((8 : Nat) : Int) = 8 := rfl
        rw [h8]
        rw [bcells_congr (g := outF ⟨ta, tb, tc, td, te, tf, tg, th⟩) (fun i hi => by unfold outP; rw [if_pos (by omega)])] at hm
        have HMr := Lib.hid hm
        have HTh := Lib.hid (thereW (n := 32) hm.2.2.1 (by rw [bcells_len]; exact Nat.le_refl _))
        clear hm
        go_wp2_with (first | (refine Go.wpList_load_mid rfl 23 (.tmp 4) rfl gs 0 rfl (bcells (outF ⟨ta, tb, tc, td, te, tf, tg, th⟩) 32) _ (rangeAt_of HMr.out.1.2.2) Tryd.underlying23 rfl (by rw [bcells_len]; kernel_rfl) ?_) | (refine Go.wpList_store_mid rfl 23 (.tmp 2) (.tmp 39) rfl (w.heap.size + 1) 0 (bcells (outF ⟨ta, tb, tc, td, te, tf, tg, th⟩) 32).toArray rfl rfl (by simpa [bcells_len] using HTh.out) (by simp only [List.size_toArray, bcells_len]; kernel_rfl) (Go.all_oneCell_toArray (bcells_one _ 32)) ?_))
        have hl := Go.run_loadVar_mid (P := Tryd.prog) (wr.setCells (w.heap.size + 1) 0 (bcells (outF ⟨ta, tb, tc, td, te, tf, tg, th⟩) 32)) (w.heap.size + 1) 0 23 (bcells (outF ⟨ta, tb, tc, td, te, tf, tg, th⟩) 32) _ (World.rangeAt_setCells_same wr (w.heap.size + 1) 0 _ (by rw [bcells_len]; exact HTh.out)) Tryd.underlying23 rfl (by rw [bcells_len]; kernel_rfl)
        refine bodyPost_ret (v := .agg (bcells (outF ⟨ta, tb, tc, td, te, tf, tg, th⟩) 32).toArray) (by simp [results, Tryd.results94, asAddr, hl, Act.put]) rfl ⟨rfl, bl_setCellsW (Nat.le_succ _) _ _ _ hB⟩
end Go.Proofs.YtddcceifblpmbaaDoor

/- florinref02: Sum, Double. (hM) -/
namespace Go.Proofs.YtddcceifblpmbaaDoor
set_option linter.unusedVariables false
set_option linter.unusedSimpArgs false
open Go.RowKit

set_option maxRecDepth 100000 in
set_option maxHeartbeats 2000000 in
theorem rsum_any (ao : Option Addr) (n c : Nat) (f : Nat → Int) (w : World) (hr : Row w ao n c 1 (bcells f n)) (hf : ∀ i, 0 ≤ f i ∧ f i < 256) (hn : n ≤ 70368744177664) :
    Calls Tryd.prog 73 #[.slice ao n c] w fun e w' => e = .returned (h32 (shaF f n)) ∧ Below w.heap.size w w' := by
  have HSt := Lib.hid (fun (x : World) (hb : Below w.heap.size w x) => rstart_any x)
  have hWr := fun (x : World) (hb : Below w.heap.size w x) => rwrite_yes s0H none ao 0 0 n c 0 (fun _ => 0) f x rfl (row_nil x 1) (hr.later hb) (fun _ => by simp) hf hn ⟨by omega, by decide⟩
  simp only [catF_zero, Nat.zero_add, Int.zero_add] at hWr
  have hw : IntKind.u64.wrap (n : Int) = (n : Int) := by rw [IntKind.wrap_u64]; omega
  rw [hw] at hWr
  have hEnd := fun (x : World) (hb : Below w.heap.size w x) (a1 : Option Addr) (c1 : Nat) (h1 : Row x a1 (n % 64) c1 1 (bcells (fun i => f (64 * (n / 64) + i)) (n % 64))) =>
    rend_yes (blks s0H f (n / 64)) a1 (n % 64) c1 n (fun i => f (64 * (n / 64) + i)) x h1 (fun i => hf _) rfl (by omega)
  simp only [sha_split] at hEnd
  obtain ⟨g, hg⟩ : ∃ g, shaF f n = g := ⟨_, rfl⟩
  rw [hg] at hEnd ⊢
  obtain ⟨t, ht⟩ : ∃ t, blks s0H f (n / 64) = t := ⟨_, rfl⟩
  obtain ⟨F, hF'⟩ : ∃ F : Nat → Int, (fun i => f (64 * (n / 64) + i)) = F := ⟨_, rfl⟩
  obtain ⟨m, hm⟩ : ∃ m, n % 64 = m := ⟨_, rfl⟩
  rw [ht, hF', hm] at hEnd
  rw [ht, hF', hm] at hWr
  have HWr := Lib.hid hWr
  have HEnd := Lib.hid hEnd
  clear hWr hEnd hw hr hf hg ht hF' hm
  obtain ⟨ta, tb, tc, td, te, tf, tg, th⟩ := t
  have hB := Below.refl w.heap.size w
  have hM := Lib.hid (mem_nil w)
  have hF : True := trivial
  go_enter Tryd.func73, Tryd.ntmps73
  go_wp2_with (first | (go_at_call 96; refine (HSt.out _ (by (repeat (first | exact hB | refine bl_al ?_ _ | refine Below.setCell ?_ (by first | exact hgs | exact Nat.le_succ_of_le hgs | exact hgs2 | exact hgs3) _ | refine Below.drew ?_ | refine bl_drewN ?_ _)))).mono ?_; rintro e w1 ⟨rfl, hb⟩; have hB : Below w.heap.size w w1 := (by refine bl_then ?_ hb; (repeat (first | exact hB | refine bl_al ?_ _ | refine Below.setCell ?_ (by first | exact hgs | exact Nat.le_succ_of_le hgs | exact hgs2 | exact hgs3) _ | refine Below.drew ?_ | refine bl_drewN ?_ _))); (first | with_reducible have hM2 := Mem.later hb (hM.out) | with_reducible have hM2 := Mem.later hb (Mem.al (hM.out) _ _) | with_reducible have hM2 := Mem.later hb (Mem.al (Mem.al (hM.out) _ _) _ _) | with_reducible have hM2 := Mem.later hb (Mem.al (Mem.al (Mem.al (hM.out) _ _) _ _) _ _) | with_reducible have hM2 := Mem.later hb (Mem.al (Mem.al (Mem.al (Mem.al (hM.out) _ _) _ _) _ _) _ _) | with_reducible have hM2 := Mem.later hb (Mem.drew (hM.out)) | with_reducible have hM2 := Mem.later hb (Mem.drew (Mem.al (hM.out) _ _)) | with_reducible have hM2 := Mem.later hb (Mem.al (Mem.drew (hM.out)) _ _) | with_reducible have hM2 := Mem.later hb (Mem.al (Mem.drew (Mem.al (hM.out) _ _)) _ _) | with_reducible have hM2 := Mem.later hb (Mem.drew (Mem.al (Mem.al (hM.out) _ _) _ _)) | with_reducible have hM2 := Mem.later hb (Mem.al (Mem.al (Mem.drew (hM.out)) _ _) _ _) | with_reducible have hM2 := Mem.later hb (Mem.drew (Mem.drew (hM.out))) | with_reducible have hM2 := Mem.later hb (Mem.drew (Mem.al (Mem.drew (hM.out)) _ _)) | with_reducible have hM2 := Mem.later hb (Mem.drew (Mem.al (Mem.al (Mem.al (hM.out) _ _) _ _) _ _)) | with_reducible have hM2 := Mem.later hb (Mem.al (Mem.al (Mem.drew (Mem.al (hM.out) _ _)) _ _) _ _) | with_reducible have hM2 := Mem.later hb (Mem.drew (Mem.al (Mem.drew (Mem.al (hM.out) _ _)) _ _)) | with_reducible have hM2 := Mem.later hb (Mem.al (Mem.al (Mem.al (Mem.al (Mem.al (hM.out) _ _) _ _) _ _) _ _) _ _) | with_reducible have hM2 := Mem.later hb (Mem.al (Mem.al (Mem.al (Mem.al (Mem.al (Mem.al (hM.out) _ _) _ _) _ _) _ _) _ _) _ _) | with_reducible have hM2 := Mem.later hb (Mem.al (Mem.al (Mem.al (Mem.al (Mem.al (Mem.al (Mem.al (hM.out) _ _) _ _) _ _) _ _) _ _) _ _) _ _) | with_reducible have hM2 := Mem.later hb (Mem.al (Mem.al (Mem.al (Mem.al (Mem.al (Mem.al (Mem.al (Mem.al (hM.out) _ _) _ _) _ _) _ _) _ _) _ _) _ _) _ _)); (try simp only [World.size_alloc, size_drew] at hM2); clear hM; have hM := Lib.hid hM2; clear hF; have hF := hM2; (try simp only [Mem, cellsAt, World.size_alloc, Nat.zero_add, Nat.reduceAdd, and_true] at hF); clear hM2; clear hb) | (go_at_call 95; refine (HWr.out _ (by (repeat (first | exact hB | refine bl_al ?_ _ | refine Below.setCell ?_ (by first | exact hgs | exact Nat.le_succ_of_le hgs | exact hgs2 | exact hgs3) _ | refine Below.drew ?_ | refine bl_drewN ?_ _)))).mono ?_; rintro e w2 ⟨a1, c1, rfl, hown, hb⟩; have HO := Lib.hid hown; have hB : Below w.heap.size w w2 := (by refine bl_then ?_ hb; (repeat (first | exact hB | refine bl_al ?_ _ | refine Below.setCell ?_ (by first | exact hgs | exact Nat.le_succ_of_le hgs | exact hgs2 | exact hgs3) _ | refine Below.drew ?_ | refine bl_drewN ?_ _))); (first | with_reducible have hM2 := Mem.later hb (hM.out) | with_reducible have hM2 := Mem.later hb (Mem.al (hM.out) _ _) | with_reducible have hM2 := Mem.later hb (Mem.al (Mem.al (hM.out) _ _) _ _) | with_reducible have hM2 := Mem.later hb (Mem.al (Mem.al (Mem.al (hM.out) _ _) _ _) _ _) | with_reducible have hM2 := Mem.later hb (Mem.al (Mem.al (Mem.al (Mem.al (hM.out) _ _) _ _) _ _) _ _) | with_reducible have hM2 := Mem.later hb (Mem.drew (hM.out)) | with_reducible have hM2 := Mem.later hb (Mem.drew (Mem.al (hM.out) _ _)) | with_reducible have hM2 := Mem.later hb (Mem.al (Mem.drew (hM.out)) _ _) | with_reducible have hM2 := Mem.later hb (Mem.al (Mem.drew (Mem.al (hM.out) _ _)) _ _) | with_reducible have hM2 := Mem.later hb (Mem.drew (Mem.al (Mem.al (hM.out) _ _) _ _)) | with_reducible have hM2 := Mem.later hb (Mem.al (Mem.al (Mem.drew (hM.out)) _ _) _ _) | with_reducible have hM2 := Mem.later hb (Mem.drew (Mem.drew (hM.out))) | with_reducible have hM2 := Mem.later hb (Mem.drew (Mem.al (Mem.drew (hM.out)) _ _)) | with_reducible have hM2 := Mem.later hb (Mem.drew (Mem.al (Mem.al (Mem.al (hM.out) _ _) _ _) _ _)) | with_reducible have hM2 := Mem.later hb (Mem.al (Mem.al (Mem.drew (Mem.al (hM.out) _ _)) _ _) _ _) | with_reducible have hM2 := Mem.later hb (Mem.drew (Mem.al (Mem.drew (Mem.al (hM.out) _ _)) _ _)) | with_reducible have hM2 := Mem.later hb (Mem.al (Mem.al (Mem.al (Mem.al (Mem.al (hM.out) _ _) _ _) _ _) _ _) _ _) | with_reducible have hM2 := Mem.later hb (Mem.al (Mem.al (Mem.al (Mem.al (Mem.al (Mem.al (hM.out) _ _) _ _) _ _) _ _) _ _) _ _) | with_reducible have hM2 := Mem.later hb (Mem.al (Mem.al (Mem.al (Mem.al (Mem.al (Mem.al (Mem.al (hM.out) _ _) _ _) _ _) _ _) _ _) _ _) _ _) | with_reducible have hM2 := Mem.later hb (Mem.al (Mem.al (Mem.al (Mem.al (Mem.al (Mem.al (Mem.al (Mem.al (hM.out) _ _) _ _) _ _) _ _) _ _) _ _) _ _) _ _)); (try simp only [World.size_alloc, size_drew] at hM2); clear hM; have hM := Lib.hid hM2; clear hF; have hF := hM2; (try simp only [Mem, cellsAt, World.size_alloc, Nat.zero_add, Nat.reduceAdd, and_true] at hF); clear hM2; clear hb; clear hown) | (go_at_call 94; refine (HEnd.out _ (by (repeat (first | exact hB | refine bl_al ?_ _ | refine Below.setCell ?_ (by first | exact hgs | exact Nat.le_succ_of_le hgs | exact hgs2 | exact hgs3) _ | refine Below.drew ?_ | refine bl_drewN ?_ _))) _ _ HO.out).mono ?_; rintro e w3 ⟨rfl, hb⟩; have hB : Below w.heap.size w w3 := (by refine bl_then ?_ hb; (repeat (first | exact hB | refine bl_al ?_ _ | refine Below.setCell ?_ (by first | exact hgs | exact Nat.le_succ_of_le hgs | exact hgs2 | exact hgs3) _ | refine Below.drew ?_ | refine bl_drewN ?_ _))); (first | with_reducible have hM2 := Mem.later hb (hM.out) | with_reducible have hM2 := Mem.later hb (Mem.al (hM.out) _ _) | with_reducible have hM2 := Mem.later hb (Mem.al (Mem.al (hM.out) _ _) _ _) | with_reducible have hM2 := Mem.later hb (Mem.al (Mem.al (Mem.al (hM.out) _ _) _ _) _ _) | with_reducible have hM2 := Mem.later hb (Mem.al (Mem.al (Mem.al (Mem.al (hM.out) _ _) _ _) _ _) _ _) | with_reducible have hM2 := Mem.later hb (Mem.drew (hM.out)) | with_reducible have hM2 := Mem.later hb (Mem.drew (Mem.al (hM.out) _ _)) | with_reducible have hM2 := Mem.later hb (Mem.al (Mem.drew (hM.out)) _ _) | with_reducible have hM2 := Mem.later hb (Mem.al (Mem.drew (Mem.al (hM.out) _ _)) _ _) | with_reducible have hM2 := Mem.later hb (Mem.drew (Mem.al (Mem.al (hM.out) _ _) _ _)) | with_reducible have hM2 := Mem.later hb (Mem.al (Mem.al (Mem.drew (hM.out)) _ _) _ _) | with_reducible have hM2 := Mem.later hb (Mem.drew (Mem.drew (hM.out))) | with_reducible have hM2 := Mem.later hb (Mem.drew (Mem.al (Mem.drew (hM.out)) _ _)) | with_reducible have hM2 := Mem.later hb (Mem.drew (Mem.al (Mem.al (Mem.al (hM.out) _ _) _ _) _ _)) | with_reducible have hM2 := Mem.later hb (Mem.al (Mem.al (Mem.drew (Mem.al (hM.out) _ _)) _ _) _ _) | with_reducible have hM2 := Mem.later hb (Mem.drew (Mem.al (Mem.drew (Mem.al (hM.out) _ _)) _ _)) | with_reducible have hM2 := Mem.later hb (Mem.al (Mem.al (Mem.al (Mem.al (Mem.al (hM.out) _ _) _ _) _ _) _ _) _ _) | with_reducible have hM2 := Mem.later hb (Mem.al (Mem.al (Mem.al (Mem.al (Mem.al (Mem.al (hM.out) _ _) _ _) _ _) _ _) _ _) _ _) | with_reducible have hM2 := Mem.later hb (Mem.al (Mem.al (Mem.al (Mem.al (Mem.al (Mem.al (Mem.al (hM.out) _ _) _ _) _ _) _ _) _ _) _ _) _ _) | with_reducible have hM2 := Mem.later hb (Mem.al (Mem.al (Mem.al (Mem.al (Mem.al (Mem.al (Mem.al (Mem.al (hM.out) _ _) _ _) _ _) _ _) _ _) _ _) _ _) _ _)); (try simp only [World.size_alloc, size_drew] at hM2); clear hM; have hM := Lib.hid hM2; clear hF; have hF := hM2; (try simp only [Mem, cellsAt, World.size_alloc, Nat.zero_add, Nat.reduceAdd, and_true] at hF); clear hM2; clear hb; have HTh := Lib.hid (thereW (n := 32) hM.out.1 (Nat.le_refl _)); clear hF) | (refine Go.wpList_store_mid rfl 23 (.tmp 2) (.tmp 6) rfl w.heap.size 0 (bcells g 32).toArray rfl rfl (by simpa [bcells_len] using HTh.out) (by simp only [List.size_toArray, bcells_len]; kernel_rfl) (Go.all_oneCell_toArray (bcells_one _ 32)) ?_))
  have hl := Go.run_loadVar_mid (P := Tryd.prog) (w3.setCells w.heap.size 0 (bcells g 32)) w.heap.size 0 23 (bcells g 32) _ (World.rangeAt_setCells_same w3 w.heap.size 0 _ (by rw [bcells_len]; exact HTh.out)) Tryd.underlying23 rfl (by rw [bcells_len]; kernel_rfl)
  refine bodyPost_ret (v := h32 g) (by simp [results, Tryd.results73, asAddr, hl, Act.put]) rfl ⟨rfl, bl_setCellsW (Nat.le_refl _) _ _ _ hB⟩

set_option maxRecDepth 100000 in
set_option maxHeartbeats 2000000 in
theorem rdouble_any (ao : Option Addr) (n c : Nat) (f : Nat → Int) (w : World) (hr : Row w ao n c 1 (bcells f n)) (hf : ∀ i, 0 ≤ f i ∧ f i < 256) (hn : n ≤ 70368744177664) :
    Calls Tryd.prog 70 #[.slice ao n c] w fun e w' => e = .returned (h32 (shaF (shaF f n) 32)) ∧ Below w.heap.size w w' := by
  obtain ⟨g, hg⟩ : ∃ g, shaF f n = g := ⟨_, rfl⟩
  have hgb : ∀ i, 0 ≤ g i ∧ g i < 256 := fun i => by rw [← hg]; exact shaF_b _ _ _
  have HS1 := Lib.hid (fun (x : World) (hb : Below w.heap.size w x) => hg ▸ rsum_any ao n c f x (hr.later hb) hf hn)
  obtain ⟨q, hq⟩ : ∃ q, shaF g 32 = q := ⟨_, rfl⟩
  have HS2 := Lib.hid (fun (x : World) (b : Nat) (hb : Below w.heap.size w x) (h : Row x (some ⟨b, 0, none⟩) 32 32 1 (bcells g 32)) => hq ▸ rsum_any (some ⟨b, 0, none⟩) 32 32 g x h hgb (by omega))
  rw [hg, hq]
  clear hr hf hg hgb hq
  have hB := Below.refl w.heap.size w
  have hM := Lib.hid (mem_nil w)
  have hF : True := trivial
  go_enter Tryd.func70, Tryd.ntmps70
  go_wp2_with (first | (go_at_call 73; refine (HS1.out _ (by (repeat (first | exact hB | refine bl_al ?_ _ | refine Below.setCell ?_ (by first | exact hgs | exact Nat.le_succ_of_le hgs | exact hgs2 | exact hgs3) _ | refine Below.drew ?_ | refine bl_drewN ?_ _)))).mono ?_; rintro e w1 ⟨rfl, hb⟩; have hB : Below w.heap.size w w1 := (by refine bl_then ?_ hb; (repeat (first | exact hB | refine bl_al ?_ _ | refine Below.setCell ?_ (by first | exact hgs | exact Nat.le_succ_of_le hgs | exact hgs2 | exact hgs3) _ | refine Below.drew ?_ | refine bl_drewN ?_ _))); (first | with_reducible have hM2 := Mem.later hb (hM.out) | with_reducible have hM2 := Mem.later hb (Mem.al (hM.out) _ _) | with_reducible have hM2 := Mem.later hb (Mem.al (Mem.al (hM.out) _ _) _ _) | with_reducible have hM2 := Mem.later hb (Mem.al (Mem.al (Mem.al (hM.out) _ _) _ _) _ _) | with_reducible have hM2 := Mem.later hb (Mem.al (Mem.al (Mem.al (Mem.al (hM.out) _ _) _ _) _ _) _ _) | with_reducible have hM2 := Mem.later hb (Mem.drew (hM.out)) | with_reducible have hM2 := Mem.later hb (Mem.drew (Mem.al (hM.out) _ _)) | with_reducible have hM2 := Mem.later hb (Mem.al (Mem.drew (hM.out)) _ _) | with_reducible have hM2 := Mem.later hb (Mem.al (Mem.drew (Mem.al (hM.out) _ _)) _ _) | with_reducible have hM2 := Mem.later hb (Mem.drew (Mem.al (Mem.al (hM.out) _ _) _ _)) | with_reducible have hM2 := Mem.later hb (Mem.al (Mem.al (Mem.drew (hM.out)) _ _) _ _) | with_reducible have hM2 := Mem.later hb (Mem.drew (Mem.drew (hM.out))) | with_reducible have hM2 := Mem.later hb (Mem.drew (Mem.al (Mem.drew (hM.out)) _ _)) | with_reducible have hM2 := Mem.later hb (Mem.drew (Mem.al (Mem.al (Mem.al (hM.out) _ _) _ _) _ _)) | with_reducible have hM2 := Mem.later hb (Mem.al (Mem.al (Mem.drew (Mem.al (hM.out) _ _)) _ _) _ _) | with_reducible have hM2 := Mem.later hb (Mem.drew (Mem.al (Mem.drew (Mem.al (hM.out) _ _)) _ _)) | with_reducible have hM2 := Mem.later hb (Mem.al (Mem.al (Mem.al (Mem.al (Mem.al (hM.out) _ _) _ _) _ _) _ _) _ _) | with_reducible have hM2 := Mem.later hb (Mem.al (Mem.al (Mem.al (Mem.al (Mem.al (Mem.al (hM.out) _ _) _ _) _ _) _ _) _ _) _ _) | with_reducible have hM2 := Mem.later hb (Mem.al (Mem.al (Mem.al (Mem.al (Mem.al (Mem.al (Mem.al (hM.out) _ _) _ _) _ _) _ _) _ _) _ _) _ _) | with_reducible have hM2 := Mem.later hb (Mem.al (Mem.al (Mem.al (Mem.al (Mem.al (Mem.al (Mem.al (Mem.al (hM.out) _ _) _ _) _ _) _ _) _ _) _ _) _ _) _ _)); (try simp only [World.size_alloc, size_drew] at hM2); clear hM; have hM := Lib.hid hM2; clear hF; have hF := hM2; (try simp only [Mem, cellsAt, World.size_alloc, Nat.zero_add, Nat.reduceAdd, and_true] at hF); clear hM2; clear hb) | (refine wpList_store_newV rfl (.tmp 3) (.tmp 5) 23 rfl _ (bcells g 32) _ Tryd.underlying23 rfl (by rw [bcells_len]; kernel_rfl) (by rw [bcells_len]; rfl) (bcells_one g 32) rfl rfl hM.out ?_; intro W2 hMW hbW; have hBW := bl_then hB hbW; clear hM hF hB; have hM := Lib.hid hMW; have hB := hBW; clear hMW hbW hBW))
  refine (HS2.out _ w1.heap.size hB (row_ofW hM.out.1.2.2)).mono ?_
  rintro e w3 ⟨rfl, hb3⟩
  have HM3 := Lib.hid (Mem.later hb3 hM.out)
  have hB3 := bl_then hB hb3
  have HTh := Lib.hid (thereW (n := 32) HM3.out.2.1 (Nat.le_refl _))
  clear hb3 hB
  go_wp2_with (refine Go.wpList_store_mid rfl 23 (.tmp 2) (.tmp 7) rfl w.heap.size 0 (bcells q 32).toArray rfl rfl (by simpa [bcells_len] using HTh.out) (by simp only [List.size_toArray, bcells_len]; kernel_rfl) (Go.all_oneCell_toArray (bcells_one _ 32)) ?_)
  have hl := Go.run_loadVar_mid (P := Tryd.prog) (w3.setCells w.heap.size 0 (bcells q 32)) w.heap.size 0 23 (bcells q 32) _ (World.rangeAt_setCells_same w3 w.heap.size 0 _ (by rw [bcells_len]; exact HTh.out)) Tryd.underlying23 rfl (by rw [bcells_len]; kernel_rfl)
  refine bodyPost_ret (v := h32 q) (by simp [results, Tryd.results70, asAddr, hl, Act.put]) rfl ⟨rfl, bl_setCellsW (Nat.le_refl _) _ _ _ hB3⟩
end Go.Proofs.YtddcceifblpmbaaDoor
