/- SHA-256: Initial, Constant, Start, Sane, sane. (hM) Merged: Sh5, Sh6, Sh7, Sh8. -/
import Derived.Test.YtfbhpkhpkaeagaaDoorSh4
import Derived.Deep.CutRange
/- SHA-256: Initial, Constant, Start, Sane, sane. (hM) -/
namespace Go.Proofs.YtfbhpkhpkaeagaaDoor
set_option linter.unusedVariables false
set_option linter.unusedSimpArgs false
open Go.RowKit

set_option maxHeartbeats 1000000 in
theorem initial_in (i : Nat) (hi : i < 8) (w : World) (hT : Tab w) : Calls Tryd.prog 48 #[.int .i64 i] w fun e w' => e = .returned (.int .u32 (hF0 i)) ∧ w = w' := by
  have hc := hT.2.2 i hi
  obtain ⟨v, hv⟩ : ∃ v, hF0 i = v := ⟨_, rfl⟩
  rw [hv] at hc ⊢
  have h1 : (i : Int) < 8 := by omega
  have h0 : 0 ≤ (i : Int) := by omega
  clear hT hv
  go_enter Tryd.func48, Tryd.ntmps48
  go_wp2
  go_ret
  exact ⟨rfl, rfl⟩
abbrev stV (s : S8) (sl : Value) (N : Int) : Value := .agg #[.int .u32 s.a, .int .u32 s.b, .int .u32 s.c, .int .u32 s.d, .int .u32 s.e, .int .u32 s.f, .int .u32 s.g, .int .u32 s.h, sl, .int .u64 N]
def st0l (g : Nat → Int) : List Value := u32l g 8 ++ [.slice none 0 0, .int .u64 0]
theorem st0l_get (g : Nat → Int) (i : Nat) (h : i < 8) : (st0l g)[i]? = some (.int .u32 (g i)) := by
  unfold st0l
  rw [List.getElem?_append_left (by rw [u32l_len]; exact h)]
  exact u32l_get g 8 i h
theorem st0l_set (g : Nat → Int) (q : Nat) (h : q < 8) (v : Int) : (st0l g).set q (.int .u32 v) = st0l (setF g q v) := by
  unfold st0l
  rw [List.set_append_left _ _ (by rw [u32l_len]; exact h), u32l_set]
def StRel (w : World) (i : Value) (wr : World) : Prop :=
  ∃ (j : Nat) (g : Nat → Int), j ≤ 8 ∧ i = .int .i64 j ∧ (∀ k, k < j → g k = hF0 k) ∧ Below w.heap.size w wr ∧ Mem wr [(w.heap.size + 1, st0l g), (w.heap.size, st0l fun _ => 0)]
theorem st0l_s0 (g : Nat → Int) (h : ∀ k, k < 8 → g k = hF0 k) : st0l g = [.int .u32 s0H.a, .int .u32 s0H.b, .int .u32 s0H.c, .int .u32 s0H.d, .int .u32 s0H.e, .int .u32 s0H.f, .int .u32 s0H.g, .int .u32 s0H.h, .slice none 0 0, .int .u64 0] := by
  unfold st0l
  rw [u32l_congr h]
  rfl

set_option maxRecDepth 100000 in
set_option maxHeartbeats 2000000 in
theorem start_any (w : World) (hT : Tab w) : Calls Tryd.prog 40 #[] w fun e w' => e = .returned (stV s0H (.slice none 0 0) 0) ∧ Below w.heap.size w w' := by
  have HT := Lib.hid hT
  clear hT
  go_enter Tryd.func40, Tryd.ntmps40
  go_wp2
  go_loopw [3] (fun i wr => StRel w i wr) (fun i _ => 8 - (intOf i).toNat)
  case atStart =>
    refine ⟨0, fun _ => 0, Nat.zero_le _, rfl, fun k hk => by omega, by (repeat (first | exact Below.refl _ _ | refine Below.drew ?_ | refine bl_drewN ?_ _ | (refine Below.alloc ?_ (by first | exact Nat.le_refl _ | (simp; done) | (simp; omega)) _))), ?_⟩
    have h := Mem.al (Mem.al (mem_nil w) (st0l fun _ => 0) 86) (st0l fun _ => 0) 86
    simp only [World.size_alloc] at h
    exact h
  case round =>
    obtain ⟨j, g, hj, rfl, hg, hB, hm⟩ := hrel
    by_cases hlt : j < 8
    · obtain ⟨v, hv⟩ : ∃ v, hF0 j = v := ⟨_, rfl⟩
      have HI := Lib.hid (hv ▸ initial_in j hlt wr (HT.out.later hB))
      have hc := cellsAt_get hm.1.2.2 (st0l_get g j hlt)
      have hz := hm.1.2.1 j
      have HM := Lib.hid hm
      have HGv := Lib.hid (And.intro hg hv)
      have hj8 : (j : Int) < 8 := by omega
      clear hm hg hv
      go_wp2_with (go_at_call 48; refine HI.out.mono ?_; rintro e w1 ⟨rfl, rfl⟩)
      have hM2 := Mem.setN (k := j) (v := .int .u32 v) (b := w.heap.size + 1) (by intro p hp; simp at hp; subst hp; simp) HM.out
      rw [st0l_set g j hlt] at hM2
      refine ⟨⟨j + 1, setF g j v, by omega, by go_num, fun k hk => ?_, hB.setCell (by show w.heap.size ≤ w.heap.size + 1; omega) _, hM2⟩, by simp [intOf]; omega⟩
      unfold setF
      by_cases hkj : k = j
      · rw [if_pos hkj, hkj]
        exact HGv.out.2.symm
      · rw [if_neg hkj]
        exact HGv.out.1 k (by omega)
    · have hje : j = 8 := by omega
      subst hje
      have h8 : ¬ ((8 : Nat) : Int) < 8 := by omega
      rw [st0l_s0 g hg] at hm
      have hF := hm
      simp only [Mem, cellsAt, st0l, u32l, List.range, List.range.loop, List.map_cons, List.map_nil, List.cons_append, List.nil_append, Nat.zero_add, Nat.reduceAdd, and_true] at hF
      have HMz := Lib.hid hm.2.1
      clear hm hg
      go_wp2
      have hR := Mem.over (us := [.int .u32 s0H.a, .int .u32 s0H.b, .int .u32 s0H.c, .int .u32 s0H.d, .int .u32 s0H.e, .int .u32 s0H.f, .int .u32 s0H.g, .int .u32 s0H.h, .slice none 0 0, .int .u64 0]) (b := w.heap.size) (L := []) (by simp) ⟨HMz.out, trivial⟩ rfl
      have hBl := bl_setCellsW (Nat.le_refl _) [.int .u32 s0H.a, .int .u32 s0H.b, .int .u32 s0H.c, .int .u32 s0H.d, .int .u32 s0H.e, .int .u32 s0H.f, .int .u32 s0H.g, .int .u32 s0H.h, .slice none 0 0, .int .u64 0] 0 wr hB
      have hRr := rangeAt_of hR.1.2.2
      clear hF hR HMz hB
      change bodyPost _ _ _ _ _ (wr.setCells w.heap.size 0 [.int .u32 s0H.a, .int .u32 s0H.b, .int .u32 s0H.c, .int .u32 s0H.d, .int .u32 s0H.e, .int .u32 s0H.f, .int .u32 s0H.g, .int .u32 s0H.h, .slice none 0 0, .int .u64 0])
      generalize wr.setCells w.heap.size 0 [.int .u32 s0H.a, .int .u32 s0H.b, .int .u32 s0H.c, .int .u32 s0H.d, .int .u32 s0H.e, .int .u32 s0H.f, .int .u32 s0H.g, .int .u32 s0H.h, .slice none 0 0, .int .u64 0] = wf at *
      have hl := Go.run_loadVar_mid (P := Tryd.prog) wf w.heap.size 0 86 [.int .u32 s0H.a, .int .u32 s0H.b, .int .u32 s0H.c, .int .u32 s0H.d, .int .u32 s0H.e, .int .u32 s0H.f, .int .u32 s0H.g, .int .u32 s0H.h, .slice none 0 0, .int .u64 0] _ hRr Tryd.underlying86 rfl (by kernel_rfl)
      refine bodyPost_ret (v := stV s0H (.slice none 0 0) 0) (by simp [results, Tryd.results40, asAddr, hl, Act.put]) rfl ⟨rfl, hBl⟩

set_option maxHeartbeats 1000000 in
theorem sane_any1 (s : S8) (ao : Option Addr) (n c : Nat) (N : Int) (hn : n < 18446744073709551616) (b : Bool) (hb : decide ((n : Int) = N % 64) = b) (hN : 0 ≤ N) (w : World) :
    Calls Tryd.prog 49 #[stV s (.slice ao n c) N] w fun e w' => e = .returned (.bool b) ∧ Below w.heap.size w w' := by
  have hw : IntKind.u64.wrap (n : Int) = (n : Int) := by rw [IntKind.wrap_u64]; omega
  obtain ⟨r, hr⟩ : ∃ r, N % 64 = r := ⟨_, rfl⟩
  have hr' : N.tmod 64 = r := by rw [Int.tmod_eq_emod_of_nonneg hN]; exact hr
  rw [hr] at hb
  have hb' : ((n : Int) == r) = b := by rw [← hb]; rfl
  obtain ⟨a0, b0, c0, d0, e0, f0, g0, h0⟩ := s
  clear hn hb
  go_enter Tryd.func49, Tryd.ntmps49
  go_wp2
  go_ret
  exact ⟨rfl, by (repeat (first | exact Below.refl _ _ | refine Below.drew ?_ | refine bl_drewN ?_ _ | (refine Below.alloc ?_ (by first | exact Nat.le_refl _ | (simp; done) | (simp; omega)) _)))⟩
set_option maxRecDepth 100000 in
set_option maxHeartbeats 2000000 in
theorem sane_yes (s : S8) (ao : Option Addr) (n c : Nat) (N : Int) (hN : 0 ≤ N) (hn : (n : Int) = N % 64) (w : World) :
    Calls Tryd.prog 43 #[stV s (.slice ao n c) N] w fun e w' => e = .returned (stV s (.slice ao n c) N) ∧ Below w.heap.size w w' := by
  have HS := Lib.hid (fun w => sane_any1 s ao n c N (by omega) true (by rw [hn]; simp) hN w)
  obtain ⟨a0, b0, c0, d0, e0, f0, g0, h0⟩ := s
  have hB := Below.refl w.heap.size w
  have hM := Lib.hid (mem_nil w)
  have hF : True := trivial
  clear hn
  go_enter Tryd.func43, Tryd.ntmps43
  go_wp2_with (go_at_call 49; refine (HS.out _).mono ?_; rintro e w1 ⟨rfl, hb⟩; have hB : Below w.heap.size w w1 := (by refine bl_then ?_ hb; (repeat (first | exact hB | refine bl_al ?_ _ | refine Below.setCell ?_ (by first | exact hgs | exact Nat.le_succ_of_le hgs | exact hgs2 | exact hgs3) _ | refine Below.drew ?_ | refine bl_drewN ?_ _))); (first | with_reducible have hM2 := Mem.later hb (hM.out) | with_reducible have hM2 := Mem.later hb (Mem.al (hM.out) _ _) | with_reducible have hM2 := Mem.later hb (Mem.al (Mem.al (hM.out) _ _) _ _) | with_reducible have hM2 := Mem.later hb (Mem.al (Mem.al (Mem.al (hM.out) _ _) _ _) _ _) | with_reducible have hM2 := Mem.later hb (Mem.al (Mem.al (Mem.al (Mem.al (hM.out) _ _) _ _) _ _) _ _) | with_reducible have hM2 := Mem.later hb (Mem.drew (hM.out)) | with_reducible have hM2 := Mem.later hb (Mem.drew (Mem.al (hM.out) _ _)) | with_reducible have hM2 := Mem.later hb (Mem.al (Mem.drew (hM.out)) _ _) | with_reducible have hM2 := Mem.later hb (Mem.al (Mem.drew (Mem.al (hM.out) _ _)) _ _) | with_reducible have hM2 := Mem.later hb (Mem.drew (Mem.al (Mem.al (hM.out) _ _) _ _)) | with_reducible have hM2 := Mem.later hb (Mem.al (Mem.al (Mem.drew (hM.out)) _ _) _ _) | with_reducible have hM2 := Mem.later hb (Mem.drew (Mem.drew (hM.out))) | with_reducible have hM2 := Mem.later hb (Mem.drew (Mem.al (Mem.drew (hM.out)) _ _)) | with_reducible have hM2 := Mem.later hb (Mem.drew (Mem.al (Mem.al (Mem.al (hM.out) _ _) _ _) _ _)) | with_reducible have hM2 := Mem.later hb (Mem.al (Mem.al (Mem.drew (Mem.al (hM.out) _ _)) _ _) _ _) | with_reducible have hM2 := Mem.later hb (Mem.drew (Mem.al (Mem.drew (Mem.al (hM.out) _ _)) _ _)) | with_reducible have hM2 := Mem.later hb (Mem.al (Mem.al (Mem.al (Mem.al (Mem.al (hM.out) _ _) _ _) _ _) _ _) _ _) | with_reducible have hM2 := Mem.later hb (Mem.al (Mem.al (Mem.al (Mem.al (Mem.al (Mem.al (hM.out) _ _) _ _) _ _) _ _) _ _) _ _) | with_reducible have hM2 := Mem.later hb (Mem.al (Mem.al (Mem.al (Mem.al (Mem.al (Mem.al (Mem.al (hM.out) _ _) _ _) _ _) _ _) _ _) _ _) _ _) | with_reducible have hM2 := Mem.later hb (Mem.al (Mem.al (Mem.al (Mem.al (Mem.al (Mem.al (Mem.al (Mem.al (hM.out) _ _) _ _) _ _) _ _) _ _) _ _) _ _) _ _)); (try simp only [World.size_alloc, size_drew] at hM2); clear hM; have hM := Lib.hid hM2; clear hF; have hF := hM2; (try simp only [Mem, cellsAt, World.size_alloc, Nat.zero_add, Nat.reduceAdd, and_true] at hF); clear hM2; clear hb)
  have HMz := Lib.hid hM.out.1
  clear hF
  have hR := Mem.over (us := [.int .u32 a0, .int .u32 b0, .int .u32 c0, .int .u32 d0, .int .u32 e0, .int .u32 f0, .int .u32 g0, .int .u32 h0, .slice ao n c, .int .u64 N]) (b := (w.heap.size + 1)) (L := []) (by simp) ⟨HMz.out, trivial⟩ rfl
  have hBl := bl_setCellsW (b := (w.heap.size + 1)) (Nat.le_succ _) [.int .u32 a0, .int .u32 b0, .int .u32 c0, .int .u32 d0, .int .u32 e0, .int .u32 f0, .int .u32 g0, .int .u32 h0, .slice ao n c, .int .u64 N] 0 w1 hB
  have hRr := rangeAt_of hR.1.2.2
  clear hR
  change bodyPost _ _ _ _ _ (w1.setCells (w.heap.size + 1) 0 [.int .u32 a0, .int .u32 b0, .int .u32 c0, .int .u32 d0, .int .u32 e0, .int .u32 f0, .int .u32 g0, .int .u32 h0, .slice ao n c, .int .u64 N])
  generalize w1.setCells (w.heap.size + 1) 0 [.int .u32 a0, .int .u32 b0, .int .u32 c0, .int .u32 d0, .int .u32 e0, .int .u32 f0, .int .u32 g0, .int .u32 h0, .slice ao n c, .int .u64 N] = wf at *
  have hl := Go.run_loadVar_mid (P := Tryd.prog) wf (w.heap.size + 1) 0 86 [.int .u32 a0, .int .u32 b0, .int .u32 c0, .int .u32 d0, .int .u32 e0, .int .u32 f0, .int .u32 g0, .int .u32 h0, .slice ao n c, .int .u64 N] _ hRr Tryd.underlying86 rfl (by kernel_rfl)
  refine bodyPost_ret (v := .agg ([.int .u32 a0, .int .u32 b0, .int .u32 c0, .int .u32 d0, .int .u32 e0, .int .u32 f0, .int .u32 g0, .int .u32 h0, .slice ao n c, .int .u64 N]).toArray) (by simp [results, Tryd.results43, asAddr, hl, Act.put]) rfl ⟨rfl, hBl⟩

set_option maxRecDepth 100000 in
set_option maxHeartbeats 2000000 in
theorem sane_no (s : S8) (ao : Option Addr) (n c : Nat) (N : Int) (hn64 : n < 18446744073709551616) (hN : 0 ≤ N) (hn : (n : Int) ≠ N % 64) (w : World) (hT : Tab w) :
    Calls Tryd.prog 43 #[stV s (.slice ao n c) N] w fun e w' => e = .returned (stV s0H (.slice none 0 0) 0) ∧ Below w.heap.size w w' := by
  have HS := Lib.hid (fun w => sane_any1 s ao n c N hn64 false (by simpa using hn) hN w)
  have HT := Lib.hid hT
  have HSt := Lib.hid (fun (x : World) (hb : Below w.heap.size w x) => start_any x (hT.later hb))
  clear hT hn hn64 hN
  obtain ⟨a0, b0, c0, d0, e0, f0, g0, h0⟩ := s
  have hB := Below.refl w.heap.size w
  have hM := Lib.hid (mem_nil w)
  have hF : True := trivial
  go_enter Tryd.func43, Tryd.ntmps43
  go_wp2_with (first | (go_at_call 49; refine (HS.out _).mono ?_; rintro e w1 ⟨rfl, hb⟩; have hB : Below w.heap.size w w1 := (by refine bl_then ?_ hb; (repeat (first | exact hB | refine bl_al ?_ _ | refine Below.setCell ?_ (by first | exact hgs | exact Nat.le_succ_of_le hgs | exact hgs2 | exact hgs3) _ | refine Below.drew ?_ | refine bl_drewN ?_ _))); (first | with_reducible have hM2 := Mem.later hb (hM.out) | with_reducible have hM2 := Mem.later hb (Mem.al (hM.out) _ _) | with_reducible have hM2 := Mem.later hb (Mem.al (Mem.al (hM.out) _ _) _ _) | with_reducible have hM2 := Mem.later hb (Mem.al (Mem.al (Mem.al (hM.out) _ _) _ _) _ _) | with_reducible have hM2 := Mem.later hb (Mem.al (Mem.al (Mem.al (Mem.al (hM.out) _ _) _ _) _ _) _ _) | with_reducible have hM2 := Mem.later hb (Mem.drew (hM.out)) | with_reducible have hM2 := Mem.later hb (Mem.drew (Mem.al (hM.out) _ _)) | with_reducible have hM2 := Mem.later hb (Mem.al (Mem.drew (hM.out)) _ _) | with_reducible have hM2 := Mem.later hb (Mem.al (Mem.drew (Mem.al (hM.out) _ _)) _ _) | with_reducible have hM2 := Mem.later hb (Mem.drew (Mem.al (Mem.al (hM.out) _ _) _ _)) | with_reducible have hM2 := Mem.later hb (Mem.al (Mem.al (Mem.drew (hM.out)) _ _) _ _) | with_reducible have hM2 := Mem.later hb (Mem.drew (Mem.drew (hM.out))) | with_reducible have hM2 := Mem.later hb (Mem.drew (Mem.al (Mem.drew (hM.out)) _ _)) | with_reducible have hM2 := Mem.later hb (Mem.drew (Mem.al (Mem.al (Mem.al (hM.out) _ _) _ _) _ _)) | with_reducible have hM2 := Mem.later hb (Mem.al (Mem.al (Mem.drew (Mem.al (hM.out) _ _)) _ _) _ _) | with_reducible have hM2 := Mem.later hb (Mem.drew (Mem.al (Mem.drew (Mem.al (hM.out) _ _)) _ _)) | with_reducible have hM2 := Mem.later hb (Mem.al (Mem.al (Mem.al (Mem.al (Mem.al (hM.out) _ _) _ _) _ _) _ _) _ _) | with_reducible have hM2 := Mem.later hb (Mem.al (Mem.al (Mem.al (Mem.al (Mem.al (Mem.al (hM.out) _ _) _ _) _ _) _ _) _ _) _ _) | with_reducible have hM2 := Mem.later hb (Mem.al (Mem.al (Mem.al (Mem.al (Mem.al (Mem.al (Mem.al (hM.out) _ _) _ _) _ _) _ _) _ _) _ _) _ _) | with_reducible have hM2 := Mem.later hb (Mem.al (Mem.al (Mem.al (Mem.al (Mem.al (Mem.al (Mem.al (Mem.al (hM.out) _ _) _ _) _ _) _ _) _ _) _ _) _ _) _ _)); (try simp only [World.size_alloc, size_drew] at hM2); clear hM; have hM := Lib.hid hM2; clear hF; have hF := hM2; (try simp only [Mem, cellsAt, World.size_alloc, Nat.zero_add, Nat.reduceAdd, and_true] at hF); clear hM2; clear hb) | (go_at_call 40; refine (HSt.out _ (by (repeat (first | exact hB | refine bl_al ?_ _ | refine Below.setCell ?_ (by first | exact hgs | exact Nat.le_succ_of_le hgs | exact hgs2 | exact hgs3) _ | refine Below.drew ?_ | refine bl_drewN ?_ _)))).mono ?_; rintro e w2 ⟨rfl, hb⟩; have hB : Below w.heap.size w w2 := (by refine bl_then ?_ hb; (repeat (first | exact hB | refine bl_al ?_ _ | refine Below.setCell ?_ (by first | exact hgs | exact Nat.le_succ_of_le hgs | exact hgs2 | exact hgs3) _ | refine Below.drew ?_ | refine bl_drewN ?_ _))); (first | with_reducible have hM2 := Mem.later hb (hM.out) | with_reducible have hM2 := Mem.later hb (Mem.al (hM.out) _ _) | with_reducible have hM2 := Mem.later hb (Mem.al (Mem.al (hM.out) _ _) _ _) | with_reducible have hM2 := Mem.later hb (Mem.al (Mem.al (Mem.al (hM.out) _ _) _ _) _ _) | with_reducible have hM2 := Mem.later hb (Mem.al (Mem.al (Mem.al (Mem.al (hM.out) _ _) _ _) _ _) _ _) | with_reducible have hM2 := Mem.later hb (Mem.drew (hM.out)) | with_reducible have hM2 := Mem.later hb (Mem.drew (Mem.al (hM.out) _ _)) | with_reducible have hM2 := Mem.later hb (Mem.al (Mem.drew (hM.out)) _ _) | with_reducible have hM2 := Mem.later hb (Mem.al (Mem.drew (Mem.al (hM.out) _ _)) _ _) | with_reducible have hM2 := Mem.later hb (Mem.drew (Mem.al (Mem.al (hM.out) _ _) _ _)) | with_reducible have hM2 := Mem.later hb (Mem.al (Mem.al (Mem.drew (hM.out)) _ _) _ _) | with_reducible have hM2 := Mem.later hb (Mem.drew (Mem.drew (hM.out))) | with_reducible have hM2 := Mem.later hb (Mem.drew (Mem.al (Mem.drew (hM.out)) _ _)) | with_reducible have hM2 := Mem.later hb (Mem.drew (Mem.al (Mem.al (Mem.al (hM.out) _ _) _ _) _ _)) | with_reducible have hM2 := Mem.later hb (Mem.al (Mem.al (Mem.drew (Mem.al (hM.out) _ _)) _ _) _ _) | with_reducible have hM2 := Mem.later hb (Mem.drew (Mem.al (Mem.drew (Mem.al (hM.out) _ _)) _ _)) | with_reducible have hM2 := Mem.later hb (Mem.al (Mem.al (Mem.al (Mem.al (Mem.al (hM.out) _ _) _ _) _ _) _ _) _ _) | with_reducible have hM2 := Mem.later hb (Mem.al (Mem.al (Mem.al (Mem.al (Mem.al (Mem.al (hM.out) _ _) _ _) _ _) _ _) _ _) _ _) | with_reducible have hM2 := Mem.later hb (Mem.al (Mem.al (Mem.al (Mem.al (Mem.al (Mem.al (Mem.al (hM.out) _ _) _ _) _ _) _ _) _ _) _ _) _ _) | with_reducible have hM2 := Mem.later hb (Mem.al (Mem.al (Mem.al (Mem.al (Mem.al (Mem.al (Mem.al (Mem.al (hM.out) _ _) _ _) _ _) _ _) _ _) _ _) _ _) _ _)); (try simp only [World.size_alloc, size_drew] at hM2); clear hM; have hM := Lib.hid hM2; clear hF; have hF := hM2; (try simp only [Mem, cellsAt, World.size_alloc, Nat.zero_add, Nat.reduceAdd, and_true] at hF); clear hM2; clear hb))
  have HMz := Lib.hid hM.out.1
  clear hF
  have hR := Mem.over (us := [.int .u32 s0H.a, .int .u32 s0H.b, .int .u32 s0H.c, .int .u32 s0H.d, .int .u32 s0H.e, .int .u32 s0H.f, .int .u32 s0H.g, .int .u32 s0H.h, .slice none 0 0, .int .u64 0]) (b := (w.heap.size + 1)) (L := []) (by simp) ⟨HMz.out, trivial⟩ rfl
  have hBl := bl_setCellsW (b := (w.heap.size + 1)) (Nat.le_succ _) [.int .u32 s0H.a, .int .u32 s0H.b, .int .u32 s0H.c, .int .u32 s0H.d, .int .u32 s0H.e, .int .u32 s0H.f, .int .u32 s0H.g, .int .u32 s0H.h, .slice none 0 0, .int .u64 0] 0 w2 hB
  have hRr := rangeAt_of hR.1.2.2
  clear hR
  change bodyPost _ _ _ _ _ (w2.setCells (w.heap.size + 1) 0 [.int .u32 s0H.a, .int .u32 s0H.b, .int .u32 s0H.c, .int .u32 s0H.d, .int .u32 s0H.e, .int .u32 s0H.f, .int .u32 s0H.g, .int .u32 s0H.h, .slice none 0 0, .int .u64 0])
  generalize w2.setCells (w.heap.size + 1) 0 [.int .u32 s0H.a, .int .u32 s0H.b, .int .u32 s0H.c, .int .u32 s0H.d, .int .u32 s0H.e, .int .u32 s0H.f, .int .u32 s0H.g, .int .u32 s0H.h, .slice none 0 0, .int .u64 0] = wf at *
  have hl := Go.run_loadVar_mid (P := Tryd.prog) wf (w.heap.size + 1) 0 86 [.int .u32 s0H.a, .int .u32 s0H.b, .int .u32 s0H.c, .int .u32 s0H.d, .int .u32 s0H.e, .int .u32 s0H.f, .int .u32 s0H.g, .int .u32 s0H.h, .slice none 0 0, .int .u64 0] _ hRr Tryd.underlying86 rfl (by kernel_rfl)
  refine bodyPost_ret (v := .agg ([.int .u32 s0H.a, .int .u32 s0H.b, .int .u32 s0H.c, .int .u32 s0H.d, .int .u32 s0H.e, .int .u32 s0H.f, .int .u32 s0H.g, .int .u32 s0H.h, .slice none 0 0, .int .u64 0]).toArray) (by simp [results, Tryd.results43, asAddr, hl, Act.put]) rfl ⟨rfl, hBl⟩
end Go.Proofs.YtfbhpkhpkaeagaaDoor

/- SHA-256: Write. (hM) -/
namespace Go.Proofs.YtfbhpkhpkaeagaaDoor
set_option linter.unusedVariables false
set_option linter.unusedSimpArgs false
open Go.RowKit

def slLen : Value → Nat
  | .slice _ n _ => n
  | _ => 0
theorem heap_set8 (w : World) (b k : Nat) (x0 x1 x2 x3 x4 x5 x6 x7 : Int) (h : k ≠ b) : (wset8 w b x0 x1 x2 x3 x4 x5 x6 x7).heap[k]? = w.heap[k]? := by
  unfold wset8
  rw [Below.heap_setCell _ _ _ _ (by simpa using h), Below.heap_setCell _ _ _ _ (by simpa using h), Below.heap_setCell _ _ _ _ (by simpa using h), Below.heap_setCell _ _ _ _ (by simpa using h), Below.heap_setCell _ _ _ _ (by simpa using h), Below.heap_setCell _ _ _ _ (by simpa using h), Below.heap_setCell _ _ _ _ (by simpa using h), Below.heap_setCell _ _ _ _ (by simpa using h)]
theorem heap_setCellsW (b k : Nat) (h : k ≠ b) : ∀ (vs : List Value) (o : Nat) (w : World), (w.setCells b o vs).heap[k]? = w.heap[k]?
  | [], _, _ => rfl
  | v :: r, o, w => by
    rw [World.setCells, heap_setCellsW b k h r (o + 1)]
    exact Below.heap_setCell _ _ _ _ (by simpa using h)
theorem OwnN.kept {B : Nat} {E : TypeId} {sz : Nat} {w w' : World} {ao : Option Addr} {n c : Nat} {xs : List Value} (h : OwnN B E sz w ao n c xs) (hb : ∀ g, ao = some ⟨g, 0, none⟩ → w'.heap[g]? = w.heap[g]?) : OwnN B E sz w' ao n c xs := by
  rcases h with h | ⟨g, h1, h2⟩
  · exact .inl h
  · refine .inr ⟨g, h1, h2.1, ?_⟩
    rcases h2.2 with h0 | ⟨g', cap, cur, hv, hB, hg, hrest⟩
    · exact .inl h0
    · have e : g = g' := by
        simp only [Value.slice.injEq, Option.some.injEq, Addr.mk.injEq, and_true] at hv
        exact hv.1
      subst e
      exact .inr ⟨g, cap, cur, hv, hB, (hb g h1).trans hg, hrest⟩
/-- the cells of a state -/
def stL (s : S8) (sl : Value) (N : Int) : List Value := [.int .u32 s.a, .int .u32 s.b, .int .u32 s.c, .int .u32 s.d, .int .u32 s.e, .int .u32 s.f, .int .u32 s.g, .int .u32 s.h, sl, .int .u64 N]
theorem Mem.st8 {w : World} {b : Nat} (t t' : S8) (sl : Value) (N : Int) {l : List (Nat × List Value)} (hd : ∀ p ∈ l, p.1 ≠ b) (h : Mem w ((b, stL t sl N) :: l)) :
    Mem (wset8 w b t'.a t'.b t'.c t'.d t'.e t'.f t'.g t'.h) ((b, stL t' sl N) :: l) := ((((((((h.setN (k := 0) (v := .int .u32 t'.a) hd).setN (k := 1) (v := .int .u32 t'.b) hd).setN (k := 2) (v := .int .u32 t'.c) hd).setN (k := 3) (v := .int .u32 t'.d) hd).setN (k := 4) (v := .int .u32 t'.e) hd).setN (k := 5) (v := .int .u32 t'.f) hd).setN (k := 6) (v := .int .u32 t'.g) hd).setN (k := 7) (v := .int .u32 t'.h) hd)
def WrRel (w : World) (s : S8) (T : Nat → Int) (tot : Nat) (sl0 : Value) (N : Int) (sl : Value) (wr : World) : Prop :=
  ∃ (j m c : Nat) (ao : Option Addr), 64 * j + m = tot ∧ sl = .slice ao m c ∧ Below w.heap.size w wr ∧ Row wr ao m c 1 (bcells (fun i => T (64 * j + i)) m) ∧ (∀ ad, ao = some ad → w.heap.size + 1 < ad.block) ∧
    Mem wr [(w.heap.size, stL (blks s T j) sl0 N), (w.heap.size + 1, stL ⟨0, 0, 0, 0, 0, 0, 0, 0⟩ (.slice none 0 0) 0)]

set_option maxRecDepth 100000 in
set_option maxHeartbeats 4000000 in
theorem write_of (v0 : S8) (vao : Option Addr) (vn vc : Nat) (vN : Int) (s : S8) (a1 a2 : Option Addr) (n1 c1 n2 c2 : Nat) (N : Int) (f1 f2 : Nat → Int) (w : World) (hT : Tab w)
    (hS : ∀ x, Below w.heap.size w x → Calls Tryd.prog 43 #[stV v0 (.slice vao vn vc) vN] x fun e w' => e = .returned (stV s (.slice a1 n1 c1) N) ∧ Below x.heap.size x w')
    (hr1 : Row w a1 n1 c1 1 (bcells f1 n1)) (hr2 : Row w a2 n2 c2 1 (bcells f2 n2)) (hf1 : ∀ i, 0 ≤ f1 i ∧ f1 i < 256) (hf2 : ∀ i, 0 ≤ f2 i ∧ f2 i < 256) (hn : n1 + n2 ≤ 140737488355328) (hN : 0 ≤ N ∧ N < WI) :
    Calls Tryd.prog 39 #[stV v0 (.slice vao vn vc) vN, .slice a2 n2 c2] w fun e w' => ∃ ao cap, e = .returned (stV (blks s (catF f1 n1 f2) ((n1 + n2) / 64)) (.slice ao ((n1 + n2) % 64) cap) (IntKind.u64.wrap (N + (n2 : Int)))) ∧
      OwnN w.heap.size 5 1 w' ao ((n1 + n2) % 64) cap (bcells (fun i => catF f1 n1 f2 (64 * ((n1 + n2) / 64) + i)) ((n1 + n2) % 64)) ∧ Below w.heap.size w w' := by
  obtain ⟨T, hTT⟩ : ∃ T, catF f1 n1 f2 = T := ⟨_, rfl⟩
  obtain ⟨tot, htot⟩ : ∃ t, n1 + n2 = t := ⟨_, rfl⟩
  obtain ⟨N2, hN2⟩ : ∃ z, IntKind.u64.wrap (N + (n2 : Int)) = z := ⟨_, rfl⟩
  have hTb : ∀ i, 0 ≤ T i ∧ T i < 256 := fun i => by
    rw [← hTT]
    unfold catF
    split
    · exact hf1 i
    · exact hf2 _
  have hCat := fun (x : World) (b : Nat) (hb : Below w.heap.size w x) (h1 : x.cell? ⟨b, 0, none⟩ = some (.slice a1 n1 c1)) (h2 : x.cell? ⟨b, 1, none⟩ = some (.slice a2 n2 c2)) =>
    concat_any b 0 a1 a2 n1 c1 n2 c2 f1 f2 x h1 h2 (hr1.later hb) (hr2.later hb) hn
  have hw2 : IntKind.u64.wrap (n2 : Int) = (n2 : Int) := by rw [IntKind.wrap_u64]; omega
  rw [hTT, htot] at hCat ⊢
  rw [htot] at hn
  have HCat := Lib.hid hCat
  have HS := Lib.hid hS
  have HT := Lib.hid hT
  have HTb := Lib.hid hTb
  clear hCat hS hT hTb hr1 hr2 hf1 hf2 hTT htot
  obtain ⟨a0, b0, c0, d0, e0, f0, g0, h0⟩ := s
  obtain ⟨p0, p1, p2, p3, p4, p5, p6, p7⟩ := v0
  have hB := Below.refl w.heap.size w
  have hM := Lib.hid (mem_nil w)
  have hF : True := trivial
  go_enter Tryd.func39, Tryd.ntmps39
  go_wp2_with (first | (go_at_call 43; ((with_reducible refine (HS.out _ (by (repeat (first | exact hB | refine bl_al ?_ _ | refine Below.setCell ?_ (by first | exact hgs | exact Nat.le_succ_of_le hgs | exact hgs2 | exact hgs3) _ | refine Below.drew ?_ | refine bl_drewN ?_ _)))).mono ?_); rintro e w1 ⟨rfl, hb⟩; have hB : Below w.heap.size w w1 := (by refine bl_then ?_ hb; (repeat (first | exact hB | refine bl_al ?_ _ | refine Below.setCell ?_ (by first | exact hgs | exact Nat.le_succ_of_le hgs | exact hgs2 | exact hgs3) _ | refine Below.drew ?_ | refine bl_drewN ?_ _))); (first | with_reducible have hM2 := Mem.later hb (hM.out) | with_reducible have hM2 := Mem.later hb (Mem.al (hM.out) _ _) | with_reducible have hM2 := Mem.later hb (Mem.al (Mem.al (hM.out) _ _) _ _) | with_reducible have hM2 := Mem.later hb (Mem.al (Mem.al (Mem.al (hM.out) _ _) _ _) _ _) | with_reducible have hM2 := Mem.later hb (Mem.al (Mem.al (Mem.al (Mem.al (hM.out) _ _) _ _) _ _) _ _) | with_reducible have hM2 := Mem.later hb (Mem.drew (hM.out)) | with_reducible have hM2 := Mem.later hb (Mem.drew (Mem.al (hM.out) _ _)) | with_reducible have hM2 := Mem.later hb (Mem.al (Mem.drew (hM.out)) _ _) | with_reducible have hM2 := Mem.later hb (Mem.al (Mem.drew (Mem.al (hM.out) _ _)) _ _) | with_reducible have hM2 := Mem.later hb (Mem.drew (Mem.al (Mem.al (hM.out) _ _) _ _)) | with_reducible have hM2 := Mem.later hb (Mem.al (Mem.al (Mem.drew (hM.out)) _ _) _ _) | with_reducible have hM2 := Mem.later hb (Mem.drew (Mem.drew (hM.out))) | with_reducible have hM2 := Mem.later hb (Mem.drew (Mem.al (Mem.drew (hM.out)) _ _)) | with_reducible have hM2 := Mem.later hb (Mem.drew (Mem.al (Mem.al (Mem.al (hM.out) _ _) _ _) _ _)) | with_reducible have hM2 := Mem.later hb (Mem.al (Mem.al (Mem.drew (Mem.al (hM.out) _ _)) _ _) _ _) | with_reducible have hM2 := Mem.later hb (Mem.drew (Mem.al (Mem.drew (Mem.al (hM.out) _ _)) _ _)) | with_reducible have hM2 := Mem.later hb (Mem.al (Mem.al (Mem.al (Mem.al (Mem.al (hM.out) _ _) _ _) _ _) _ _) _ _) | with_reducible have hM2 := Mem.later hb (Mem.al (Mem.al (Mem.al (Mem.al (Mem.al (Mem.al (hM.out) _ _) _ _) _ _) _ _) _ _) _ _) | with_reducible have hM2 := Mem.later hb (Mem.al (Mem.al (Mem.al (Mem.al (Mem.al (Mem.al (Mem.al (hM.out) _ _) _ _) _ _) _ _) _ _) _ _) _ _) | with_reducible have hM2 := Mem.later hb (Mem.al (Mem.al (Mem.al (Mem.al (Mem.al (Mem.al (Mem.al (Mem.al (hM.out) _ _) _ _) _ _) _ _) _ _) _ _) _ _) _ _)); (try simp only [World.size_alloc, size_drew] at hM2); clear hM; have hM := Lib.hid hM2; clear hF; have hF := hM2; (try simp only [Mem, cellsAt, World.size_alloc, Nat.zero_add, Nat.reduceAdd, and_true] at hF); clear hM2; clear hb)))
  have hM1 : Mem w1 [(w.heap.size, [.int .u32 p0, .int .u32 p1, .int .u32 p2, .int .u32 p3, .int .u32 p4, .int .u32 p5, .int .u32 p6, .int .u32 p7, .slice vao vn vc, .int .u64 vN]), (w.heap.size + 1, stL ⟨0, 0, 0, 0, 0, 0, 0, 0⟩ (.slice none 0 0) 0)] := ⟨hM.out.2.1, hM.out.1, trivial⟩
  have D1 : Hid (∀ p ∈ [(w.heap.size + 1, stL ⟨0, 0, 0, 0, 0, 0, 0, 0⟩ (.slice none 0 0) 0)], p.1 ≠ w.heap.size) := by
    intro p hp; simp at hp; subst hp; simp
  have hM2 := Mem.setN (k := 9) (v := .int .u64 N2) D1.out (Mem.over (us := stL ⟨a0, b0, c0, d0, e0, f0, g0, h0⟩ (.slice a1 n1 c1) N) D1.out hM1 rfl)
  have hB2 : Below w.heap.size w ((w1.setCells w.heap.size 0 (stL ⟨a0, b0, c0, d0, e0, f0, g0, h0⟩ (.slice a1 n1 c1) N)).setCell ⟨w.heap.size, 9, none⟩ (.int .u64 N2)) := (bl_setCellsW (Nat.le_refl _) _ _ _ hB).setCell (Nat.le_refl _) _
  have hsz : ((w1.setCells w.heap.size 0 (stL ⟨a0, b0, c0, d0, e0, f0, g0, h0⟩ (.slice a1 n1 c1) N)).setCell ⟨w.heap.size, 9, none⟩ (.int .u64 N2)).heap.size = w1.heap.size := by simp [size_setCellsW]
  have hM3 := Mem.al hM2 [.slice a1 n1 c1, .slice a2 n2 c2] 65
  have hB3 := bl_al hB2 (.cells #[.slice a1 n1 c1, .slice a2 n2 c2] 65)
  rw [hsz] at hM3
  have hw1s : w.heap.size + 1 < w1.heap.size := hM.out.1.1
  clear hF hM hM1 hM2 hB2
  refine (HCat.out _ w1.heap.size hB3 hM3.1.2.2.1 hM3.1.2.2.2.1).mono ?_
  rintro e w2 ⟨ao, cap, rfl, hown, hb2⟩
  have hR2 := hown.row (bcells_one T tot)
  have hg2 : ∀ ad, ao = some ad → w.heap.size + 1 < ad.block := by
    rintro ad rfl
    rcases hown with ⟨h, _⟩ | ⟨g, h, ho⟩
    · cases h
    · cases h
      have := (ho.lt g rfl).1
      rw [World.size_alloc, hsz] at this
      show w.heap.size + 1 < g
      omega
  have hM4 := Mem.later hb2 hM3
  have hB4 := bl_then hB3 hb2
  have HR0 : Hid (WrRel w ⟨a0, b0, c0, d0, e0, f0, g0, h0⟩ T tot (.slice a1 n1 c1) N2 (.slice ao tot cap) w2) :=
    ⟨0, tot, cap, ao, by omega, rfl, hB4, by simpa using hR2, hg2, hM4.2.1, hM4.2.2.1, trivial⟩
  clear hown hb2 hR2 hg2 hM4 hB4 hM3 hB3 hsz hB
  go_wp2
  go_loopw [5] (fun sl wr => WrRel w ⟨a0, b0, c0, d0, e0, f0, g0, h0⟩ T tot (.slice a1 n1 c1) N2 sl wr) (fun sl _ => slLen sl)
  case atStart => exact HR0.out
  case round =>
    clear HR0
    obtain ⟨j, m, c, ao, htot, rfl, hB, hr, hlt, hm⟩ := hrel
    by_cases h64 : 64 ≤ m
    · have hne : bcells (fun i => T (64 * j + i)) m ≠ [] := bcells_ne _ _ (by omega)
      obtain ⟨g, off, rfl⟩ := row_addr hr hne
      have hgl := hlt _ rfl
      dsimp only at hgl
      obtain ⟨t, ht⟩ : ∃ t, blks ⟨a0, b0, c0, d0, e0, f0, g0, h0⟩ T j = t := ⟨_, rfl⟩
      obtain ⟨F, hF'⟩ : ∃ F : Nat → Int, (fun i => T (64 * j + i)) = F := ⟨_, rfl⟩
      obtain ⟨t', ht'⟩ : ∃ t', blk t F = t' := ⟨_, rfl⟩
      have hst : blks ⟨a0, b0, c0, d0, e0, f0, g0, h0⟩ T (j + 1) = t' := by
        show blk (blks _ T j) (fun i => T (64 * j + i)) = t'
        rw [ht, hF', ht']
      rw [ht] at hm
      rw [hF'] at hr
      have hFb : ∀ i, 0 ≤ F i ∧ F i < 256 := fun i => by rw [← hF']; exact HTb.out _
      have hle := hr.le
      have HBlk := Lib.hid (fun (x : World) (hb : Below wr.heap.size wr x) => ht' ▸ block_any t (some ⟨g, off, none⟩) c F x (HT.out.later (bl_then hB hb)) (row_pre (hr.later hb) 64 h64) hFb)
      have HX := Lib.hid (And.intro hr (And.intro hst hF'))
      have HM := Lib.hid hm
      have hS0 : Hid (Mem wr [(w.heap.size, stL t (.slice a1 n1 c1) N2)]) := ⟨hm.1, trivial⟩
      have hm64 : (64 : Int) ≤ (m : Int) := by omega
      have hc64 : 64 ≤ c := by omega
      have hcI : (64 : Int) ≤ (c : Int) := by omega
      have hBB := Lib.hid hB
      clear hr hst hF' hm ht ht' hFb hne hlt hB
      obtain ⟨ta, tb, tc, td, te, tf, tg, th⟩ := t
      go_wp2
      have hF0 := HM.out.1
      simp only [cellsAt, stL, Nat.zero_add, Nat.reduceAdd, and_true] at hF0
      refine wp_plan (fun x => True) [1, 4, 6] [0, 2, 3, 1, 4, 5, 6] (by kernel_rfl) (by kernel_rfl) trivial (fun hHeld => ?_)
      iterate 3 (refine wpT_take rfl (by rfl) (by rfl) (by intro w' hSw; (try dsimp only [Mem, cellsAt] at hSw); go_simp; (try with_reducible rfl)) (by assumption) ?_; (try simp only [Act.put, List.setIfInBounds_toArray, List.set_cons_zero, List.set_cons_succ]))
      (refine wpT_step rfl (by rfl) (fun K hK => ?_); go_simp)
      (refine hK.out _ _ _ (fun _ h => h) (trivial) (fun hHeld => ?_); clear hK; clear K; (try simp only [Act.put, List.setIfInBounds_toArray, List.set_cons_zero, List.set_cons_succ]))
      (refine wpT_step rfl (by rfl) (fun K hK => ?_); go_simp)
      refine (HBlk.out _ (Below.refl _ _).drew).mono ?_
      rintro e w3 ⟨rfl, hb3⟩
      have HM3 := Lib.hid (Mem.later hb3 (Mem.drew HM.out))
      have hB3 := bl_then hBB.out.drew hb3
      have HR3 := Lib.hid ((HX.out.1.later (Below.refl _ _).drew).later hb3)
      have hF3 := HM3.out
      simp only [Mem, cellsAt, stL, Nat.zero_add, Nat.reduceAdd, and_true] at hF3
      clear hb3 hF0
      (refine hK.out _ _ _ (fun _ h => h) (trivial) (fun hHeld => ?_); clear hK; clear K; (try simp only [Act.put, List.setIfInBounds_toArray, List.set_cons_zero, List.set_cons_succ]))
      iterate 1 (refine wpT_take rfl (by rfl) (by rfl) (by intro w' hSw; (try dsimp only [Mem, cellsAt] at hSw); go_simp; (try with_reducible rfl)) (by assumption) ?_; (try simp only [Act.put, List.setIfInBounds_toArray, List.set_cons_zero, List.set_cons_succ]))
      (refine wpT_step rfl (by rfl) (fun K hK => ?_); go_simp)
      have D2 : Hid (∀ p ∈ [(w.heap.size + 1, stL ⟨0, 0, 0, 0, 0, 0, 0, 0⟩ (.slice none 0 0) 0)], p.1 ≠ w.heap.size) := D1.out
      have HM5 := Lib.hid (Mem.st8 _ t' _ _ D2.out HM3.out)
      (refine hK.out _ _ _ (fun _ h => h) (trivial) (fun hHeld => ?_); clear hK; clear K; (try simp only [Act.put, List.setIfInBounds_toArray, List.set_cons_zero, List.set_cons_succ]))
      (refine wpT_nil ?_)
      have hr8 : (wset8 w3 w.heap.size t'.a t'.b t'.c t'.d t'.e t'.f t'.g t'.h).heap[g]? = w3.heap[g]? := heap_set8 _ _ _ _ _ _ _ _ _ _ _ (by omega)
      have HR5 := Lib.hid (HR3.out.kept (w' := wset8 w3 w.heap.size t'.a t'.b t'.c t'.d t'.e t'.f t'.g t'.h) (fun ad h => by cases h; exact hr8))
      have hB5 := bl_set8 t'.a t'.b t'.c t'.d t'.e t'.f t'.g t'.h (Nat.le_refl _) hB3
      clear hF3 hr8 HR3
      have hrow : Row (wset8 w3 w.heap.size t'.a t'.b t'.c t'.d t'.e t'.f t'.g t'.h) (if c = 64 then some ⟨g, off, none⟩ else some ⟨g, off + 64, none⟩) (m - 64) (c - 64) 1 (bcells (fun i => T (64 * (j + 1) + i)) (m - 64)) := by
        have e : bcells (fun i => T (64 * (j + 1) + i)) (m - 64) = bcells (fun i => F (64 + i)) (m - 64) := by
          rw [← HX.out.2.2]
          exact bcells_congr fun i _ => by
            show T _ = T _
            congr 1
            omega
        rw [e]
        refine ⟨by rw [bcells_len, Nat.mul_one], by omega, (fun h => by split at h <;> cases h), (fun ad ha i u hu => ?_), bcells_one _ _⟩
        have hi : i < m - 64 := by
          have := (List.getElem?_eq_some_iff.1 hu).1
          rwa [bcells_len] at this
        rw [bcells_get _ _ _ hi] at hu
        have hc := (HR5.out.cells _ rfl (64 + i) _ (bcells_get F m (64 + i) (by omega))).2
        split at ha
        · omega
        · cases ha
          refine ⟨rfl, ?_⟩
          rw [← hu, Nat.add_assoc]
          exact hc
      have HFin : Hid (WrRel w ⟨a0, b0, c0, d0, e0, f0, g0, h0⟩ T tot (.slice a1 n1 c1) N2 (.slice (if c = 64 then some ⟨g, off, none⟩ else some ⟨g, off + 64, none⟩) (m - 64) (c - 64)) (wset8 w3 w.heap.size t'.a t'.b t'.c t'.d t'.e t'.f t'.g t'.h)) := by
        refine ⟨j + 1, m - 64, c - 64, _, by omega, rfl, hB5, hrow, fun ad ha => ?_, ?_⟩
        · split at ha <;> (cases ha; exact hgl)
        · rw [HX.out.2.1]
          exact HM5.out
      clear hB5 hrow hB3
      by_cases hcc : c = 64
      · rw [if_pos hcc] at HFin
        have HCc := Lib.hid hcc
        clear hcc
        go_wp2
        simp only [if_pos HCc.out]
        exact ⟨HFin.out, by show m - 64 < m; omega⟩
      · rw [if_neg hcc] at HFin
        go_wp2
        exact ⟨HFin.out, by show m - 64 < m; omega⟩
    · have htm : tot % 64 = m := by omega
      have htj : tot / 64 = j := by omega
      have HCl := Lib.hid (fun (x : World) (hb : Below wr.heap.size wr x) => clone_any ao m c _ x (hr.later hb) (by omega))
      obtain ⟨F, hF'⟩ : ∃ F : Nat → Int, (fun i => T (64 * j + i)) = F := ⟨_, rfl⟩
      obtain ⟨t, ht⟩ : ∃ t, blks ⟨a0, b0, c0, d0, e0, f0, g0, h0⟩ T j = t := ⟨_, rfl⟩
      rw [ht] at hm
      rw [hF'] at HCl
      have HTJ := Lib.hid (And.intro htm (And.intro htj (And.intro hF' ht)))
      have HM := Lib.hid hm
      have hBB := Lib.hid hB
      have hm64 : ¬ (64 : Int) ≤ (m : Int) := by omega
      have hmlt : (m : Int) < 64 := by omega
      clear hr hm ht hF' hlt hB htm htj htot
      obtain ⟨ta, tb, tc, td, te, tf, tg, th⟩ := t
      go_wp2_with (go_at_call 47; refine (HCl.out _ (Below.refl _ _)).mono ?_; rintro e w3 ⟨ao', cap', rfl, hown, hb3⟩; have HM3 := Lib.hid (Mem.later hb3 HM.out); have HO3 := Lib.hid hown; have HB3 := Lib.hid (bl_then hBB.out hb3); have HZ3 := Lib.hid (hb3.size); have hF := HM3.out; (simp only [Mem, cellsAt, stL, Nat.zero_add, Nat.reduceAdd, and_true] at hF); clear hown hb3)
      have hw1 : w.heap.size + 1 < wr.heap.size := HM.out.2.1.1
      have D3 : Hid (∀ p ∈ [(w.heap.size + 1, stL ⟨0, 0, 0, 0, 0, 0, 0, 0⟩ (.slice none 0 0) 0)], p.1 ≠ w.heap.size) := by
        intro p hp; simp at hp; subst hp; simp
      have h8 := Mem.setN (k := 8) (v := .slice ao' m cap') D3.out HM3.out
      have hR := Mem.over (us := stL ⟨ta, tb, tc, td, te, tf, tg, th⟩ (.slice ao' m cap') N2) (b := w.heap.size + 1) (L := []) (by simp) ⟨h8.2.1, trivial⟩ rfl
      have hBl := bl_setCellsW (b := w.heap.size + 1) (Nat.le_succ _) (stL ⟨ta, tb, tc, td, te, tf, tg, th⟩ (.slice ao' m cap') N2) 0 _ (HB3.out.setCell (p := ⟨w.heap.size, 8, none⟩) (Nat.le_refl _) (.slice ao' m cap'))
      have hRr := rangeAt_of hR.1.2.2
      have hO : OwnN w.heap.size 5 1 ((w3.setCell ⟨w.heap.size, 8, none⟩ (.slice ao' m cap')).setCells (w.heap.size + 1) 0 (stL ⟨ta, tb, tc, td, te, tf, tg, th⟩ (.slice ao' m cap') N2)) ao' m cap' (bcells F m) := by
        refine OwnN.kept (HO3.out.base (by omega)) fun g hg => ?_
        have hge : wr.heap.size ≤ g := by
          rcases HO3.out with ⟨h, _⟩ | ⟨g', h, ho⟩
          · rw [h] at hg; cases hg
          · rw [h] at hg; cases hg
            exact (ho.lt g rfl).1
        rw [heap_setCellsW _ _ (by omega)]
        exact Below.heap_setCell _ _ _ _ (by show g ≠ w.heap.size; omega)
      clear hR h8 hF
      change bodyPost _ _ _ _ _ ((w3.setCell ⟨w.heap.size, 8, none⟩ (.slice ao' m cap')).setCells (w.heap.size + 1) 0 (stL ⟨ta, tb, tc, td, te, tf, tg, th⟩ (.slice ao' m cap') N2))
      generalize (w3.setCell ⟨w.heap.size, 8, none⟩ (.slice ao' m cap')).setCells (w.heap.size + 1) 0 (stL ⟨ta, tb, tc, td, te, tf, tg, th⟩ (.slice ao' m cap') N2) = wf at *
      have hl := Go.run_loadVar_mid (P := Tryd.prog) wf (w.heap.size + 1) 0 86 (stL ⟨ta, tb, tc, td, te, tf, tg, th⟩ (.slice ao' m cap') N2) _ hRr Tryd.underlying86 rfl (by kernel_rfl)
      refine bodyPost_ret (v := .agg (stL ⟨ta, tb, tc, td, te, tf, tg, th⟩ (.slice ao' m cap') N2).toArray) (by simp [results, Tryd.results39, asAddr, hl, Act.put]) rfl ?_
      obtain ⟨k1, k2, k3, k4⟩ := HTJ.out
      rw [k1, k2, k3, k4, hN2]
      exact ⟨ao', cap', rfl, hO, hBl⟩
end Go.Proofs.YtfbhpkhpkaeagaaDoor

/- SHA-256: Write of a state that may be, End. (hM) -/
namespace Go.Proofs.YtfbhpkhpkaeagaaDoor
set_option linter.unusedVariables false
set_option linter.unusedSimpArgs false
open Go.RowKit

theorem write_yes (s : S8) (a1 a2 : Option Addr) (n1 c1 n2 c2 : Nat) (N : Int) (f1 f2 : Nat → Int) (w : World) (hT : Tab w) (hs : (n1 : Int) = N % 64)
    (hr1 : Row w a1 n1 c1 1 (bcells f1 n1)) (hr2 : Row w a2 n2 c2 1 (bcells f2 n2)) (hf1 : ∀ i, 0 ≤ f1 i ∧ f1 i < 256) (hf2 : ∀ i, 0 ≤ f2 i ∧ f2 i < 256) (hn : n2 ≤ 70368744177664) (hN : 0 ≤ N ∧ N < WI) :
    Calls Tryd.prog 39 #[stV s (.slice a1 n1 c1) N, .slice a2 n2 c2] w fun e w' => ∃ ao cap, e = .returned (stV (blks s (catF f1 n1 f2) ((n1 + n2) / 64)) (.slice ao ((n1 + n2) % 64) cap) (IntKind.u64.wrap (N + (n2 : Int)))) ∧
      OwnN w.heap.size 5 1 w' ao ((n1 + n2) % 64) cap (bcells (fun i => catF f1 n1 f2 (64 * ((n1 + n2) / 64) + i)) ((n1 + n2) % 64)) ∧ Below w.heap.size w w' :=
  write_of s a1 n1 c1 N s a1 a2 n1 c1 n2 c2 N f1 f2 w hT (fun x _ => sane_yes s a1 n1 c1 N hN.1 hs x) hr1 hr2 hf1 hf2 (by omega) hN

theorem padF_b (n : Int) (k i : Nat) : 0 ≤ padF n k i ∧ padF n k i < 256 := by
  unfold padF
  split
  · omega
  · split
    · rw [IntKind.wrap_u8]; omega
    · omega
theorem padN_le (n : Nat) : 9 ≤ padN n ∧ padN n ≤ 72 := by unfold padN; omega
theorem padN_whole (n : Nat) : (n % 64 + padN n) % 64 = 0 := by unfold padN; omega
/-- what is laid of the sum -/
def outP (t : S8) (j i : Nat) : Int := if i < 4 * j then outF t i else 0
def EndRel (w : World) (gs : Nat) (t : S8) (i : Value) (wr : World) : Prop :=
  ∃ j : Nat, j ≤ 8 ∧ i = .int .i64 j ∧ Below w.heap.size w wr ∧ Mem wr [(gs, bcells (outP t j) 32), (w.heap.size + 1, bcells (fun _ => 0) 32)]

def EndMid (w : World) (t : S8) (wx : World) : Prop :=
  ∃ (ao : Option Addr) (cap : Nat) (N : Int), Below w.heap.size w wx ∧ Mem wx [(w.heap.size, stL t (.slice ao 0 cap) N), (w.heap.size + 1, bcells (fun _ => 0) 32)]

set_option maxRecDepth 100000 in
set_option maxHeartbeats 4000000 in
theorem end_of (v0 : S8) (vao : Option Addr) (vn vc : Nat) (vN : Int) (s : S8) (a1 : Option Addr) (n1 c1 : Nat) (N : Nat) (f1 : Nat → Int) (w : World) (hT : Tab w)
    (hS : ∀ x, Below w.heap.size w x → Calls Tryd.prog 43 #[stV v0 (.slice vao vn vc) vN] x fun e w' => e = .returned (stV s (.slice a1 n1 c1) N) ∧ Below x.heap.size x w')
    (hr1 : Row w a1 n1 c1 1 (bcells f1 n1)) (hf1 : ∀ i, 0 ≤ f1 i ∧ f1 i < 256) (hn : n1 = N % 64) (hN : N < 18446744073709551616) :
    Calls Tryd.prog 38 #[stV v0 (.slice vao vn vc) vN] w fun e w' => e = .returned (.agg (bcells (outF (blks s (catF f1 n1 (padF N (padN N))) ((n1 + padN N) / 64))) 32).toArray) ∧ Below w.heap.size w w' := by
  have hpl := padN_le N
  have hpw := padN_whole N
  rw [← hn] at hpw
  have hWr := fun (x : World) (hb : Below w.heap.size w x) (a2 : Option Addr) (c2 : Nat) (h2 : Row x a2 (padN N) c2 1 (bcells (padF N (padN N)) (padN N))) =>
    write_yes s a1 a2 n1 c1 (padN N) c2 N f1 (padF N (padN N)) x (hT.later hb) (by omega) (hr1.later hb) h2 hf1 (padF_b _ _) (by omega) ⟨by omega, by unfold WI; omega⟩
  have HPad := Lib.hid (fun w => pad_any N hN w)
  obtain ⟨t, ht⟩ : ∃ t, blks s (catF f1 n1 (padF N (padN N))) ((n1 + padN N) / 64) = t := ⟨_, rfl⟩
  rw [hpw] at hWr
  rw [ht] at hWr ⊢
  obtain ⟨P, hP⟩ : ∃ P, padN N = P := ⟨_, rfl⟩
  rw [hP] at hWr HPad
  have HWr := Lib.hid hWr
  have HS := Lib.hid hS
  clear hWr hS hT hr1 hf1 hn hpw hpl ht hP
  obtain ⟨a0, b0, c0, d0, e0, f0, g0, h0⟩ := s
  obtain ⟨p0, p1, p2, p3, p4, p5, p6, p7⟩ := v0
  have hB := Below.refl w.heap.size w
  have hM := Lib.hid (mem_nil w)
  have hF : True := trivial
  go_enter Tryd.func38, Tryd.ntmps38
  go_wp2_with (first | (go_at_call 43; ((with_reducible refine (HS.out _ (by (repeat (first | exact hB | refine bl_al ?_ _ | refine Below.setCell ?_ (by first | exact hgs | exact Nat.le_succ_of_le hgs | exact hgs2 | exact hgs3) _ | refine Below.drew ?_ | refine bl_drewN ?_ _)))).mono ?_); rintro e w1 ⟨rfl, hb⟩; have hB : Below w.heap.size w w1 := (by refine bl_then ?_ hb; (repeat (first | exact hB | refine bl_al ?_ _ | refine Below.setCell ?_ (by first | exact hgs | exact Nat.le_succ_of_le hgs | exact hgs2 | exact hgs3) _ | refine Below.drew ?_ | refine bl_drewN ?_ _))); (first | with_reducible have hM2 := Mem.later hb (hM.out) | with_reducible have hM2 := Mem.later hb (Mem.al (hM.out) _ _) | with_reducible have hM2 := Mem.later hb (Mem.al (Mem.al (hM.out) _ _) _ _) | with_reducible have hM2 := Mem.later hb (Mem.al (Mem.al (Mem.al (hM.out) _ _) _ _) _ _) | with_reducible have hM2 := Mem.later hb (Mem.al (Mem.al (Mem.al (Mem.al (hM.out) _ _) _ _) _ _) _ _) | with_reducible have hM2 := Mem.later hb (Mem.drew (hM.out)) | with_reducible have hM2 := Mem.later hb (Mem.drew (Mem.al (hM.out) _ _)) | with_reducible have hM2 := Mem.later hb (Mem.al (Mem.drew (hM.out)) _ _) | with_reducible have hM2 := Mem.later hb (Mem.al (Mem.drew (Mem.al (hM.out) _ _)) _ _) | with_reducible have hM2 := Mem.later hb (Mem.drew (Mem.al (Mem.al (hM.out) _ _) _ _)) | with_reducible have hM2 := Mem.later hb (Mem.al (Mem.al (Mem.drew (hM.out)) _ _) _ _) | with_reducible have hM2 := Mem.later hb (Mem.drew (Mem.drew (hM.out))) | with_reducible have hM2 := Mem.later hb (Mem.drew (Mem.al (Mem.drew (hM.out)) _ _)) | with_reducible have hM2 := Mem.later hb (Mem.drew (Mem.al (Mem.al (Mem.al (hM.out) _ _) _ _) _ _)) | with_reducible have hM2 := Mem.later hb (Mem.al (Mem.al (Mem.drew (Mem.al (hM.out) _ _)) _ _) _ _) | with_reducible have hM2 := Mem.later hb (Mem.drew (Mem.al (Mem.drew (Mem.al (hM.out) _ _)) _ _)) | with_reducible have hM2 := Mem.later hb (Mem.al (Mem.al (Mem.al (Mem.al (Mem.al (hM.out) _ _) _ _) _ _) _ _) _ _) | with_reducible have hM2 := Mem.later hb (Mem.al (Mem.al (Mem.al (Mem.al (Mem.al (Mem.al (hM.out) _ _) _ _) _ _) _ _) _ _) _ _) | with_reducible have hM2 := Mem.later hb (Mem.al (Mem.al (Mem.al (Mem.al (Mem.al (Mem.al (Mem.al (hM.out) _ _) _ _) _ _) _ _) _ _) _ _) _ _) | with_reducible have hM2 := Mem.later hb (Mem.al (Mem.al (Mem.al (Mem.al (Mem.al (Mem.al (Mem.al (Mem.al (hM.out) _ _) _ _) _ _) _ _) _ _) _ _) _ _) _ _)); (try simp only [World.size_alloc, size_drew] at hM2); clear hM; have hM := Lib.hid hM2; clear hF; have hF := hM2; (try simp only [Mem, cellsAt, World.size_alloc, Nat.zero_add, Nat.reduceAdd, and_true] at hF); clear hM2; clear hb)))
  have D1 : Hid (∀ p ∈ [(w.heap.size + 1, bcells (fun _ => 0) 32)], p.1 ≠ w.heap.size) := by
    intro p hp; simp at hp; subst hp; simp
  have hMW : Mem (w1.setCells w.heap.size 0 (stL ⟨a0, b0, c0, d0, e0, f0, g0, h0⟩ (.slice a1 n1 c1) N)) [(w.heap.size, stL ⟨a0, b0, c0, d0, e0, f0, g0, h0⟩ (.slice a1 n1 c1) N), (w.heap.size + 1, bcells (fun _ => 0) 32)] := Mem.over D1.out (vs := [.int .u32 p0, .int .u32 p1, .int .u32 p2, .int .u32 p3, .int .u32 p4, .int .u32 p5, .int .u32 p6, .int .u32 p7, .slice vao vn vc, .int .u64 vN]) ⟨hM.out.2.1, hM.out.1, trivial⟩ rfl
  have hBW : Below w.heap.size w (w1.setCells w.heap.size 0 (stL ⟨a0, b0, c0, d0, e0, f0, g0, h0⟩ (.slice a1 n1 c1) N)) := bl_setCellsW (Nat.le_refl _) _ _ _ hB
  clear hB hM hF
  change Code.wp _ _ _ _ (w1.setCells w.heap.size 0 (stL ⟨a0, b0, c0, d0, e0, f0, g0, h0⟩ (.slice a1 n1 c1) N))
  generalize w1.setCells w.heap.size 0 (stL ⟨a0, b0, c0, d0, e0, f0, g0, h0⟩ (.slice a1 n1 c1) N) = W at *
  have HMW := Lib.hid hMW
  have HBW := Lib.hid hBW
  have hF := hMW.1
  simp only [cellsAt, stL, Nat.zero_add, Nat.reduceAdd, and_true] at hF
  clear hMW hBW
  go_cut [] from 9 to 13 (fun wx => EndMid w t wx)
  case first =>
    refine wp_fork (fun _ => True) [0, 2, 3, 4, 5] (nodes [1] (.fork 0 2 (nodes [2, 3, 4, 5] .leaf) (.fork 0 3 (nodes [3, 4, 5] .leaf) (nodes [0, 4, 5] .leaf)))) (by kernel_rfl) (by kernel_rfl) trivial (fun hHeld => ?_)
    iterate 1 (refine wpF_take rfl (by rfl) (by rfl) (by intro w' hSw; (try dsimp only [Mem, cellsAt] at hSw); go_simp; (try with_reducible rfl)) (by assumption) ?_; (try simp only [Act.put, List.setIfInBounds_toArray, List.set_cons_zero, List.set_cons_succ]))
    (refine wpF_fork rfl rfl (fun K hK => ?_) (fun K hK => ?_) <;> go_simp)
    · (refine hK.out _ _ _ (fun _ h => h) (trivial) (fun hHeld => ?_); clear hK; clear K; (try simp only [Act.put, List.setIfInBounds_toArray, List.set_cons_zero, List.set_cons_succ]))
      (refine wpF_step rfl (by rfl) (fun K hK => ?_); go_simp)
      (refine hK.out _ _ _ (fun _ h => h) (trivial) (fun hHeld => ?_); clear hK; clear K; (try simp only [Act.put, List.setIfInBounds_toArray, List.set_cons_zero, List.set_cons_succ]))
      (refine wpF_step rfl (by rfl) (fun K hK => ?_); go_simp)
      refine (HPad.out _).mono ?_
      rintro e w2 ⟨rfl, ho2, hb2⟩
      have HM2 := Lib.hid (Mem.later hb2 (Mem.drew HMW.out))
      have HB2 := Lib.hid (bl_then HBW.out.drew hb2)
      have HO2 := Lib.hid ho2.row
      have hF2 := HM2.out.1
      simp only [cellsAt, stL, Nat.zero_add, Nat.reduceAdd, and_true] at hF2
      clear ho2 hb2
      (refine hK.out _ _ _ (fun _ h => h) (trivial) (fun hHeld => ?_); clear hK; clear K; (try simp only [Act.put, List.setIfInBounds_toArray, List.set_cons_zero, List.set_cons_succ]))
      (refine wpF_step rfl (by rfl) (fun K hK => ?_); go_simp)
      refine (HWr.out _ HB2.out _ _ HO2.out).mono ?_
      rintro e w3 ⟨ao, cap, rfl, _, hb3⟩
      have HM3 := Lib.hid (Mem.later hb3 HM2.out)
      have HB3 := Lib.hid (bl_then HB2.out hb3)
      have hF3 := HM3.out.1
      simp only [cellsAt, stL, Nat.zero_add, Nat.reduceAdd, and_true] at hF3
      clear hb3 hF2
      (refine hK.out _ _ _ (fun _ h => h) (trivial) (fun hHeld => ?_); clear hK; clear K; (try simp only [Act.put, List.setIfInBounds_toArray, List.set_cons_zero, List.set_cons_succ]))
      (refine wpF_step rfl (by rfl) (fun K hK => ?_); go_simp)
      (refine hK.out _ _ _ (fun _ h => h) (trivial) (fun hHeld => ?_); clear hK; clear K; (try simp only [Act.put, List.setIfInBounds_toArray, List.set_cons_zero, List.set_cons_succ]))
      (refine wpF_nil ?_)
      go_wp2
      go_meet
      exact ⟨ao, cap, _, bl_setCellsW (b := w.heap.size) (Nat.le_refl _) (stL t (.slice ao 0 cap) _) 0 w3 HB3.out, Mem.over (us := stL t (.slice ao 0 cap) _) D1.out HM3.out rfl⟩
    · (refine hK.out _ _ _ (fun _ h => h) (trivial) (fun hHeld => ?_); clear hK; clear K; (try simp only [Act.put, List.setIfInBounds_toArray, List.set_cons_zero, List.set_cons_succ]))
      (refine wpF_fork rfl rfl (fun K hK => ?_) (fun K hK => ?_) <;> go_simp)
      · (refine hK.out _ _ _ (fun _ h => h) (trivial) (fun hHeld => ?_); clear hK; clear K; (try simp only [Act.put, List.setIfInBounds_toArray, List.set_cons_zero, List.set_cons_succ]))
        (refine wpF_step rfl (by rfl) (fun K hK => ?_); go_simp)
        refine (HPad.out _).mono ?_
        rintro e w2 ⟨rfl, ho2, hb2⟩
        have HM2 := Lib.hid (Mem.later hb2 (Mem.drew HMW.out))
        have HB2 := Lib.hid (bl_then HBW.out.drew hb2)
        have HO2 := Lib.hid ho2.row
        have hF2 := HM2.out.1
        simp only [cellsAt, stL, Nat.zero_add, Nat.reduceAdd, and_true] at hF2
        clear ho2 hb2
        (refine hK.out _ _ _ (fun _ h => h) (trivial) (fun hHeld => ?_); clear hK; clear K; (try simp only [Act.put, List.setIfInBounds_toArray, List.set_cons_zero, List.set_cons_succ]))
        (refine wpF_step rfl (by rfl) (fun K hK => ?_); go_simp)
        refine (HWr.out _ HB2.out _ _ HO2.out).mono ?_
        rintro e w3 ⟨ao, cap, rfl, _, hb3⟩
        have HM3 := Lib.hid (Mem.later hb3 HM2.out)
        have HB3 := Lib.hid (bl_then HB2.out hb3)
        have hF3 := HM3.out.1
        simp only [cellsAt, stL, Nat.zero_add, Nat.reduceAdd, and_true] at hF3
        clear hb3 hF2
        (refine hK.out _ _ _ (fun _ h => h) (trivial) (fun hHeld => ?_); clear hK; clear K; (try simp only [Act.put, List.setIfInBounds_toArray, List.set_cons_zero, List.set_cons_succ]))
        (refine wpF_step rfl (by rfl) (fun K hK => ?_); go_simp)
        (refine hK.out _ _ _ (fun _ h => h) (trivial) (fun hHeld => ?_); clear hK; clear K; (try simp only [Act.put, List.setIfInBounds_toArray, List.set_cons_zero, List.set_cons_succ]))
        (refine wpF_nil ?_)
        go_wp2
        go_meet
        exact ⟨ao, cap, _, bl_setCellsW (b := w.heap.size) (Nat.le_refl _) (stL t (.slice ao 0 cap) _) 0 w3 HB3.out, Mem.over (us := stL t (.slice ao 0 cap) _) D1.out HM3.out rfl⟩
      · refine (HPad.out _).mono ?_
        rintro e w2 ⟨rfl, ho2, hb2⟩
        have HM2 := Lib.hid (Mem.later hb2 (Mem.drew HMW.out))
        have HB2 := Lib.hid (bl_then HBW.out.drew hb2)
        have HO2 := Lib.hid ho2.row
        have hF2 := HM2.out.1
        simp only [cellsAt, stL, Nat.zero_add, Nat.reduceAdd, and_true] at hF2
        clear ho2 hb2
        (refine hK.out _ _ _ (fun _ h => h) (trivial) (fun hHeld => ?_); clear hK; clear K; (try simp only [Act.put, List.setIfInBounds_toArray, List.set_cons_zero, List.set_cons_succ]))
        (refine wpF_step rfl (by rfl) (fun K hK => ?_); go_simp)
        (refine hK.out _ _ _ (fun _ h => h) (trivial) (fun hHeld => ?_); clear hK; clear K; (try simp only [Act.put, List.setIfInBounds_toArray, List.set_cons_zero, List.set_cons_succ]))
        (refine wpF_step rfl (by rfl) (fun K hK => ?_); go_simp)
        refine (HWr.out _ HB2.out _ _ HO2.out).mono ?_
        rintro e w3 ⟨ao, cap, rfl, _, hb3⟩
        have HM3 := Lib.hid (Mem.later hb3 HM2.out)
        have HB3 := Lib.hid (bl_then HB2.out hb3)
        have hF3 := HM3.out.1
        simp only [cellsAt, stL, Nat.zero_add, Nat.reduceAdd, and_true] at hF3
        clear hb3 hF2
        (refine hK.out _ _ _ (fun _ h => h) (trivial) (fun hHeld => ?_); clear hK; clear K; (try simp only [Act.put, List.setIfInBounds_toArray, List.set_cons_zero, List.set_cons_succ]))
        (refine wpF_step rfl (by rfl) (fun K hK => ?_); go_simp)
        (refine hK.out _ _ _ (fun _ h => h) (trivial) (fun hHeld => ?_); clear hK; clear K; (try simp only [Act.put, List.setIfInBounds_toArray, List.set_cons_zero, List.set_cons_succ]))
        (refine wpF_nil ?_)
        go_wp2
        go_meet
        exact ⟨ao, cap, _, bl_setCellsW (b := w.heap.size) (Nat.le_refl _) (stL t (.slice ao 0 cap) _) 0 w3 HB3.out, Mem.over (us := stL t (.slice ao 0 cap) _) D1.out HM3.out rfl⟩
  case rest =>
    obtain ⟨ao, cap, N', hB, hm⟩ := hcut
    have HM := Lib.hid hm
    have hF := hm.1
    obtain ⟨ta, tb, tc, td, te, tf, tg, th⟩ := t
    simp only [cellsAt, stL, Nat.zero_add, Nat.reduceAdd, and_true] at hF
    have hlt0 := hm.1.1
    clear hm HMW HBW HS HWr HPad
    go_wp2
    obtain ⟨gs, hgs⟩ : ∃ g, wc.heap.size = g := ⟨_, rfl⟩
    have hM2 := Mem.al HM.out (bcells (fun _ => 0) 32) 24
    rw [hgs] at hM2 hF
    simp only [hgs]
    have HM2 := Lib.hid hM2
    have hlt1 : w.heap.size + 1 < gs := by rw [← hgs]; exact HM.out.2.1.1
    have HB2 := Lib.hid (bl_al hB (.cells (bcells (fun _ => 0) 32).toArray 24))
    have HGS := Lib.hid hgs
    clear hM2 hB hgs hF
    go_loopw [16] (fun i wr => EndRel w gs ⟨ta, tb, tc, td, te, tf, tg, th⟩ i wr) (fun i _ => 8 - (intOf i).toNat)
    case atStart =>
      refine ⟨0, Nat.zero_le _, rfl, HB2.out, ?_⟩
      rw [bcells_congr (g := fun _ => 0) (fun i _ => by unfold outP; rw [if_neg (by omega)])]
      exact ⟨HM2.out.1, HM2.out.2.2.1, trivial⟩
    case round =>
      obtain ⟨j, hj, rfl, hB, hm⟩ := hrel
      by_cases hlt : j < 8
      · have hidx : ∀ w : World, (Instr.index 84 (.agg #[.int .u32 ta, .int .u32 tb, .int .u32 tc, .int .u32 td, .int .u32 te, .int .u32 tf, .int .u32 tg, .int .u32 th]) (.int .i64 (j : Int))).run Tryd.prog w = .ok (.int .u32 ((⟨ta, tb, tc, td, te, tf, tg, th⟩ : S8).at j)) w := by
          have hcase : j = 0 ∨ j = 1 ∨ j = 2 ∨ j = 3 ∨ j = 4 ∨ j = 5 ∨ j = 6 ∨ j = 7 := by omega
          rcases hcase with rfl | rfl | rfl | rfl | rfl | rfl | rfl | rfl <;> (intro w; kernel_rfl)
        obtain ⟨x, hx⟩ : ∃ x, (⟨ta, tb, tc, td, te, tf, tg, th⟩ : S8).at j = x := ⟨_, rfl⟩
        rw [hx] at hidx
        obtain ⟨q, hq⟩ : ∃ q, 4 * j = q := ⟨_, rfl⟩
        obtain ⟨q1, hq1⟩ : ∃ p, q + 1 = p := ⟨_, rfl⟩
        obtain ⟨q2, hq2⟩ : ∃ p, q + 2 = p := ⟨_, rfl⟩
        obtain ⟨q3, hq3⟩ : ∃ p, q + 3 = p := ⟨_, rfl⟩
        have t0 : IntKind.i64.wrap (4 * (j : Int)) = (q : Int) := by rw [IntKind.wrap_i64]; omega
        have t1 : IntKind.i64.wrap ((q : Int) + 1) = (q1 : Int) := by rw [IntKind.wrap_i64]; omega
        have t2 : IntKind.i64.wrap ((q : Int) + 2) = (q2 : Int) := by rw [IntKind.wrap_i64]; omega
        have t3 : IntKind.i64.wrap ((q : Int) + 3) = (q3 : Int) := by rw [IntKind.wrap_i64]; omega
        have l0 : (q : Int) < 32 := by omega
        have l1 : (q1 : Int) < 32 := by omega
        have l2 : (q2 : Int) < 32 := by omega
        have l3 : (q3 : Int) < 32 := by omega
        have hc : ∀ k, k < 32 → wr.cell? ⟨gs, k, none⟩ = some (.int .u8 (outP ⟨ta, tb, tc, td, te, tf, tg, th⟩ j k)) := fun k hk => cellsAt_get hm.1.2.2 (bcells_get _ 32 k hk)
        have d0 := hc q (by omega)
        have d1 := hc q1 (by omega)
        have d2 := hc q2 (by omega)
        have d3 := hc q3 (by omega)
        have hz := hm.1.2.1
        have HMr := Lib.hid hm
        have HQ := Lib.hid (And.intro hx (And.intro hq (And.intro hq1 (And.intro hq2 hq3))))
        have n01 : q ≠ q1 := by omega
        have n02 : q ≠ q2 := by omega
        have n03 : q ≠ q3 := by omega
        have n12 : q1 ≠ q2 := by omega
        have n13 : q1 ≠ q3 := by omega
        have n23 : q2 ≠ q3 := by omega
        clear hm hc hx hq hq1 hq2 hq3
        go_wp2
        refine wp_loop_rounds 5 ?_
        rw [rounds_succ]
        go_wp2
        rw [rounds_succ]
        go_wp2
        rw [rounds_succ]
        go_wp2
        rw [rounds_succ]
        go_wp2
        rw [rounds_succ]
        go_wp2
        obtain ⟨hx, hq, hq1, hq2, hq3⟩ := HQ.out
        have o0 : outF ⟨ta, tb, tc, td, te, tf, tg, th⟩ q = x / 16777216 % 256 := by
          unfold outF
          rw [show q / 4 = j by omega, show q % 4 = 0 by omega, hx]
          exact IntKind.wrap_u8 _
        have o1 : outF ⟨ta, tb, tc, td, te, tf, tg, th⟩ q1 = x / 65536 % 256 := by
          unfold outF
          rw [show q1 / 4 = j by omega, show q1 % 4 = 1 by omega, hx]
          exact IntKind.wrap_u8 _
        have o2 : outF ⟨ta, tb, tc, td, te, tf, tg, th⟩ q2 = x / 256 % 256 := by
          unfold outF
          rw [show q2 / 4 = j by omega, show q2 % 4 = 2 by omega, hx]
          exact IntKind.wrap_u8 _
        have o3 : outF ⟨ta, tb, tc, td, te, tf, tg, th⟩ q3 = x % 256 := by
          unfold outF
          rw [show q3 / 4 = j by omega, show q3 % 4 = 3 by omega, hx]
          rw [show (2 : Int) ^ (24 - 8 * 3) = 1 by decide, Int.ediv_one]
          exact IntKind.wrap_u8 _
        have D4 : ∀ p ∈ [(w.heap.size + 1, bcells (fun _ => 0) 32)], p.1 ≠ gs := by
          intro p hp; simp at hp; subst hp; dsimp only; omega
        have hR := Mem.setN (k := q3) (v := .int .u8 (x % 256)) D4 (Mem.setN (k := q2) (v := .int .u8 (x / 256 % 256)) D4 (Mem.setN (k := q1) (v := .int .u8 (x / 65536 % 256)) D4 (Mem.setN (k := q) (v := .int .u8 (x / 16777216 % 256)) D4 HMr.out)))
        rw [bcells_set, bcells_set, bcells_set, bcells_set] at hR
        have e : bcells (setF (setF (setF (setF (outP ⟨ta, tb, tc, td, te, tf, tg, th⟩ j) q (x / 16777216 % 256)) q1 (x / 65536 % 256)) q2 (x / 256 % 256)) q3 (x % 256)) 32 = bcells (outP ⟨ta, tb, tc, td, te, tf, tg, th⟩ (j + 1)) 32 := by
          refine bcells_congr fun i _ => ?_
          unfold setF
          by_cases h3 : i = q3
          · rw [if_pos h3, h3, ← o3]; unfold outP; rw [if_pos (by omega)]
          rw [if_neg h3]
          by_cases h2 : i = q2
          · rw [if_pos h2, h2, ← o2]; unfold outP; rw [if_pos (by omega)]
          rw [if_neg h2]
          by_cases h1 : i = q1
          · rw [if_pos h1, h1, ← o1]; unfold outP; rw [if_pos (by omega)]
          rw [if_neg h1]
          by_cases h0 : i = q
          · rw [if_pos h0, h0, ← o0]; unfold outP; rw [if_pos (by omega)]
          rw [if_neg h0]
          unfold outP
          by_cases hi : i < 4 * j
          · rw [if_pos hi, if_pos (by omega)]
          · rw [if_neg hi, if_neg (by omega)]
        rw [e] at hR
        have hgw : w.heap.size ≤ gs := by omega
        exact ⟨⟨j + 1, by omega, by go_num, (((hB.setCell hgw _).setCell hgw _).setCell hgw _).setCell hgw _, hR⟩, by simp [intOf]; omega⟩
      · have hje : j = 8 := by omega
        subst hje
        have h8 : ((8 : Nat) : Int) = 8 := rfl
        rw [h8]
        rw [bcells_congr (g := outF ⟨ta, tb, tc, td, te, tf, tg, th⟩) (fun i hi => by unfold outP; rw [if_pos (by omega)])] at hm
        have HMr := Lib.hid hm
        have HTh := Lib.hid (thereW (n := 32) hm.2.1 (by rw [bcells_len]; exact Nat.le_refl _))
        clear hm
        go_wp2_with (first | (refine Go.wpList_load_mid rfl 24 (.tmp 3) rfl gs 0 rfl (bcells (outF ⟨ta, tb, tc, td, te, tf, tg, th⟩) 32) _ (rangeAt_of HMr.out.1.2.2) Tryd.underlying24 rfl (by rw [bcells_len]; kernel_rfl) ?_) | (refine Go.wpList_store_mid rfl 24 (.tmp 2) (.tmp 36) rfl (w.heap.size + 1) 0 (bcells (outF ⟨ta, tb, tc, td, te, tf, tg, th⟩) 32).toArray rfl rfl (by simpa [bcells_len] using HTh.out) (by simp only [List.size_toArray, bcells_len]; kernel_rfl) (Go.all_oneCell_toArray (bcells_one _ 32)) ?_))
        have hl := Go.run_loadVar_mid (P := Tryd.prog) (wr.setCells (w.heap.size + 1) 0 (bcells (outF ⟨ta, tb, tc, td, te, tf, tg, th⟩) 32)) (w.heap.size + 1) 0 24 (bcells (outF ⟨ta, tb, tc, td, te, tf, tg, th⟩) 32) _ (World.rangeAt_setCells_same wr (w.heap.size + 1) 0 _ (by rw [bcells_len]; exact HTh.out)) Tryd.underlying24 rfl (by rw [bcells_len]; kernel_rfl)
        refine bodyPost_ret (v := .agg (bcells (outF ⟨ta, tb, tc, td, te, tf, tg, th⟩) 32).toArray) (by simp [results, Tryd.results38, asAddr, hl, Act.put]) rfl ⟨rfl, bl_setCellsW (Nat.le_succ _) _ _ _ hB⟩
end Go.Proofs.YtfbhpkhpkaeagaaDoor

/- SHA-256: Sum, Double. (hM) -/
namespace Go.Proofs.YtfbhpkhpkaeagaaDoor
set_option linter.unusedVariables false
set_option linter.unusedSimpArgs false
open Go.RowKit

theorem catF_zero (f g : Nat → Int) : catF f 0 g = g := by
  funext i
  unfold catF
  rw [if_neg (by omega), Nat.sub_zero]
theorem wds_congr {f g : Nat → Int} (h : ∀ i, i < 64 → f i = g i) (t : Nat) : wds f t = wds g t := by
  have h0 : wd0 f 16 = wd0 g 16 := by
    funext k
    unfold wd0
    by_cases hk : k < 16
    · rw [if_pos hk, if_pos hk]
      unfold be4
      rw [h (4 * k) (by omega), h (4 * k + 1) (by omega), h (4 * k + 2) (by omega), h (4 * k + 3) (by omega)]
    · rw [if_neg hk, if_neg hk]
  induction t with
  | zero => exact h0
  | succ t ih =>
    show setF (wds f t) _ _ = setF (wds g t) _ _
    rw [ih]
theorem blk_congr (s : S8) {f g : Nat → Int} (h : ∀ i, i < 64 → f i = g i) : blk s f = blk s g := by
  unfold blk
  rw [wds_congr h]
theorem blks_congr (s : S8) {f g : Nat → Int} : ∀ k, (∀ i, i < 64 * k → f i = g i) → blks s f k = blks s g k
  | 0, _ => rfl
  | k + 1, h => by
    show blk (blks s f k) _ = blk (blks s g k) _
    rw [blks_congr s k fun i hi => h i (by omega)]
    exact blk_congr _ fun i hi => h (64 * k + i) (by omega)
theorem blks_split (s : S8) (f : Nat → Int) (a : Nat) : ∀ b, blks s f (a + b) = blks (blks s f a) (fun i => f (64 * a + i)) b
  | 0 => rfl
  | b + 1 => by
    show blk (blks s f (a + b)) (fun i => f (64 * (a + b) + i)) = blk (blks (blks s f a) (fun i => f (64 * a + i)) b) (fun i => f (64 * a + (64 * b + i)))
    rw [blks_split s f a b]
    refine blk_congr _ fun i _ => ?_
    congr 1
    omega
theorem sha_split (f : Nat → Int) (n : Nat) : outF (blks (blks s0H f (n / 64)) (catF (fun i => f (64 * (n / 64) + i)) (n % 64) (padF n (padN n))) ((n % 64 + padN n) / 64)) = shaF f n := by
  unfold shaF
  have hw := padN_whole n
  have hd : (n + padN n) / 64 = n / 64 + (n % 64 + padN n) / 64 := by omega
  rw [hd, blks_split]
  congr 1
  rw [blks_congr s0H (f := catF f n (padF n (padN n))) (g := f) (n / 64) (fun i hi => by unfold catF; rw [if_pos (by omega)])]
  refine blks_congr _ _ fun i _ => ?_
  unfold catF
  by_cases h : i < n % 64
  · rw [if_pos h, if_pos (by omega)]
  · rw [if_neg h, if_neg (by omega)]
    congr 1
    omega
theorem outF_b (s : S8) (j : Nat) : 0 ≤ outF s j ∧ outF s j < 256 := by
  unfold outF
  rw [IntKind.wrap_u8]
  omega
theorem shaF_b (f : Nat → Int) (n j : Nat) : 0 ≤ shaF f n j ∧ shaF f n j < 256 := outF_b _ _
theorem shaF_congr {f g : Nat → Int} (n : Nat) (h : ∀ i, i < n → f i = g i) : shaF f n = shaF g n := by
  unfold shaF
  rw [blks_congr s0H (f := catF f n (padF n (padN n))) (g := catF g n (padF n (padN n))) _ fun i _ => by
    unfold catF
    by_cases hi : i < n
    · rw [if_pos hi, if_pos hi, h i hi]
    · rw [if_neg hi, if_neg hi]]
theorem end_yes (s : S8) (a1 : Option Addr) (n1 c1 N : Nat) (f1 : Nat → Int) (w : World) (hT : Tab w) (hr1 : Row w a1 n1 c1 1 (bcells f1 n1)) (hf1 : ∀ i, 0 ≤ f1 i ∧ f1 i < 256) (hn : n1 = N % 64) (hN : N < 18446744073709551616) :
    Calls Tryd.prog 38 #[stV s (.slice a1 n1 c1) N] w fun e w' => e = .returned (.agg (bcells (outF (blks s (catF f1 n1 (padF N (padN N))) ((n1 + padN N) / 64))) 32).toArray) ∧ Below w.heap.size w w' :=
  end_of s a1 n1 c1 N s a1 n1 c1 N f1 w hT (fun x _ => sane_yes s a1 n1 c1 N (by omega) (by omega) x) hr1 hf1 hn hN

theorem row_ofW {w : World} {b n : Nat} {f : Nat → Int} (h : cellsAt w b 0 (bcells f n)) : Row w (some ⟨b, 0, none⟩) n n 1 (bcells f n) :=
  ⟨by rw [bcells_len, Nat.mul_one], Nat.le_refl _, (fun h => by cases h), (fun ad ha i u hu => by
    simp only [Option.some.injEq] at ha
    subst ha
    refine ⟨rfl, ?_⟩
    rw [Nat.zero_add]
    exact cellsAt_get h hu), bcells_one f n⟩
abbrev h32 (f : Nat → Int) : Value := .agg (bcells f 32).toArray
set_option maxRecDepth 100000 in
set_option maxHeartbeats 2000000 in
theorem sum_any (ao : Option Addr) (n c : Nat) (f : Nat → Int) (w : World) (hT : Tab w) (hr : Row w ao n c 1 (bcells f n)) (hf : ∀ i, 0 ≤ f i ∧ f i < 256) (hn : n ≤ 70368744177664) :
    Calls Tryd.prog 32 #[.slice ao n c] w fun e w' => e = .returned (h32 (shaF f n)) ∧ Below w.heap.size w w' := by
  have HSt := Lib.hid (fun (x : World) (hb : Below w.heap.size w x) => start_any x (hT.later hb))
  have hWr := fun (x : World) (hb : Below w.heap.size w x) => write_yes s0H none ao 0 0 n c 0 (fun _ => 0) f x (hT.later hb) rfl (row_nil x 1) (hr.later hb) (fun _ => by simp) hf hn ⟨by omega, by decide⟩
  simp only [catF_zero, Nat.zero_add, Int.zero_add] at hWr
  have hw : IntKind.u64.wrap (n : Int) = (n : Int) := by rw [IntKind.wrap_u64]; omega
  rw [hw] at hWr
  have hEnd := fun (x : World) (hb : Below w.heap.size w x) (a1 : Option Addr) (c1 : Nat) (h1 : Row x a1 (n % 64) c1 1 (bcells (fun i => f (64 * (n / 64) + i)) (n % 64))) =>
    end_yes (blks s0H f (n / 64)) a1 (n % 64) c1 n (fun i => f (64 * (n / 64) + i)) x (hT.later hb) h1 (fun i => hf _) rfl (by omega)
  simp only [sha_split] at hEnd
  obtain ⟨g, hg⟩ : ∃ g, shaF f n = g := ⟨_, rfl⟩
  rw [hg] at hEnd ⊢
  obtain ⟨t, ht⟩ : ∃ t, blks s0H f (n / 64) = t := ⟨_, rfl⟩
  obtain ⟨F, hF'⟩ : ∃ F : Nat → Int, (fun i => f (64 * (n / 64) + i)) = F := ⟨_, rfl⟩
  obtain ⟨m, hm⟩ : ∃ m, n % 64 = m := ⟨_, rfl⟩
  rw [ht, hF', hm] at hEnd
  rw [ht, hF', hm] at hWr
  have HWr := Lib.hid hWr
  have HEnd := Lib.hid hEnd
  clear hWr hEnd hw hr hf hT hg ht hF' hm
  obtain ⟨ta, tb, tc, td, te, tf, tg, th⟩ := t
  have hB := Below.refl w.heap.size w
  have hM := Lib.hid (mem_nil w)
  have hF : True := trivial
  go_enter Tryd.func32, Tryd.ntmps32
  go_wp2_with (first | (go_at_call 40; refine (HSt.out _ (by (repeat (first | exact hB | refine bl_al ?_ _ | refine Below.setCell ?_ (by first | exact hgs | exact Nat.le_succ_of_le hgs | exact hgs2 | exact hgs3) _ | refine Below.drew ?_ | refine bl_drewN ?_ _)))).mono ?_; rintro e w1 ⟨rfl, hb⟩; have hB : Below w.heap.size w w1 := (by refine bl_then ?_ hb; (repeat (first | exact hB | refine bl_al ?_ _ | refine Below.setCell ?_ (by first | exact hgs | exact Nat.le_succ_of_le hgs | exact hgs2 | exact hgs3) _ | refine Below.drew ?_ | refine bl_drewN ?_ _))); (first | with_reducible have hM2 := Mem.later hb (hM.out) | with_reducible have hM2 := Mem.later hb (Mem.al (hM.out) _ _) | with_reducible have hM2 := Mem.later hb (Mem.al (Mem.al (hM.out) _ _) _ _) | with_reducible have hM2 := Mem.later hb (Mem.al (Mem.al (Mem.al (hM.out) _ _) _ _) _ _) | with_reducible have hM2 := Mem.later hb (Mem.al (Mem.al (Mem.al (Mem.al (hM.out) _ _) _ _) _ _) _ _) | with_reducible have hM2 := Mem.later hb (Mem.drew (hM.out)) | with_reducible have hM2 := Mem.later hb (Mem.drew (Mem.al (hM.out) _ _)) | with_reducible have hM2 := Mem.later hb (Mem.al (Mem.drew (hM.out)) _ _) | with_reducible have hM2 := Mem.later hb (Mem.al (Mem.drew (Mem.al (hM.out) _ _)) _ _) | with_reducible have hM2 := Mem.later hb (Mem.drew (Mem.al (Mem.al (hM.out) _ _) _ _)) | with_reducible have hM2 := Mem.later hb (Mem.al (Mem.al (Mem.drew (hM.out)) _ _) _ _) | with_reducible have hM2 := Mem.later hb (Mem.drew (Mem.drew (hM.out))) | with_reducible have hM2 := Mem.later hb (Mem.drew (Mem.al (Mem.drew (hM.out)) _ _)) | with_reducible have hM2 := Mem.later hb (Mem.drew (Mem.al (Mem.al (Mem.al (hM.out) _ _) _ _) _ _)) | with_reducible have hM2 := Mem.later hb (Mem.al (Mem.al (Mem.drew (Mem.al (hM.out) _ _)) _ _) _ _) | with_reducible have hM2 := Mem.later hb (Mem.drew (Mem.al (Mem.drew (Mem.al (hM.out) _ _)) _ _)) | with_reducible have hM2 := Mem.later hb (Mem.al (Mem.al (Mem.al (Mem.al (Mem.al (hM.out) _ _) _ _) _ _) _ _) _ _) | with_reducible have hM2 := Mem.later hb (Mem.al (Mem.al (Mem.al (Mem.al (Mem.al (Mem.al (hM.out) _ _) _ _) _ _) _ _) _ _) _ _) | with_reducible have hM2 := Mem.later hb (Mem.al (Mem.al (Mem.al (Mem.al (Mem.al (Mem.al (Mem.al (hM.out) _ _) _ _) _ _) _ _) _ _) _ _) _ _) | with_reducible have hM2 := Mem.later hb (Mem.al (Mem.al (Mem.al (Mem.al (Mem.al (Mem.al (Mem.al (Mem.al (hM.out) _ _) _ _) _ _) _ _) _ _) _ _) _ _) _ _)); (try simp only [World.size_alloc, size_drew] at hM2); clear hM; have hM := Lib.hid hM2; clear hF; have hF := hM2; (try simp only [Mem, cellsAt, World.size_alloc, Nat.zero_add, Nat.reduceAdd, and_true] at hF); clear hM2; clear hb) | (go_at_call 39; refine (HWr.out _ (by (repeat (first | exact hB | refine bl_al ?_ _ | refine Below.setCell ?_ (by first | exact hgs | exact Nat.le_succ_of_le hgs | exact hgs2 | exact hgs3) _ | refine Below.drew ?_ | refine bl_drewN ?_ _)))).mono ?_; rintro e w2 ⟨a1, c1, rfl, hown, hb⟩; have HO := Lib.hid (hown.row (bcells_one _ _)); have hB : Below w.heap.size w w2 := (by refine bl_then ?_ hb; (repeat (first | exact hB | refine bl_al ?_ _ | refine Below.setCell ?_ (by first | exact hgs | exact Nat.le_succ_of_le hgs | exact hgs2 | exact hgs3) _ | refine Below.drew ?_ | refine bl_drewN ?_ _))); (first | with_reducible have hM2 := Mem.later hb (hM.out) | with_reducible have hM2 := Mem.later hb (Mem.al (hM.out) _ _) | with_reducible have hM2 := Mem.later hb (Mem.al (Mem.al (hM.out) _ _) _ _) | with_reducible have hM2 := Mem.later hb (Mem.al (Mem.al (Mem.al (hM.out) _ _) _ _) _ _) | with_reducible have hM2 := Mem.later hb (Mem.al (Mem.al (Mem.al (Mem.al (hM.out) _ _) _ _) _ _) _ _) | with_reducible have hM2 := Mem.later hb (Mem.drew (hM.out)) | with_reducible have hM2 := Mem.later hb (Mem.drew (Mem.al (hM.out) _ _)) | with_reducible have hM2 := Mem.later hb (Mem.al (Mem.drew (hM.out)) _ _) | with_reducible have hM2 := Mem.later hb (Mem.al (Mem.drew (Mem.al (hM.out) _ _)) _ _) | with_reducible have hM2 := Mem.later hb (Mem.drew (Mem.al (Mem.al (hM.out) _ _) _ _)) | with_reducible have hM2 := Mem.later hb (Mem.al (Mem.al (Mem.drew (hM.out)) _ _) _ _) | with_reducible have hM2 := Mem.later hb (Mem.drew (Mem.drew (hM.out))) | with_reducible have hM2 := Mem.later hb (Mem.drew (Mem.al (Mem.drew (hM.out)) _ _)) | with_reducible have hM2 := Mem.later hb (Mem.drew (Mem.al (Mem.al (Mem.al (hM.out) _ _) _ _) _ _)) | with_reducible have hM2 := Mem.later hb (Mem.al (Mem.al (Mem.drew (Mem.al (hM.out) _ _)) _ _) _ _) | with_reducible have hM2 := Mem.later hb (Mem.drew (Mem.al (Mem.drew (Mem.al (hM.out) _ _)) _ _)) | with_reducible have hM2 := Mem.later hb (Mem.al (Mem.al (Mem.al (Mem.al (Mem.al (hM.out) _ _) _ _) _ _) _ _) _ _) | with_reducible have hM2 := Mem.later hb (Mem.al (Mem.al (Mem.al (Mem.al (Mem.al (Mem.al (hM.out) _ _) _ _) _ _) _ _) _ _) _ _) | with_reducible have hM2 := Mem.later hb (Mem.al (Mem.al (Mem.al (Mem.al (Mem.al (Mem.al (Mem.al (hM.out) _ _) _ _) _ _) _ _) _ _) _ _) _ _) | with_reducible have hM2 := Mem.later hb (Mem.al (Mem.al (Mem.al (Mem.al (Mem.al (Mem.al (Mem.al (Mem.al (hM.out) _ _) _ _) _ _) _ _) _ _) _ _) _ _) _ _)); (try simp only [World.size_alloc, size_drew] at hM2); clear hM; have hM := Lib.hid hM2; clear hF; have hF := hM2; (try simp only [Mem, cellsAt, World.size_alloc, Nat.zero_add, Nat.reduceAdd, and_true] at hF); clear hM2; clear hb; clear hown) | (go_at_call 38; refine (HEnd.out _ (by (repeat (first | exact hB | refine bl_al ?_ _ | refine Below.setCell ?_ (by first | exact hgs | exact Nat.le_succ_of_le hgs | exact hgs2 | exact hgs3) _ | refine Below.drew ?_ | refine bl_drewN ?_ _))) _ _ HO.out).mono ?_; rintro e w3 ⟨rfl, hb⟩; have hB : Below w.heap.size w w3 := (by refine bl_then ?_ hb; (repeat (first | exact hB | refine bl_al ?_ _ | refine Below.setCell ?_ (by first | exact hgs | exact Nat.le_succ_of_le hgs | exact hgs2 | exact hgs3) _ | refine Below.drew ?_ | refine bl_drewN ?_ _))); (first | with_reducible have hM2 := Mem.later hb (hM.out) | with_reducible have hM2 := Mem.later hb (Mem.al (hM.out) _ _) | with_reducible have hM2 := Mem.later hb (Mem.al (Mem.al (hM.out) _ _) _ _) | with_reducible have hM2 := Mem.later hb (Mem.al (Mem.al (Mem.al (hM.out) _ _) _ _) _ _) | with_reducible have hM2 := Mem.later hb (Mem.al (Mem.al (Mem.al (Mem.al (hM.out) _ _) _ _) _ _) _ _) | with_reducible have hM2 := Mem.later hb (Mem.drew (hM.out)) | with_reducible have hM2 := Mem.later hb (Mem.drew (Mem.al (hM.out) _ _)) | with_reducible have hM2 := Mem.later hb (Mem.al (Mem.drew (hM.out)) _ _) | with_reducible have hM2 := Mem.later hb (Mem.al (Mem.drew (Mem.al (hM.out) _ _)) _ _) | with_reducible have hM2 := Mem.later hb (Mem.drew (Mem.al (Mem.al (hM.out) _ _) _ _)) | with_reducible have hM2 := Mem.later hb (Mem.al (Mem.al (Mem.drew (hM.out)) _ _) _ _) | with_reducible have hM2 := Mem.later hb (Mem.drew (Mem.drew (hM.out))) | with_reducible have hM2 := Mem.later hb (Mem.drew (Mem.al (Mem.drew (hM.out)) _ _)) | with_reducible have hM2 := Mem.later hb (Mem.drew (Mem.al (Mem.al (Mem.al (hM.out) _ _) _ _) _ _)) | with_reducible have hM2 := Mem.later hb (Mem.al (Mem.al (Mem.drew (Mem.al (hM.out) _ _)) _ _) _ _) | with_reducible have hM2 := Mem.later hb (Mem.drew (Mem.al (Mem.drew (Mem.al (hM.out) _ _)) _ _)) | with_reducible have hM2 := Mem.later hb (Mem.al (Mem.al (Mem.al (Mem.al (Mem.al (hM.out) _ _) _ _) _ _) _ _) _ _) | with_reducible have hM2 := Mem.later hb (Mem.al (Mem.al (Mem.al (Mem.al (Mem.al (Mem.al (hM.out) _ _) _ _) _ _) _ _) _ _) _ _) | with_reducible have hM2 := Mem.later hb (Mem.al (Mem.al (Mem.al (Mem.al (Mem.al (Mem.al (Mem.al (hM.out) _ _) _ _) _ _) _ _) _ _) _ _) _ _) | with_reducible have hM2 := Mem.later hb (Mem.al (Mem.al (Mem.al (Mem.al (Mem.al (Mem.al (Mem.al (Mem.al (hM.out) _ _) _ _) _ _) _ _) _ _) _ _) _ _) _ _)); (try simp only [World.size_alloc, size_drew] at hM2); clear hM; have hM := Lib.hid hM2; clear hF; have hF := hM2; (try simp only [Mem, cellsAt, World.size_alloc, Nat.zero_add, Nat.reduceAdd, and_true] at hF); clear hM2; clear hb; have HTh := Lib.hid (thereW (n := 32) hM.out.1 (Nat.le_refl _)); clear hF) | (refine Go.wpList_store_mid rfl 24 (.tmp 2) (.tmp 6) rfl w.heap.size 0 (bcells g 32).toArray rfl rfl (by simpa [bcells_len] using HTh.out) (by simp only [List.size_toArray, bcells_len]; kernel_rfl) (Go.all_oneCell_toArray (bcells_one _ 32)) ?_))
  have hl := Go.run_loadVar_mid (P := Tryd.prog) (w3.setCells w.heap.size 0 (bcells g 32)) w.heap.size 0 24 (bcells g 32) _ (World.rangeAt_setCells_same w3 w.heap.size 0 _ (by rw [bcells_len]; exact HTh.out)) Tryd.underlying24 rfl (by rw [bcells_len]; kernel_rfl)
  refine bodyPost_ret (v := h32 g) (by simp [results, Tryd.results32, asAddr, hl, Act.put]) rfl ⟨rfl, bl_setCellsW (Nat.le_refl _) _ _ _ hB⟩

set_option maxRecDepth 100000 in
set_option maxHeartbeats 2000000 in
theorem double_any (ao : Option Addr) (n c : Nat) (f : Nat → Int) (w : World) (hT : Tab w) (hr : Row w ao n c 1 (bcells f n)) (hf : ∀ i, 0 ≤ f i ∧ f i < 256) (hn : n ≤ 70368744177664) :
    Calls Tryd.prog 24 #[.slice ao n c] w fun e w' => e = .returned (h32 (shaF (shaF f n) 32)) ∧ Below w.heap.size w w' := by
  obtain ⟨g, hg⟩ : ∃ g, shaF f n = g := ⟨_, rfl⟩
  have hgb : ∀ i, 0 ≤ g i ∧ g i < 256 := fun i => by rw [← hg]; exact shaF_b _ _ _
  have HS1 := Lib.hid (fun (x : World) (hb : Below w.heap.size w x) => hg ▸ sum_any ao n c f x (hT.later hb) (hr.later hb) hf hn)
  obtain ⟨q, hq⟩ : ∃ q, shaF g 32 = q := ⟨_, rfl⟩
  have HS2 := Lib.hid (fun (x : World) (b : Nat) (hb : Below w.heap.size w x) (h : Row x (some ⟨b, 0, none⟩) 32 32 1 (bcells g 32)) => hq ▸ sum_any (some ⟨b, 0, none⟩) 32 32 g x (hT.later hb) h hgb (by omega))
  rw [hg, hq]
  clear hT hr hf hg hgb hq
  have hB := Below.refl w.heap.size w
  have hM := Lib.hid (mem_nil w)
  have hF : True := trivial
  go_enter Tryd.func24, Tryd.ntmps24
  go_wp2_with (first | (go_at_call 32; refine (HS1.out _ (by (repeat (first | exact hB | refine bl_al ?_ _ | refine Below.setCell ?_ (by first | exact hgs | exact Nat.le_succ_of_le hgs | exact hgs2 | exact hgs3) _ | refine Below.drew ?_ | refine bl_drewN ?_ _)))).mono ?_; rintro e w1 ⟨rfl, hb⟩; have hB : Below w.heap.size w w1 := (by refine bl_then ?_ hb; (repeat (first | exact hB | refine bl_al ?_ _ | refine Below.setCell ?_ (by first | exact hgs | exact Nat.le_succ_of_le hgs | exact hgs2 | exact hgs3) _ | refine Below.drew ?_ | refine bl_drewN ?_ _))); (first | with_reducible have hM2 := Mem.later hb (hM.out) | with_reducible have hM2 := Mem.later hb (Mem.al (hM.out) _ _) | with_reducible have hM2 := Mem.later hb (Mem.al (Mem.al (hM.out) _ _) _ _) | with_reducible have hM2 := Mem.later hb (Mem.al (Mem.al (Mem.al (hM.out) _ _) _ _) _ _) | with_reducible have hM2 := Mem.later hb (Mem.al (Mem.al (Mem.al (Mem.al (hM.out) _ _) _ _) _ _) _ _) | with_reducible have hM2 := Mem.later hb (Mem.drew (hM.out)) | with_reducible have hM2 := Mem.later hb (Mem.drew (Mem.al (hM.out) _ _)) | with_reducible have hM2 := Mem.later hb (Mem.al (Mem.drew (hM.out)) _ _) | with_reducible have hM2 := Mem.later hb (Mem.al (Mem.drew (Mem.al (hM.out) _ _)) _ _) | with_reducible have hM2 := Mem.later hb (Mem.drew (Mem.al (Mem.al (hM.out) _ _) _ _)) | with_reducible have hM2 := Mem.later hb (Mem.al (Mem.al (Mem.drew (hM.out)) _ _) _ _) | with_reducible have hM2 := Mem.later hb (Mem.drew (Mem.drew (hM.out))) | with_reducible have hM2 := Mem.later hb (Mem.drew (Mem.al (Mem.drew (hM.out)) _ _)) | with_reducible have hM2 := Mem.later hb (Mem.drew (Mem.al (Mem.al (Mem.al (hM.out) _ _) _ _) _ _)) | with_reducible have hM2 := Mem.later hb (Mem.al (Mem.al (Mem.drew (Mem.al (hM.out) _ _)) _ _) _ _) | with_reducible have hM2 := Mem.later hb (Mem.drew (Mem.al (Mem.drew (Mem.al (hM.out) _ _)) _ _)) | with_reducible have hM2 := Mem.later hb (Mem.al (Mem.al (Mem.al (Mem.al (Mem.al (hM.out) _ _) _ _) _ _) _ _) _ _) | with_reducible have hM2 := Mem.later hb (Mem.al (Mem.al (Mem.al (Mem.al (Mem.al (Mem.al (hM.out) _ _) _ _) _ _) _ _) _ _) _ _) | with_reducible have hM2 := Mem.later hb (Mem.al (Mem.al (Mem.al (Mem.al (Mem.al (Mem.al (Mem.al (hM.out) _ _) _ _) _ _) _ _) _ _) _ _) _ _) | with_reducible have hM2 := Mem.later hb (Mem.al (Mem.al (Mem.al (Mem.al (Mem.al (Mem.al (Mem.al (Mem.al (hM.out) _ _) _ _) _ _) _ _) _ _) _ _) _ _) _ _)); (try simp only [World.size_alloc, size_drew] at hM2); clear hM; have hM := Lib.hid hM2; clear hF; have hF := hM2; (try simp only [Mem, cellsAt, World.size_alloc, Nat.zero_add, Nat.reduceAdd, and_true] at hF); clear hM2; clear hb) | (refine wpList_store_newV rfl (.tmp 3) (.tmp 5) 24 rfl _ (bcells g 32) _ Tryd.underlying24 rfl (by rw [bcells_len]; kernel_rfl) (by rw [bcells_len]; rfl) (bcells_one g 32) rfl rfl hM.out ?_; intro W2 hMW hbW; have hBW := bl_then hB hbW; clear hM hF hB; have hM := Lib.hid hMW; have hB := hBW; clear hMW hbW hBW))
  refine (HS2.out _ w1.heap.size hB (row_ofW hM.out.1.2.2)).mono ?_
  rintro e w3 ⟨rfl, hb3⟩
  have HM3 := Lib.hid (Mem.later hb3 hM.out)
  have hB3 := bl_then hB hb3
  have HTh := Lib.hid (thereW (n := 32) HM3.out.2.1 (Nat.le_refl _))
  clear hb3 hB
  go_wp2_with (refine Go.wpList_store_mid rfl 24 (.tmp 2) (.tmp 7) rfl w.heap.size 0 (bcells q 32).toArray rfl rfl (by simpa [bcells_len] using HTh.out) (by simp only [List.size_toArray, bcells_len]; kernel_rfl) (Go.all_oneCell_toArray (bcells_one _ 32)) ?_)
  have hl := Go.run_loadVar_mid (P := Tryd.prog) (w3.setCells w.heap.size 0 (bcells q 32)) w.heap.size 0 24 (bcells q 32) _ (World.rangeAt_setCells_same w3 w.heap.size 0 _ (by rw [bcells_len]; exact HTh.out)) Tryd.underlying24 rfl (by rw [bcells_len]; kernel_rfl)
  refine bodyPost_ret (v := h32 q) (by simp [results, Tryd.results24, asAddr, hl, Act.put]) rfl ⟨rfl, bl_setCellsW (Nat.le_refl _) _ _ _ hB3⟩
end Go.Proofs.YtfbhpkhpkaeagaaDoor
