/- SHA-256: Initial, Constant, Start, Sane, sane. (hM) -/
import Derived.Test.YtlfabchlblgmbaaDoorSh4
namespace Go.Proofs.YtlfabchlblgmbaaDoor
set_option linter.unusedVariables false
set_option linter.unusedSimpArgs false
open Go.RowKit

set_option maxHeartbeats 1000000 in
theorem initial_in (i : Nat) (hi : i < 8) (w : World) (hT : Tab w) : Calls Tryd.prog 35 #[.int .i64 i] w fun e w' => e = .returned (.int .u32 (hF0 i)) ∧ w = w' := by
  have hc := hT.2.2 i hi
  obtain ⟨v, hv⟩ : ∃ v, hF0 i = v := ⟨_, rfl⟩
  rw [hv] at hc ⊢
  have h1 : (i : Int) < 8 := by omega
  have h0 : 0 ≤ (i : Int) := by omega
  clear hT hv
  go_enter Tryd.func35, Tryd.ntmps35
  go_wp2
  go_ret
  exact ⟨rfl, rfl⟩
abbrev stV (s : S8) (sl : Value) (N : Int) : Value := .agg #[.int .u32 s.a, .int .u32 s.b, .int .u32 s.c, .int .u32 s.d, .int .u32 s.e, .int .u32 s.f, .int .u32 s.g, .int .u32 s.h, sl, .int .u64 N]
def st0l (g : Nat → Int) : List Value := u32l g 8 ++ [.slice none 0 0, .int .u64 0]
theorem st0l_get (g : Nat → Int) (i : Nat) (h : i < 8) : (st0l g)[i]? = some (.int .u32 (g i)) := by
  unfold st0l
  rw [List.getElem?_append_left (by rw [u32l_len]; exact h)]
  exact u32l_get g 8 i h
theorem st0l_set (g : Nat → Int) (q : Nat) (h : q < 8) (v : Int) : (st0l g).set q (.int .u32 v) = st0l (setF g q v) := by
  unfold st0l
  rw [List.set_append_left _ _ (by rw [u32l_len]; exact h), u32l_set]
def StRel (w : World) (i : Value) (wr : World) : Prop :=
  ∃ (j : Nat) (g : Nat → Int), j ≤ 8 ∧ i = .int .i64 j ∧ (∀ k, k < j → g k = hF0 k) ∧ Below w.heap.size w wr ∧ Mem wr [(w.heap.size + 1, st0l g), (w.heap.size, st0l fun _ => 0)]
theorem st0l_s0 (g : Nat → Int) (h : ∀ k, k < 8 → g k = hF0 k) : st0l g = [.int .u32 s0H.a, .int .u32 s0H.b, .int .u32 s0H.c, .int .u32 s0H.d, .int .u32 s0H.e, .int .u32 s0H.f, .int .u32 s0H.g, .int .u32 s0H.h, .slice none 0 0, .int .u64 0] := by
  unfold st0l
  rw [u32l_congr h]
  rfl

set_option maxRecDepth 100000 in
set_option maxHeartbeats 2000000 in
theorem start_any (w : World) (hT : Tab w) : Calls Tryd.prog 31 #[] w fun e w' => e = .returned (stV s0H (.slice none 0 0) 0) ∧ Below w.heap.size w w' := by
  have HT := Lib.hid hT
  clear hT
  go_enter Tryd.func31, Tryd.ntmps31
  go_wp2
  go_loopw [3] (fun i wr => StRel w i wr) (fun i _ => 8 - (intOf i).toNat)
  case atStart =>
    refine ⟨0, fun _ => 0, Nat.zero_le _, rfl, fun k hk => by omega, by (repeat (first | exact Below.refl _ _ | refine Below.drew ?_ | refine bl_drewN ?_ _ | (refine Below.alloc ?_ (by first | exact Nat.le_refl _ | (simp; done) | (simp; omega)) _))), ?_⟩
    have h := Mem.al (Mem.al (mem_nil w) (st0l fun _ => 0) 34) (st0l fun _ => 0) 34
    simp only [World.size_alloc] at h
    exact h
  case round =>
    obtain ⟨j, g, hj, rfl, hg, hB, hm⟩ := hrel
    by_cases hlt : j < 8
    · obtain ⟨v, hv⟩ : ∃ v, hF0 j = v := ⟨_, rfl⟩
      have HI := Lib.hid (hv ▸ initial_in j hlt wr (HT.out.later hB))
      have hc := cellsAt_get hm.1.2.2 (st0l_get g j hlt)
      have hz := hm.1.2.1 j
      have HM := Lib.hid hm
      have HGv := Lib.hid (And.intro hg hv)
      have hj8 : (j : Int) < 8 := by omega
      clear hm hg hv
      go_wp2_with (go_at_call 35; refine HI.out.mono ?_; rintro e w1 ⟨rfl, rfl⟩)
      have hM2 := Mem.setN (k := j) (v := .int .u32 v) (b := w.heap.size + 1) (by intro p hp; simp at hp; subst hp; simp) HM.out
      rw [st0l_set g j hlt] at hM2
      refine ⟨⟨j + 1, setF g j v, by omega, by go_num, fun k hk => ?_, hB.setCell (by show w.heap.size ≤ w.heap.size + 1; omega) _, hM2⟩, by simp [intOf]; omega⟩
      unfold setF
      by_cases hkj : k = j
      · rw [if_pos hkj, hkj]
        exact HGv.out.2.symm
      · rw [if_neg hkj]
        exact HGv.out.1 k (by omega)
    · have hje : j = 8 := by omega
      subst hje
      have h8 : ¬ ((8 : Nat) : Int) < 8 := by omega
      rw [st0l_s0 g hg] at hm
      have hF := hm
      simp only [Mem, cellsAt, st0l, u32l, List.range, List.range.loop, List.map_cons, List.map_nil, List.cons_append, List.nil_append, Nat.zero_add, Nat.reduceAdd, and_true] at hF
      have HMz := Lib.hid hm.2.1
      clear hm hg
      go_wp2
      have hR := Mem.over (us := [.int .u32 s0H.a, .int .u32 s0H.b, .int .u32 s0H.c, .int .u32 s0H.d, .int .u32 s0H.e, .int .u32 s0H.f, .int .u32 s0H.g, .int .u32 s0H.h, .slice none 0 0, .int .u64 0]) (b := w.heap.size) (L := []) (by simp) ⟨HMz.out, trivial⟩ rfl
      have hBl := bl_setCellsW (Nat.le_refl _) [.int .u32 s0H.a, .int .u32 s0H.b, .int .u32 s0H.c, .int .u32 s0H.d, .int .u32 s0H.e, .int .u32 s0H.f, .int .u32 s0H.g, .int .u32 s0H.h, .slice none 0 0, .int .u64 0] 0 wr hB
      have hRr := rangeAt_of hR.1.2.2
      clear hF hR HMz hB
      change bodyPost _ _ _ _ _ (wr.setCells w.heap.size 0 [.int .u32 s0H.a, .int .u32 s0H.b, .int .u32 s0H.c, .int .u32 s0H.d, .int .u32 s0H.e, .int .u32 s0H.f, .int .u32 s0H.g, .int .u32 s0H.h, .slice none 0 0, .int .u64 0])
      generalize wr.setCells w.heap.size 0 [.int .u32 s0H.a, .int .u32 s0H.b, .int .u32 s0H.c, .int .u32 s0H.d, .int .u32 s0H.e, .int .u32 s0H.f, .int .u32 s0H.g, .int .u32 s0H.h, .slice none 0 0, .int .u64 0] = wf at *
      have hl := Go.run_loadVar_mid (P := Tryd.prog) wf w.heap.size 0 34 [.int .u32 s0H.a, .int .u32 s0H.b, .int .u32 s0H.c, .int .u32 s0H.d, .int .u32 s0H.e, .int .u32 s0H.f, .int .u32 s0H.g, .int .u32 s0H.h, .slice none 0 0, .int .u64 0] _ hRr Tryd.underlying34 rfl (by kernel_rfl)
      refine bodyPost_ret (v := stV s0H (.slice none 0 0) 0) (by simp [results, Tryd.results31, asAddr, hl, Act.put]) rfl ⟨rfl, hBl⟩

set_option maxHeartbeats 1000000 in
theorem sane_any1 (s : S8) (ao : Option Addr) (n c : Nat) (N : Int) (hn : n < 18446744073709551616) (b : Bool) (hb : decide ((n : Int) = N % 64) = b) (hN : 0 ≤ N) (w : World) :
    Calls Tryd.prog 29 #[stV s (.slice ao n c) N] w fun e w' => e = .returned (.bool b) ∧ Below w.heap.size w w' := by
  have hw : IntKind.u64.wrap (n : Int) = (n : Int) := by rw [IntKind.wrap_u64]; omega
  obtain ⟨r, hr⟩ : ∃ r, N % 64 = r := ⟨_, rfl⟩
  have hr' : N.tmod 64 = r := by rw [Int.tmod_eq_emod_of_nonneg hN]; exact hr
  rw [hr] at hb
  have hb' : ((n : Int) == r) = b := by rw [← hb]; rfl
  obtain ⟨a0, b0, c0, d0, e0, f0, g0, h0⟩ := s
  clear hn hb
  go_enter Tryd.func29, Tryd.ntmps29
  go_wp2
  go_ret
  exact ⟨rfl, by (repeat (first | exact Below.refl _ _ | refine Below.drew ?_ | refine bl_drewN ?_ _ | (refine Below.alloc ?_ (by first | exact Nat.le_refl _ | (simp; done) | (simp; omega)) _)))⟩
set_option maxRecDepth 100000 in
set_option maxHeartbeats 2000000 in
theorem sane_yes (s : S8) (ao : Option Addr) (n c : Nat) (N : Int) (hN : 0 ≤ N) (hn : (n : Int) = N % 64) (w : World) :
    Calls Tryd.prog 61 #[stV s (.slice ao n c) N] w fun e w' => e = .returned (stV s (.slice ao n c) N) ∧ Below w.heap.size w w' := by
  have HS := Lib.hid (fun w => sane_any1 s ao n c N (by omega) true (by rw [hn]; simp) hN w)
  obtain ⟨a0, b0, c0, d0, e0, f0, g0, h0⟩ := s
  have hB := Below.refl w.heap.size w
  have hM := Lib.hid (mem_nil w)
  have hF : True := trivial
  clear hn
  go_enter Tryd.func61, Tryd.ntmps61
  go_wp2_with (go_at_call 29; refine (HS.out _).mono ?_; rintro e w1 ⟨rfl, hb⟩; have hB : Below w.heap.size w w1 := (by refine bl_then ?_ hb; (repeat (first | exact hB | refine bl_al ?_ _ | refine Below.setCell ?_ (by first | exact hgs | exact Nat.le_succ_of_le hgs | exact hgs2 | exact hgs3) _ | refine Below.drew ?_ | refine bl_drewN ?_ _))); (first | with_reducible have hM2 := Mem.later hb (hM.out) | with_reducible have hM2 := Mem.later hb (Mem.al (hM.out) _ _) | with_reducible have hM2 := Mem.later hb (Mem.al (Mem.al (hM.out) _ _) _ _) | with_reducible have hM2 := Mem.later hb (Mem.al (Mem.al (Mem.al (hM.out) _ _) _ _) _ _) | with_reducible have hM2 := Mem.later hb (Mem.al (Mem.al (Mem.al (Mem.al (hM.out) _ _) _ _) _ _) _ _) | with_reducible have hM2 := Mem.later hb (Mem.drew (hM.out)) | with_reducible have hM2 := Mem.later hb (Mem.drew (Mem.al (hM.out) _ _)) | with_reducible have hM2 := Mem.later hb (Mem.al (Mem.drew (hM.out)) _ _) | with_reducible have hM2 := Mem.later hb (Mem.al (Mem.drew (Mem.al (hM.out) _ _)) _ _) | with_reducible have hM2 := Mem.later hb (Mem.drew (Mem.al (Mem.al (hM.out) _ _) _ _)) | with_reducible have hM2 := Mem.later hb (Mem.al (Mem.al (Mem.drew (hM.out)) _ _) _ _) | with_reducible have hM2 := Mem.later hb (Mem.drew (Mem.drew (hM.out))) | with_reducible have hM2 := Mem.later hb (Mem.drew (Mem.al (Mem.drew (hM.out)) _ _)) | with_reducible have hM2 := Mem.later hb (Mem.drew (Mem.al (Mem.al (Mem.al (hM.out) _ _) _ _) _ _)) | with_reducible have hM2 := Mem.later hb (Mem.al (Mem.al (Mem.drew (Mem.al (hM.out) _ _)) _ _) _ _) | with_reducible have hM2 := Mem.later hb (Mem.drew (Mem.al (Mem.drew (Mem.al (hM.out) _ _)) _ _)) | with_reducible have hM2 := Mem.later hb (Mem.al (Mem.al (Mem.al (Mem.al (Mem.al (hM.out) _ _) _ _) _ _) _ _) _ _) | with_reducible have hM2 := Mem.later hb (Mem.al (Mem.al (Mem.al (Mem.al (Mem.al (Mem.al (hM.out) _ _) _ _) _ _) _ _) _ _) _ _) | with_reducible have hM2 := Mem.later hb (Mem.al (Mem.al (Mem.al (Mem.al (Mem.al (Mem.al (Mem.al (hM.out) _ _) _ _) _ _) _ _) _ _) _ _) _ _) | with_reducible have hM2 := Mem.later hb (Mem.al (Mem.al (Mem.al (Mem.al (Mem.al (Mem.al (Mem.al (Mem.al (hM.out) _ _) _ _) _ _) _ _) _ _) _ _) _ _) _ _)); (try simp only [World.size_alloc, size_drew] at hM2); clear hM; have hM := Lib.hid hM2; clear hF; have hF := hM2; (try simp only [Mem, cellsAt, World.size_alloc, Nat.zero_add, Nat.reduceAdd, and_true] at hF); clear hM2; clear hb)
  have HMz := Lib.hid hM.out.1
  clear hF
  have hR := Mem.over (us := [.int .u32 a0, .int .u32 b0, .int .u32 c0, .int .u32 d0, .int .u32 e0, .int .u32 f0, .int .u32 g0, .int .u32 h0, .slice ao n c, .int .u64 N]) (b := (w.heap.size + 1)) (L := []) (by simp) ⟨HMz.out, trivial⟩ rfl
  have hBl := bl_setCellsW (b := (w.heap.size + 1)) (Nat.le_succ _) [.int .u32 a0, .int .u32 b0, .int .u32 c0, .int .u32 d0, .int .u32 e0, .int .u32 f0, .int .u32 g0, .int .u32 h0, .slice ao n c, .int .u64 N] 0 w1 hB
  have hRr := rangeAt_of hR.1.2.2
  clear hR
  change bodyPost _ _ _ _ _ (w1.setCells (w.heap.size + 1) 0 [.int .u32 a0, .int .u32 b0, .int .u32 c0, .int .u32 d0, .int .u32 e0, .int .u32 f0, .int .u32 g0, .int .u32 h0, .slice ao n c, .int .u64 N])
  generalize w1.setCells (w.heap.size + 1) 0 [.int .u32 a0, .int .u32 b0, .int .u32 c0, .int .u32 d0, .int .u32 e0, .int .u32 f0, .int .u32 g0, .int .u32 h0, .slice ao n c, .int .u64 N] = wf at *
  have hl := Go.run_loadVar_mid (P := Tryd.prog) wf (w.heap.size + 1) 0 34 [.int .u32 a0, .int .u32 b0, .int .u32 c0, .int .u32 d0, .int .u32 e0, .int .u32 f0, .int .u32 g0, .int .u32 h0, .slice ao n c, .int .u64 N] _ hRr Tryd.underlying34 rfl (by kernel_rfl)
  refine bodyPost_ret (v := .agg ([.int .u32 a0, .int .u32 b0, .int .u32 c0, .int .u32 d0, .int .u32 e0, .int .u32 f0, .int .u32 g0, .int .u32 h0, .slice ao n c, .int .u64 N]).toArray) (by simp [results, Tryd.results61, asAddr, hl, Act.put]) rfl ⟨rfl, hBl⟩

set_option maxRecDepth 100000 in
set_option maxHeartbeats 2000000 in
theorem sane_no (s : S8) (ao : Option Addr) (n c : Nat) (N : Int) (hn64 : n < 18446744073709551616) (hN : 0 ≤ N) (hn : (n : Int) ≠ N % 64) (w : World) (hT : Tab w) :
    Calls Tryd.prog 61 #[stV s (.slice ao n c) N] w fun e w' => e = .returned (stV s0H (.slice none 0 0) 0) ∧ Below w.heap.size w w' := by
  have HS := Lib.hid (fun w => sane_any1 s ao n c N hn64 false (by simpa using hn) hN w)
  have HT := Lib.hid hT
  have HSt := Lib.hid (fun (x : World) (hb : Below w.heap.size w x) => start_any x (hT.later hb))
  clear hT hn hn64 hN
  obtain ⟨a0, b0, c0, d0, e0, f0, g0, h0⟩ := s
  have hB := Below.refl w.heap.size w
  have hM := Lib.hid (mem_nil w)
  have hF : True := trivial
  go_enter Tryd.func61, Tryd.ntmps61
  go_wp2_with (first | (go_at_call 29; refine (HS.out _).mono ?_; rintro e w1 ⟨rfl, hb⟩; have hB : Below w.heap.size w w1 := (by refine bl_then ?_ hb; (repeat (first | exact hB | refine bl_al ?_ _ | refine Below.setCell ?_ (by first | exact hgs | exact Nat.le_succ_of_le hgs | exact hgs2 | exact hgs3) _ | refine Below.drew ?_ | refine bl_drewN ?_ _))); (first | with_reducible have hM2 := Mem.later hb (hM.out) | with_reducible have hM2 := Mem.later hb (Mem.al (hM.out) _ _) | with_reducible have hM2 := Mem.later hb (Mem.al (Mem.al (hM.out) _ _) _ _) | with_reducible have hM2 := Mem.later hb (Mem.al (Mem.al (Mem.al (hM.out) _ _) _ _) _ _) | with_reducible have hM2 := Mem.later hb (Mem.al (Mem.al (Mem.al (Mem.al (hM.out) _ _) _ _) _ _) _ _) | with_reducible have hM2 := Mem.later hb (Mem.drew (hM.out)) | with_reducible have hM2 := Mem.later hb (Mem.drew (Mem.al (hM.out) _ _)) | with_reducible have hM2 := Mem.later hb (Mem.al (Mem.drew (hM.out)) _ _) | with_reducible have hM2 := Mem.later hb (Mem.al (Mem.drew (Mem.al (hM.out) _ _)) _ _) | with_reducible have hM2 := Mem.later hb (Mem.drew (Mem.al (Mem.al (hM.out) _ _) _ _)) | with_reducible have hM2 := Mem.later hb (Mem.al (Mem.al (Mem.drew (hM.out)) _ _) _ _) | with_reducible have hM2 := Mem.later hb (Mem.drew (Mem.drew (hM.out))) | with_reducible have hM2 := Mem.later hb (Mem.drew (Mem.al (Mem.drew (hM.out)) _ _)) | with_reducible have hM2 := Mem.later hb (Mem.drew (Mem.al (Mem.al (Mem.al (hM.out) _ _) _ _) _ _)) | with_reducible have hM2 := Mem.later hb (Mem.al (Mem.al (Mem.drew (Mem.al (hM.out) _ _)) _ _) _ _) | with_reducible have hM2 := Mem.later hb (Mem.drew (Mem.al (Mem.drew (Mem.al (hM.out) _ _)) _ _)) | with_reducible have hM2 := Mem.later hb (Mem.al (Mem.al (Mem.al (Mem.al (Mem.al (hM.out) _ _) _ _) _ _) _ _) _ _) | with_reducible have hM2 := Mem.later hb (Mem.al (Mem.al (Mem.al (Mem.al (Mem.al (Mem.al (hM.out) _ _) _ _) _ _) _ _) _ _) _ _) | with_reducible have hM2 := Mem.later hb (Mem.al (Mem.al (Mem.al (Mem.al (Mem.al (Mem.al (Mem.al (hM.out) _ _) _ _) _ _) _ _) _ _) _ _) _ _) | with_reducible have hM2 := Mem.later hb (Mem.al (Mem.al (Mem.al (Mem.al (Mem.al (Mem.al (Mem.al (Mem.al (hM.out) _ _) _ _) _ _) _ _) _ _) _ _) _ _) _ _)); (try simp only [World.size_alloc, size_drew] at hM2); clear hM; have hM := Lib.hid hM2; clear hF; have hF := hM2; (try simp only [Mem, cellsAt, World.size_alloc, Nat.zero_add, Nat.reduceAdd, and_true] at hF); clear hM2; clear hb) | (go_at_call 31; refine (HSt.out _ (by (repeat (first | exact hB | refine bl_al ?_ _ | refine Below.setCell ?_ (by first | exact hgs | exact Nat.le_succ_of_le hgs | exact hgs2 | exact hgs3) _ | refine Below.drew ?_ | refine bl_drewN ?_ _)))).mono ?_; rintro e w2 ⟨rfl, hb⟩; have hB : Below w.heap.size w w2 := (by refine bl_then ?_ hb; (repeat (first | exact hB | refine bl_al ?_ _ | refine Below.setCell ?_ (by first | exact hgs | exact Nat.le_succ_of_le hgs | exact hgs2 | exact hgs3) _ | refine Below.drew ?_ | refine bl_drewN ?_ _))); (first | with_reducible have hM2 := Mem.later hb (hM.out) | with_reducible have hM2 := Mem.later hb (Mem.al (hM.out) _ _) | with_reducible have hM2 := Mem.later hb (Mem.al (Mem.al (hM.out) _ _) _ _) | with_reducible have hM2 := Mem.later hb (Mem.al (Mem.al (Mem.al (hM.out) _ _) _ _) _ _) | with_reducible have hM2 := Mem.later hb (Mem.al (Mem.al (Mem.al (Mem.al (hM.out) _ _) _ _) _ _) _ _) | with_reducible have hM2 := Mem.later hb (Mem.drew (hM.out)) | with_reducible have hM2 := Mem.later hb (Mem.drew (Mem.al (hM.out) _ _)) | with_reducible have hM2 := Mem.later hb (Mem.al (Mem.drew (hM.out)) _ _) | with_reducible have hM2 := Mem.later hb (Mem.al (Mem.drew (Mem.al (hM.out) _ _)) _ _) | with_reducible have hM2 := Mem.later hb (Mem.drew (Mem.al (Mem.al (hM.out) _ _) _ _)) | with_reducible have hM2 := Mem.later hb (Mem.al (Mem.al (Mem.drew (hM.out)) _ _) _ _) | with_reducible have hM2 := Mem.later hb (Mem.drew (Mem.drew (hM.out))) | with_reducible have hM2 := Mem.later hb (Mem.drew (Mem.al (Mem.drew (hM.out)) _ _)) | with_reducible have hM2 := Mem.later hb (Mem.drew (Mem.al (Mem.al (Mem.al (hM.out) _ _) _ _) _ _)) | with_reducible have hM2 := Mem.later hb (Mem.al (Mem.al (Mem.drew (Mem.al (hM.out) _ _)) _ _) _ _) | with_reducible have hM2 := Mem.later hb (Mem.drew (Mem.al (Mem.drew (Mem.al (hM.out) _ _)) _ _)) | with_reducible have hM2 := Mem.later hb (Mem.al (Mem.al (Mem.al (Mem.al (Mem.al (hM.out) _ _) _ _) _ _) _ _) _ _) | with_reducible have hM2 := Mem.later hb (Mem.al (Mem.al (Mem.al (Mem.al (Mem.al (Mem.al (hM.out) _ _) _ _) _ _) _ _) _ _) _ _) | with_reducible have hM2 := Mem.later hb (Mem.al (Mem.al (Mem.al (Mem.al (Mem.al (Mem.al (Mem.al (hM.out) _ _) _ _) _ _) _ _) _ _) _ _) _ _) | with_reducible have hM2 := Mem.later hb (Mem.al (Mem.al (Mem.al (Mem.al (Mem.al (Mem.al (Mem.al (Mem.al (hM.out) _ _) _ _) _ _) _ _) _ _) _ _) _ _) _ _)); (try simp only [World.size_alloc, size_drew] at hM2); clear hM; have hM := Lib.hid hM2; clear hF; have hF := hM2; (try simp only [Mem, cellsAt, World.size_alloc, Nat.zero_add, Nat.reduceAdd, and_true] at hF); clear hM2; clear hb))
  have HMz := Lib.hid hM.out.1
  clear hF
  have hR := Mem.over (us := [.int .u32 s0H.a, .int .u32 s0H.b, .int .u32 s0H.c, .int .u32 s0H.d, .int .u32 s0H.e, .int .u32 s0H.f, .int .u32 s0H.g, .int .u32 s0H.h, .slice none 0 0, .int .u64 0]) (b := (w.heap.size + 1)) (L := []) (by simp) ⟨HMz.out, trivial⟩ rfl
  have hBl := bl_setCellsW (b := (w.heap.size + 1)) (Nat.le_succ _) [.int .u32 s0H.a, .int .u32 s0H.b, .int .u32 s0H.c, .int .u32 s0H.d, .int .u32 s0H.e, .int .u32 s0H.f, .int .u32 s0H.g, .int .u32 s0H.h, .slice none 0 0, .int .u64 0] 0 w2 hB
  have hRr := rangeAt_of hR.1.2.2
  clear hR
  change bodyPost _ _ _ _ _ (w2.setCells (w.heap.size + 1) 0 [.int .u32 s0H.a, .int .u32 s0H.b, .int .u32 s0H.c, .int .u32 s0H.d, .int .u32 s0H.e, .int .u32 s0H.f, .int .u32 s0H.g, .int .u32 s0H.h, .slice none 0 0, .int .u64 0])
  generalize w2.setCells (w.heap.size + 1) 0 [.int .u32 s0H.a, .int .u32 s0H.b, .int .u32 s0H.c, .int .u32 s0H.d, .int .u32 s0H.e, .int .u32 s0H.f, .int .u32 s0H.g, .int .u32 s0H.h, .slice none 0 0, .int .u64 0] = wf at *
  have hl := Go.run_loadVar_mid (P := Tryd.prog) wf (w.heap.size + 1) 0 34 [.int .u32 s0H.a, .int .u32 s0H.b, .int .u32 s0H.c, .int .u32 s0H.d, .int .u32 s0H.e, .int .u32 s0H.f, .int .u32 s0H.g, .int .u32 s0H.h, .slice none 0 0, .int .u64 0] _ hRr Tryd.underlying34 rfl (by kernel_rfl)
  refine bodyPost_ret (v := .agg ([.int .u32 s0H.a, .int .u32 s0H.b, .int .u32 s0H.c, .int .u32 s0H.d, .int .u32 s0H.e, .int .u32 s0H.f, .int .u32 s0H.g, .int .u32 s0H.h, .slice none 0 0, .int .u64 0]).toArray) (by simp [results, Tryd.results61, asAddr, hl, Act.put]) rfl ⟨rfl, hBl⟩
end Go.Proofs.YtlfabchlblgmbaaDoor
