/- florinlaw02: theirs, Sha2Start; florinref02: Same, Start. (hM) -/
import Derived.Test.YtpdgeiflmnhkfaaDoorSs1
namespace Go.Proofs.YtpdgeiflmnhkfaaDoor
set_option linter.unusedVariables false
set_option linter.unusedSimpArgs false
open Go.RowKit

set_option maxRecDepth 100000 in
set_option maxHeartbeats 1000000 in
theorem theirs2_any (s : S8) (ao : Option Addr) (n c : Nat) (N : Int) (w : World) :
    Calls Tryd.prog 24 #[stV s (.slice ao n c) N] w fun e w' => e = .returned (stV s (.slice ao n c) N) ∧ Below w.heap.size w w' := by
  obtain ⟨a0, b0, c0, d0, e0, f0, g0, h0⟩ := s
  have hB1 := bl_al (bl_al (Below.refl w.heap.size w) (.cells #[.int .u32 a0, .int .u32 b0, .int .u32 c0, .int .u32 d0, .int .u32 e0, .int .u32 f0, .int .u32 g0, .int .u32 h0, .slice ao n c, .int .u64 N] 34)) (.cells #[.int .u32 a0, .int .u32 b0, .int .u32 c0, .int .u32 d0, .int .u32 e0, .int .u32 f0, .int .u32 g0, .int .u32 h0, .slice ao n c, .int .u64 N] 27)
  go_enter Tryd.func24, Tryd.ntmps24
  go_wp2
  refine bodyPost_ret (v := stV ⟨a0, b0, c0, d0, e0, f0, g0, h0⟩ (.slice ao n c) N) (by simp [results, Tryd.results24, go_sem]) rfl ⟨rfl, hB1⟩

set_option maxRecDepth 100000 in
set_option maxHeartbeats 1000000 in
theorem same2_any (s : S8) (a1 : Option Addr) (n c1 : Nat) (a2 : Option Addr) (c2 : Nat) (N : Int) (f : Nat → Int) (w : World) (h1 : Row w a1 n c1 1 (bcells f n)) (h2 : Row w a2 n c2 1 (bcells f n)) :
    Calls Tryd.prog 23 #[stV s (.slice a1 n c1) N, stV s (.slice a2 n c2) N] w fun e w' => e = .returned (.bool true) ∧ Below w.heap.size w w' := by
  obtain ⟨a0, b0, c0, d0, e0, f0, g0, h0⟩ := s
  have hB1 := bl_al (bl_al (Below.refl w.heap.size w) (.cells #[.int .u32 a0, .int .u32 b0, .int .u32 c0, .int .u32 d0, .int .u32 e0, .int .u32 f0, .int .u32 g0, .int .u32 h0, .slice a1 n c1, .int .u64 N] 27)) (.cells #[.int .u32 a0, .int .u32 b0, .int .u32 c0, .int .u32 d0, .int .u32 e0, .int .u32 f0, .int .u32 g0, .int .u32 h0, .slice a2 n c2, .int .u64 N] 27)
  have hEq : ∀ x : World, (binOp .eql 24 (arrS ⟨a0, b0, c0, d0, e0, f0, g0, h0⟩) (arrS ⟨a0, b0, c0, d0, e0, f0, g0, h0⟩)).run Tryd.prog x = .ok (.bool true) x := fun x => by
    have := eqlArr Tryd.prog 8 24 23 .u32 Tryd.underlying24 Tryd.underlying23 (by kernel_rfl) [a0, b0, c0, d0, e0, f0, g0, h0] [a0, b0, c0, d0, e0, f0, g0, h0] rfl rfl x
    simp only [beq_self_eq_true] at this
    exact this
  have hcv1 := row_string (P := Tryd.prog) (T := 22) (S := 9) (zs := bnums f n) _ Tryd.underlying22 Tryd.underlying5 Tryd.underlying9 (ao := a1) (n := n) (c := c1) (by rw [← bcells_nums]; exact (h1.later (bl_al (below_alloc w (.cells #[.int .u32 a0, .int .u32 b0, .int .u32 c0, .int .u32 d0, .int .u32 e0, .int .u32 f0, .int .u32 g0, .int .u32 h0, .slice a1 n c1, .int .u64 N] 27)) (.cells #[.int .u32 a0, .int .u32 b0, .int .u32 c0, .int .u32 d0, .int .u32 e0, .int .u32 f0, .int .u32 g0, .int .u32 h0, .slice a2 n c2, .int .u64 N] 27))))
  have hcv2 := row_string (P := Tryd.prog) (T := 22) (S := 9) (zs := bnums f n) _ Tryd.underlying22 Tryd.underlying5 Tryd.underlying9 (ao := a2) (n := n) (c := c2) (by rw [← bcells_nums]; exact (h2.later (bl_al (below_alloc w (.cells #[.int .u32 a0, .int .u32 b0, .int .u32 c0, .int .u32 d0, .int .u32 e0, .int .u32 f0, .int .u32 g0, .int .u32 h0, .slice a1 n c1, .int .u64 N] 27)) (.cells #[.int .u32 a0, .int .u32 b0, .int .u32 c0, .int .u32 d0, .int .u32 e0, .int .u32 f0, .int .u32 g0, .int .u32 h0, .slice a2 n c2, .int .u64 N] 27))))
  obtain ⟨z, hz⟩ : ∃ z, strOfNums (bnums f n) = z := ⟨_, rfl⟩
  rw [hz] at hcv1 hcv2
  clear h1 h2 hz
  go_enter Tryd.func23, Tryd.ntmps23
  go_wp2
  go_ret
  exact ⟨rfl, hB1⟩

set_option maxRecDepth 100000 in
set_option maxHeartbeats 2000000 in
theorem rstart_any (w : World) : Calls Tryd.prog 104 #[] w fun e w' => e = .returned (stV s0H (.slice none 0 0) 0) ∧ Below w.heap.size w w' := by
  go_enter Tryd.func104, Tryd.ntmps104
  go_wp2
  go_loopw [2] (fun i wr => StRel w i wr) (fun i _ => 8 - (intOf i).toNat)
  case atStart =>
    refine ⟨0, fun _ => 0, Nat.zero_le _, rfl, fun k hk => by omega, by (repeat (first | exact Below.refl _ _ | refine Below.drew ?_ | refine bl_drewN ?_ _ | (refine Below.alloc ?_ (by first | exact Nat.le_refl _ | (simp; done) | (simp; omega)) _))), ?_⟩
    have h := Mem.al (Mem.al (mem_nil w) (st0l fun _ => 0) 27) (st0l fun _ => 0) 27
    simp only [World.size_alloc] at h
    exact h
  case round =>
    obtain ⟨j, g, hj, rfl, hg, hB, hm⟩ := hrel
    by_cases hlt : j < 8
    · obtain ⟨v, hv⟩ : ∃ v, hF0 j = v := ⟨_, rfl⟩
      have hi := fun x => rinit_any (j : Int) x
      rw [show hAny (j : Int) = hF0 j by unfold hAny; rw [if_pos (by omega), Int.toNat_natCast], hv] at hi
      have HI := Lib.hid hi
      have hM := Lib.hid hm
      have hF : True := trivial
      have HGv := Lib.hid (And.intro hg hv)
      have hj8 : (j : Int) < 8 := by omega
      clear hm hg hv hi
      go_wp2_with (go_at_call 140; (with_reducible refine (HI.out _).mono ?_); rintro e w1 ⟨rfl, hb⟩; have hB : Below w.heap.size w w1 := (by refine bl_then ?_ hb; (repeat (first | exact hB | refine bl_al ?_ _ | refine Below.setCell ?_ (by first | exact hgs | exact Nat.le_succ_of_le hgs | exact hgs2 | exact hgs3) _ | refine Below.drew ?_ | refine bl_drewN ?_ _))); (first | with_reducible have hM2 := Mem.later hb (hM.out) | with_reducible have hM2 := Mem.later hb (Mem.al (hM.out) _ _) | with_reducible have hM2 := Mem.later hb (Mem.al (Mem.al (hM.out) _ _) _ _) | with_reducible have hM2 := Mem.later hb (Mem.al (Mem.al (Mem.al (hM.out) _ _) _ _) _ _) | with_reducible have hM2 := Mem.later hb (Mem.al (Mem.al (Mem.al (Mem.al (hM.out) _ _) _ _) _ _) _ _) | with_reducible have hM2 := Mem.later hb (Mem.drew (hM.out)) | with_reducible have hM2 := Mem.later hb (Mem.drew (Mem.al (hM.out) _ _)) | with_reducible have hM2 := Mem.later hb (Mem.al (Mem.drew (hM.out)) _ _) | with_reducible have hM2 := Mem.later hb (Mem.al (Mem.drew (Mem.al (hM.out) _ _)) _ _) | with_reducible have hM2 := Mem.later hb (Mem.drew (Mem.al (Mem.al (hM.out) _ _) _ _)) | with_reducible have hM2 := Mem.later hb (Mem.al (Mem.al (Mem.drew (hM.out)) _ _) _ _) | with_reducible have hM2 := Mem.later hb (Mem.drew (Mem.drew (hM.out))) | with_reducible have hM2 := Mem.later hb (Mem.drew (Mem.al (Mem.drew (hM.out)) _ _)) | with_reducible have hM2 := Mem.later hb (Mem.drew (Mem.al (Mem.al (Mem.al (hM.out) _ _) _ _) _ _)) | with_reducible have hM2 := Mem.later hb (Mem.al (Mem.al (Mem.drew (Mem.al (hM.out) _ _)) _ _) _ _) | with_reducible have hM2 := Mem.later hb (Mem.drew (Mem.al (Mem.drew (Mem.al (hM.out) _ _)) _ _)) | with_reducible have hM2 := Mem.later hb (Mem.al (Mem.al (Mem.al (Mem.al (Mem.al (hM.out) _ _) _ _) _ _) _ _) _ _) | with_reducible have hM2 := Mem.later hb (Mem.al (Mem.al (Mem.al (Mem.al (Mem.al (Mem.al (hM.out) _ _) _ _) _ _) _ _) _ _) _ _) | with_reducible have hM2 := Mem.later hb (Mem.al (Mem.al (Mem.al (Mem.al (Mem.al (Mem.al (Mem.al (hM.out) _ _) _ _) _ _) _ _) _ _) _ _) _ _) | with_reducible have hM2 := Mem.later hb (Mem.al (Mem.al (Mem.al (Mem.al (Mem.al (Mem.al (Mem.al (Mem.al (hM.out) _ _) _ _) _ _) _ _) _ _) _ _) _ _) _ _)); (try simp only [World.size_alloc, size_drew] at hM2); clear hM; have hM := Lib.hid hM2; clear hF; have hF := hM2; (try simp only [Mem, cellsAt, World.size_alloc, Nat.zero_add, Nat.reduceAdd, and_true] at hF); clear hM2; clear hb; clear hF; have hc := cellsAt_get hM.out.1.2.2 (st0l_get g j hlt); have hz := hM.out.1.2.1 j)
      have hM2 := Mem.setN (k := j) (v := .int .u32 v) (b := w.heap.size + 1) (by intro p hp; simp at hp; subst hp; simp) hM.out
      rw [st0l_set g j hlt] at hM2
      refine ⟨⟨j + 1, setF g j v, by omega, by go_num, fun k hk => ?_, hB.setCell (by show w.heap.size ≤ w.heap.size + 1; omega) _, hM2⟩, by simp [intOf]; omega⟩
      unfold setF
      by_cases hkj : k = j
      · rw [if_pos hkj, hkj]
        exact HGv.out.2.symm
      · rw [if_neg hkj]
        exact HGv.out.1 k (by omega)
    · have hje : j = 8 := by omega
      subst hje
      have h8 : ¬ ((8 : Nat) : Int) < 8 := by omega
      rw [st0l_s0 g hg] at hm
      have hF := hm
      simp only [Mem, cellsAt, st0l, u32l, List.range, List.range.loop, List.map_cons, List.map_nil, List.cons_append, List.nil_append, Nat.zero_add, Nat.reduceAdd, and_true] at hF
      have HMz := Lib.hid hm.2.1
      clear hm hg
      go_wp2
      have hR := Mem.over (us := [.int .u32 s0H.a, .int .u32 s0H.b, .int .u32 s0H.c, .int .u32 s0H.d, .int .u32 s0H.e, .int .u32 s0H.f, .int .u32 s0H.g, .int .u32 s0H.h, .slice none 0 0, .int .u64 0]) (b := w.heap.size) (L := []) (by simp) ⟨HMz.out, trivial⟩ rfl
      have hBl := bl_setCellsW (Nat.le_refl _) [.int .u32 s0H.a, .int .u32 s0H.b, .int .u32 s0H.c, .int .u32 s0H.d, .int .u32 s0H.e, .int .u32 s0H.f, .int .u32 s0H.g, .int .u32 s0H.h, .slice none 0 0, .int .u64 0] 0 wr hB
      have hRr := rangeAt_of hR.1.2.2
      clear hF hR HMz hB
      change bodyPost _ _ _ _ _ (wr.setCells w.heap.size 0 [.int .u32 s0H.a, .int .u32 s0H.b, .int .u32 s0H.c, .int .u32 s0H.d, .int .u32 s0H.e, .int .u32 s0H.f, .int .u32 s0H.g, .int .u32 s0H.h, .slice none 0 0, .int .u64 0])
      generalize wr.setCells w.heap.size 0 [.int .u32 s0H.a, .int .u32 s0H.b, .int .u32 s0H.c, .int .u32 s0H.d, .int .u32 s0H.e, .int .u32 s0H.f, .int .u32 s0H.g, .int .u32 s0H.h, .slice none 0 0, .int .u64 0] = wf at *
      have hl := Go.run_loadVar_mid (P := Tryd.prog) wf w.heap.size 0 27 [.int .u32 s0H.a, .int .u32 s0H.b, .int .u32 s0H.c, .int .u32 s0H.d, .int .u32 s0H.e, .int .u32 s0H.f, .int .u32 s0H.g, .int .u32 s0H.h, .slice none 0 0, .int .u64 0] _ hRr Tryd.underlying27 rfl (by kernel_rfl)
      refine bodyPost_ret (v := stV s0H (.slice none 0 0) 0) (by simp [results, Tryd.results104, asAddr, hl, Act.put]) rfl ⟨rfl, hBl⟩

end Go.Proofs.YtpdgeiflmnhkfaaDoor
