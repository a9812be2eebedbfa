/- florinlaw02: Sha2Is, of any input. (hM) -/
import Derived.Test.YtpdgeiflmnhkfaaDoorRg2
namespace Go.Proofs.YtpdgeiflmnhkfaaDoor
set_option linter.unusedVariables false
set_option linter.unusedSimpArgs false
open Go.RowKit

set_option maxRecDepth 100000 in
set_option maxHeartbeats 1000000 in
theorem is_early (s : S8) (a1 ao : Option Addr) (n1 c1 n cp : Nat) (N k : Int) (w : World) (hT : Tab w) (hbig : 400 < n1 ∨ 400 < n) :
    Calls Tryd.prog 3 #[.slice a1 n1 c1, stV s (.slice ao n cp) N, .int .u64 k] w fun e w' => e = .returned (.bool true) ∧ Below w.heap.size w w' := by
  have HA := Lib.hid (fun (x : World) (hb : Below w.heap.size w x) => awake2_any x (hT.later hb))
  obtain ⟨a0, b0, d1, d0, e0, f0, g0, h0⟩ := s
  have hB := Below.refl w.heap.size w
  have hM := Lib.hid (mem_nil w)
  have hF : True := trivial
  clear hT
  by_cases h1 : 400 < n1
  · have e1 : 400 < (n1 : Int) := by omega
    clear hbig h1
    go_enter Tryd.func3, Tryd.ntmps3
    go_wp2_with (go_at_call 18; refine (HA.out _ (by (repeat (first | exact hB | refine bl_al ?_ _ | refine Below.setCell ?_ (by first | exact hgs | exact Nat.le_succ_of_le hgs | exact hgs2 | exact hgs3) _ | refine Below.drew ?_ | refine bl_drewN ?_ _)))).mono ?_; rintro e w1 ⟨rfl, hb⟩; have hB : Below w.heap.size w w1 := (by refine bl_then ?_ hb; (repeat (first | exact hB | refine bl_al ?_ _ | refine Below.setCell ?_ (by first | exact hgs | exact Nat.le_succ_of_le hgs | exact hgs2 | exact hgs3) _ | refine Below.drew ?_ | refine bl_drewN ?_ _))); (first | with_reducible have hM2 := Mem.later hb (hM.out) | with_reducible have hM2 := Mem.later hb (Mem.al (hM.out) _ _) | with_reducible have hM2 := Mem.later hb (Mem.al (Mem.al (hM.out) _ _) _ _) | with_reducible have hM2 := Mem.later hb (Mem.al (Mem.al (Mem.al (hM.out) _ _) _ _) _ _) | with_reducible have hM2 := Mem.later hb (Mem.al (Mem.al (Mem.al (Mem.al (hM.out) _ _) _ _) _ _) _ _) | with_reducible have hM2 := Mem.later hb (Mem.drew (hM.out)) | with_reducible have hM2 := Mem.later hb (Mem.drew (Mem.al (hM.out) _ _)) | with_reducible have hM2 := Mem.later hb (Mem.al (Mem.drew (hM.out)) _ _) | with_reducible have hM2 := Mem.later hb (Mem.al (Mem.drew (Mem.al (hM.out) _ _)) _ _) | with_reducible have hM2 := Mem.later hb (Mem.drew (Mem.al (Mem.al (hM.out) _ _) _ _)) | with_reducible have hM2 := Mem.later hb (Mem.al (Mem.al (Mem.drew (hM.out)) _ _) _ _) | with_reducible have hM2 := Mem.later hb (Mem.drew (Mem.drew (hM.out))) | with_reducible have hM2 := Mem.later hb (Mem.drew (Mem.al (Mem.drew (hM.out)) _ _)) | with_reducible have hM2 := Mem.later hb (Mem.drew (Mem.al (Mem.al (Mem.al (hM.out) _ _) _ _) _ _)) | with_reducible have hM2 := Mem.later hb (Mem.al (Mem.al (Mem.drew (Mem.al (hM.out) _ _)) _ _) _ _) | with_reducible have hM2 := Mem.later hb (Mem.drew (Mem.al (Mem.drew (Mem.al (hM.out) _ _)) _ _)) | with_reducible have hM2 := Mem.later hb (Mem.al (Mem.al (Mem.al (Mem.al (Mem.al (hM.out) _ _) _ _) _ _) _ _) _ _) | with_reducible have hM2 := Mem.later hb (Mem.al (Mem.al (Mem.al (Mem.al (Mem.al (Mem.al (hM.out) _ _) _ _) _ _) _ _) _ _) _ _) | with_reducible have hM2 := Mem.later hb (Mem.al (Mem.al (Mem.al (Mem.al (Mem.al (Mem.al (Mem.al (hM.out) _ _) _ _) _ _) _ _) _ _) _ _) _ _) | with_reducible have hM2 := Mem.later hb (Mem.al (Mem.al (Mem.al (Mem.al (Mem.al (Mem.al (Mem.al (Mem.al (hM.out) _ _) _ _) _ _) _ _) _ _) _ _) _ _) _ _)); (try simp only [World.size_alloc, size_drew] at hM2); clear hM; have hM := Lib.hid hM2; clear hF; have hF := hM2; (try simp only [Mem, cellsAt, World.size_alloc, Nat.zero_add, Nat.reduceAdd, and_true] at hF); clear hM2; clear hb)
    go_ret
    exact ⟨rfl, by (repeat (first | exact hB | refine bl_al ?_ _ | refine Below.setCell ?_ (by first | exact hgs | exact Nat.le_succ_of_le hgs | exact hgs2 | exact hgs3) _ | refine Below.drew ?_ | refine bl_drewN ?_ _))⟩
  · have e1 : ¬ 400 < (n1 : Int) := by omega
    have e2 : 400 < (n : Int) := by omega
    clear hbig h1
    go_enter Tryd.func3, Tryd.ntmps3
    go_wp2_with (go_at_call 18; refine (HA.out _ (by (repeat (first | exact hB | refine bl_al ?_ _ | refine Below.setCell ?_ (by first | exact hgs | exact Nat.le_succ_of_le hgs | exact hgs2 | exact hgs3) _ | refine Below.drew ?_ | refine bl_drewN ?_ _)))).mono ?_; rintro e w1 ⟨rfl, hb⟩; have hB : Below w.heap.size w w1 := (by refine bl_then ?_ hb; (repeat (first | exact hB | refine bl_al ?_ _ | refine Below.setCell ?_ (by first | exact hgs | exact Nat.le_succ_of_le hgs | exact hgs2 | exact hgs3) _ | refine Below.drew ?_ | refine bl_drewN ?_ _))); (first | with_reducible have hM2 := Mem.later hb (hM.out) | with_reducible have hM2 := Mem.later hb (Mem.al (hM.out) _ _) | with_reducible have hM2 := Mem.later hb (Mem.al (Mem.al (hM.out) _ _) _ _) | with_reducible have hM2 := Mem.later hb (Mem.al (Mem.al (Mem.al (hM.out) _ _) _ _) _ _) | with_reducible have hM2 := Mem.later hb (Mem.al (Mem.al (Mem.al (Mem.al (hM.out) _ _) _ _) _ _) _ _) | with_reducible have hM2 := Mem.later hb (Mem.drew (hM.out)) | with_reducible have hM2 := Mem.later hb (Mem.drew (Mem.al (hM.out) _ _)) | with_reducible have hM2 := Mem.later hb (Mem.al (Mem.drew (hM.out)) _ _) | with_reducible have hM2 := Mem.later hb (Mem.al (Mem.drew (Mem.al (hM.out) _ _)) _ _) | with_reducible have hM2 := Mem.later hb (Mem.drew (Mem.al (Mem.al (hM.out) _ _) _ _)) | with_reducible have hM2 := Mem.later hb (Mem.al (Mem.al (Mem.drew (hM.out)) _ _) _ _) | with_reducible have hM2 := Mem.later hb (Mem.drew (Mem.drew (hM.out))) | with_reducible have hM2 := Mem.later hb (Mem.drew (Mem.al (Mem.drew (hM.out)) _ _)) | with_reducible have hM2 := Mem.later hb (Mem.drew (Mem.al (Mem.al (Mem.al (hM.out) _ _) _ _) _ _)) | with_reducible have hM2 := Mem.later hb (Mem.al (Mem.al (Mem.drew (Mem.al (hM.out) _ _)) _ _) _ _) | with_reducible have hM2 := Mem.later hb (Mem.drew (Mem.al (Mem.drew (Mem.al (hM.out) _ _)) _ _)) | with_reducible have hM2 := Mem.later hb (Mem.al (Mem.al (Mem.al (Mem.al (Mem.al (hM.out) _ _) _ _) _ _) _ _) _ _) | with_reducible have hM2 := Mem.later hb (Mem.al (Mem.al (Mem.al (Mem.al (Mem.al (Mem.al (hM.out) _ _) _ _) _ _) _ _) _ _) _ _) | with_reducible have hM2 := Mem.later hb (Mem.al (Mem.al (Mem.al (Mem.al (Mem.al (Mem.al (Mem.al (hM.out) _ _) _ _) _ _) _ _) _ _) _ _) _ _) | with_reducible have hM2 := Mem.later hb (Mem.al (Mem.al (Mem.al (Mem.al (Mem.al (Mem.al (Mem.al (Mem.al (hM.out) _ _) _ _) _ _) _ _) _ _) _ _) _ _) _ _)); (try simp only [World.size_alloc, size_drew] at hM2); clear hM; have hM := Lib.hid hM2; clear hF; have hF := hM2; (try simp only [Mem, cellsAt, World.size_alloc, Nat.zero_add, Nat.reduceAdd, and_true] at hF); clear hM2; clear hb)
    go_ret
    exact ⟨rfl, by (repeat (first | exact hB | refine bl_al ?_ _ | refine Below.setCell ?_ (by first | exact hgs | exact Nat.le_succ_of_le hgs | exact hgs2 | exact hgs3) _ | refine Below.drew ?_ | refine bl_drewN ?_ _))⟩

theorem is_main (s : S8) (a1 ao : Option Addr) (n1 c1 n cp : Nat) (N : Int) (k : Nat) (hk : k < 18446744073709551616) (f g : Nat → Int) (w : World) (hT : Tab w)
    (hr1 : Row w a1 n1 c1 1 (bcells f n1)) (hr : Row w ao n cp 1 (bcells g n)) (hf : ∀ i, 0 ≤ f i ∧ f i < 256) (hg : ∀ i, 0 ≤ g i ∧ g i < 256) (hN : 0 ≤ N ∧ N < 18446744073709551616) :
    Calls Tryd.prog 3 #[.slice a1 n1 c1, stV s (.slice ao n cp) N, .int .u64 k] w fun e w' => e = .returned (.bool true) ∧ Below w.heap.size w w' := by
  by_cases hbig : 400 < n1 ∨ 400 < n
  · exact is_early s a1 ao n1 c1 n cp N k w hT hbig
  have l1 : n1 ≤ 400 := by omega
  have l2 : n ≤ 400 := by omega
  have hNW : 0 ≤ N ∧ N < WI := hN
  have key : ∀ T3 : S8, (∀ x, Below w.heap.size w x → Calls Tryd.prog 30 #[arrS s, .slice a1 n1 c1] x fun e w' => e = .returned (arrS T3) ∧ Below x.heap.size x w') →
      (∀ x, Below w.heap.size w x → Calls Tryd.prog 31 #[arrS s, .slice a1 n1 c1] x fun e w' => e = .returned (arrS T3) ∧ Below x.heap.size x w') →
      Calls Tryd.prog 3 #[.slice a1 n1 c1, stV s (.slice ao n cp) N, .int .u64 k] w fun e w' => e = .returned (.bool true) ∧ Below w.heap.size w w' := by
    intro T3 hb1 hb2
    have su := fun (x : World) (hb : Below w.heap.size w x) => sum_any a1 n1 c1 f x (hT.later hb) (hr1.later hb) hf (by omega)
    have rsu := fun (x : World) (hb : Below w.heap.size w x) => rsum_any a1 n1 c1 f x (hr1.later hb) hf (by omega)
    have dd := fun (x : World) (hb : Below w.heap.size w x) => double_any a1 n1 c1 f x (hT.later hb) (hr1.later hb) hf (by omega)
    have rdd := fun (x : World) (hb : Below w.heap.size w x) => rdouble_any a1 n1 c1 f x (hr1.later hb) hf (by omega)
    by_cases hs : (n : Int) = N % 64
    · have hNn : ((N.toNat : Nat) : Int) = N := by omega
      have e1 := fun (x : World) (hb : Below w.heap.size w x) => end_yes s ao n cp N.toNat g x (hT.later hb) (hr.later hb) hg (by omega) (by omega)
      have e2 := fun (x : World) (hb : Below w.heap.size w x) => rend_yes s ao n cp N.toNat g x (hr.later hb) hg (by omega) (by omega)
      rw [hNn] at e1 e2
      exact is_walk s a1 ao n1 c1 n cp N k hk _ _ _ _ T3 _ _ _ true w hT l1 l2 su rsu dd rdd
        (fun x hb => (write_yes s ao a1 n cp n1 c1 N g f x (hT.later hb) hs (hr.later hb) (hr1.later hb) hg hf (by omega) hNW).mono (by rintro e w' ⟨ao', cap, he, ho, hb'⟩; exact ⟨ao', cap, he, ho.row (bcells_one _ _), hb'⟩))
        (fun x hb => rwrite_yes s ao a1 n cp n1 c1 N g f x hs (hr.later hb) (hr1.later hb) hg hf (by omega) hNW)
        e1 e2 hb1 hb2
        (fun x => sane_any1 s ao n cp N (by omega) true (by rw [hs]; simp) hN.1 x) (fun x => rsane_any s ao n cp N (by omega) true (by rw [hs]; simp) hN.1 x)
    · exact is_walk s a1 ao n1 c1 n cp N k hk _ _ _ _ T3 _ _ _ false w hT l1 l2 su rsu dd rdd
        (fun x hb => (write_no s ao a1 n cp n1 c1 N f x (hT.later hb) (by omega) hN.1 hs (hr1.later hb) hf (by omega)).mono (by rintro e w' ⟨ao', cap, he, ho, hb'⟩; exact ⟨ao', cap, he, ho.row (bcells_one _ _), hb'⟩))
        (fun x hb => rwrite_no s ao a1 n cp n1 c1 N f x (by omega) hN.1 hs (hr1.later hb) hf (by omega))
        (fun x hb => end_no s ao n cp N x (hT.later hb) (by omega) hN.1 hs) (fun x hb => rend_no s ao n cp N x (by omega) hN.1 hs) hb1 hb2
        (fun x => sane_any1 s ao n cp N (by omega) false (by simpa using hs) hN.1 x) (fun x => rsane_any s ao n cp N (by omega) false (by simpa using hs) hN.1 x)
  by_cases h64 : n1 = 64
  · subst h64
    exact key (blk s f) (fun x hb => block_any s a1 c1 f x (hT.later hb) (hr1.later hb) hf) (fun x hb => rblock_any s a1 c1 f x (hr1.later hb) hf)
  · exact key s (fun x hb => block_other s a1 n1 c1 x h64) (fun x hb => rblock_other s a1 n1 c1 x h64)
end Go.Proofs.YtpdgeiflmnhkfaaDoor
