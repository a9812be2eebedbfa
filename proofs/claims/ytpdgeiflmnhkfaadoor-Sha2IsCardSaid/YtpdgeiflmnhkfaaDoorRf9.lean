/- Towards Sha2Is: ours, Block of other lengths, the laws on states that may not be. (hM) -/
import Derived.Test.YtpdgeiflmnhkfaaDoorRf8
import Derived.Test.YtpdgeiflmnhkfaaDoorSs2
namespace Go.Proofs.YtpdgeiflmnhkfaaDoor
set_option linter.unusedVariables false
set_option linter.unusedSimpArgs false
open Go.RowKit

set_option maxRecDepth 100000 in
set_option maxHeartbeats 1000000 in
theorem ours2_any (s : S8) (ao : Option Addr) (n c : Nat) (N : Int) (w : World) :
    Calls Tryd.prog 26 #[stV s (.slice ao n c) N] w fun e w' => e = .returned (stV s (.slice ao n c) N) ∧ Below w.heap.size w w' := by
  obtain ⟨a0, b0, c0, d0, e0, f0, g0, h0⟩ := s
  have hB1 := bl_al (bl_al (Below.refl w.heap.size w) (.cells #[.int .u32 a0, .int .u32 b0, .int .u32 c0, .int .u32 d0, .int .u32 e0, .int .u32 f0, .int .u32 g0, .int .u32 h0, .slice ao n c, .int .u64 N] 27)) (.cells #[.int .u32 a0, .int .u32 b0, .int .u32 c0, .int .u32 d0, .int .u32 e0, .int .u32 f0, .int .u32 g0, .int .u32 h0, .slice ao n c, .int .u64 N] 34)
  go_enter Tryd.func26, Tryd.ntmps26
  go_wp2
  refine bodyPost_ret (v := stV ⟨a0, b0, c0, d0, e0, f0, g0, h0⟩ (.slice ao n c) N) (by simp [results, Tryd.results26, go_sem]) rfl ⟨rfl, hB1⟩

set_option maxRecDepth 100000 in
set_option maxHeartbeats 1000000 in
theorem block_other (s : S8) (ao : Option Addr) (n c : Nat) (w : World) (hn : n ≠ 64) :
    Calls Tryd.prog 30 #[arrS s, .slice ao n c] w fun e w' => e = .returned (arrS s) ∧ Below w.heap.size w w' := by
  have hn1 : ¬ (n : Int) = 64 := by omega
  obtain ⟨a0, b0, c0, d0, e0, f0, g0, h0⟩ := s
  have hB1 := bl_al (bl_al (Below.refl w.heap.size w) (.cells #[.int .u32 a0, .int .u32 b0, .int .u32 c0, .int .u32 d0, .int .u32 e0, .int .u32 f0, .int .u32 g0, .int .u32 h0] 24)) (.cells #[.int .u32 a0, .int .u32 b0, .int .u32 c0, .int .u32 d0, .int .u32 e0, .int .u32 f0, .int .u32 g0, .int .u32 h0] 24)
  go_enter Tryd.func30, Tryd.ntmps30
  go_wp2
  refine bodyPost_ret (v := arrS ⟨a0, b0, c0, d0, e0, f0, g0, h0⟩) (by simp [results, Tryd.results30, go_sem]) rfl ⟨rfl, hB1⟩

set_option maxRecDepth 100000 in
set_option maxHeartbeats 1000000 in
theorem rblock_other (s : S8) (ao : Option Addr) (n c : Nat) (w : World) (hn : n ≠ 64) :
    Calls Tryd.prog 31 #[arrS s, .slice ao n c] w fun e w' => e = .returned (arrS s) ∧ Below w.heap.size w w' := by
  have hn1 : ¬ (n : Int) = 64 := by omega
  obtain ⟨a0, b0, c0, d0, e0, f0, g0, h0⟩ := s
  have hB1 := bl_al (bl_al (Below.refl w.heap.size w) (.cells #[.int .u32 a0, .int .u32 b0, .int .u32 c0, .int .u32 d0, .int .u32 e0, .int .u32 f0, .int .u32 g0, .int .u32 h0] 24)) (.cells #[.int .u32 a0, .int .u32 b0, .int .u32 c0, .int .u32 d0, .int .u32 e0, .int .u32 f0, .int .u32 g0, .int .u32 h0] 24)
  go_enter Tryd.func31, Tryd.ntmps31
  go_wp2
  refine bodyPost_ret (v := arrS ⟨a0, b0, c0, d0, e0, f0, g0, h0⟩) (by simp [results, Tryd.results31, go_sem]) rfl ⟨rfl, hB1⟩

/-- a state that may not be: what is written stands behind the beginning -/
theorem write_no (s : S8) (a1 a2 : Option Addr) (n1 c1 n2 c2 : Nat) (N : Int) (f2 : Nat → Int) (w : World) (hT : Tab w) (hn64 : n1 < 18446744073709551616) (hN0 : 0 ≤ N) (hs : (n1 : Int) ≠ N % 64)
    (hr2 : Row w a2 n2 c2 1 (bcells f2 n2)) (hf2 : ∀ i, 0 ≤ f2 i ∧ f2 i < 256) (hn : n2 ≤ 70368744177664) :
    Calls Tryd.prog 25 #[stV s (.slice a1 n1 c1) N, .slice a2 n2 c2] w fun e w' => ∃ ao cap, e = .returned (stV (blks s0H f2 (n2 / 64)) (.slice ao (n2 % 64) cap) (n2 : Int)) ∧
      OwnN w.heap.size 5 1 w' ao (n2 % 64) cap (bcells (fun i => f2 (64 * (n2 / 64) + i)) (n2 % 64)) ∧ Below w.heap.size w w' := by
  have h := write_of s a1 n1 c1 N s0H none a2 0 0 n2 c2 0 (fun _ => 0) f2 w hT (fun x hb => sane_no s a1 n1 c1 N hn64 hN0 hs x (hT.later hb)) (row_nil w 1) hr2 (fun _ => by simp) hf2 (by omega) ⟨by omega, by decide⟩
  have hw : IntKind.u64.wrap (n2 : Int) = (n2 : Int) := by rw [IntKind.wrap_u64]; omega
  simp only [catF_zero, Nat.zero_add, Int.zero_add, hw] at h
  exact h
theorem rwrite_no (s : S8) (a1 a2 : Option Addr) (n1 c1 n2 c2 : Nat) (N : Int) (f2 : Nat → Int) (w : World) (hn64 : n1 < 18446744073709551616) (hN0 : 0 ≤ N) (hs : (n1 : Int) ≠ N % 64)
    (hr2 : Row w a2 n2 c2 1 (bcells f2 n2)) (hf2 : ∀ i, 0 ≤ f2 i ∧ f2 i < 256) (hn : n2 ≤ 70368744177664) :
    Calls Tryd.prog 27 #[stV s (.slice a1 n1 c1) N, .slice a2 n2 c2] w fun e w' => ∃ ao cap, e = .returned (stV (blks s0H f2 (n2 / 64)) (.slice ao (n2 % 64) cap) (n2 : Int)) ∧
      Row w' ao (n2 % 64) cap 1 (bcells (fun i => f2 (64 * (n2 / 64) + i)) (n2 % 64)) ∧ Below w.heap.size w w' := by
  have h := rwrite_from s a1 n1 c1 N s0H none a2 0 0 n2 c2 0 (fun _ => 0) f2 w (fun x => rsane_any s a1 n1 c1 N hn64 false (by simpa using hs) hN0 x) (fun x => rstart_any x) (by omega) (row_nil w 1) hr2 (fun _ => by simp) hf2 hn ⟨by omega, by decide⟩
  have hw : IntKind.u64.wrap (n2 : Int) = (n2 : Int) := by rw [IntKind.wrap_u64]; omega
  simp only [catF_zero, Nat.zero_add, Int.zero_add, hw] at h
  exact h
theorem end_no (s : S8) (a1 : Option Addr) (n1 c1 : Nat) (N : Int) (w : World) (hT : Tab w) (hn64 : n1 < 18446744073709551616) (hN0 : 0 ≤ N) (hs : (n1 : Int) ≠ N % 64) :
    Calls Tryd.prog 28 #[stV s (.slice a1 n1 c1) N] w fun e w' => e = .returned (.agg (bcells (outF (blks s0H (catF (fun _ => 0) 0 (padF 0 (padN 0))) ((0 + padN 0) / 64))) 32).toArray) ∧ Below w.heap.size w w' :=
  end_of s a1 n1 c1 N s0H none 0 0 0 (fun _ => 0) w hT (fun x hb => sane_no s a1 n1 c1 N hn64 hN0 hs x (hT.later hb)) (row_nil w 1) (fun _ => by simp) rfl (by decide)
theorem rend_no (s : S8) (a1 : Option Addr) (n1 c1 : Nat) (N : Int) (w : World) (hn64 : n1 < 18446744073709551616) (hN0 : 0 ≤ N) (hs : (n1 : Int) ≠ N % 64) :
    Calls Tryd.prog 29 #[stV s (.slice a1 n1 c1) N] w fun e w' => e = .returned (.agg (bcells (outF (blks s0H (catF (fun _ => 0) 0 (padF 0 (padN 0))) ((0 + padN 0) / 64))) 32).toArray) ∧ Below w.heap.size w w' :=
  rend_from s a1 n1 c1 N s0H none 0 0 0 (fun _ => 0) w (fun x => rsane_any s a1 n1 c1 N hn64 false (by simpa using hs) hN0 x) (fun x => rstart_any x) (row_nil w 1) (fun _ => by simp) rfl (by decide)
end Go.Proofs.YtpdgeiflmnhkfaaDoor
