/- SHA-256: a state that a text has left: Write goes on with the text, End is its sum. (hM) -/
import Derived.Test.YtcaclbblldnnnaaDoorSh8
namespace Go.Proofs.YtcaclbblldnnnaaDoor
set_option linter.unusedVariables false
set_option linter.unusedSimpArgs false
open Go.RowKit

/-- the text told on: what a block further on sees -/
theorem text_shift (F f2 : Nat → Int) (n : Nat) : (fun i => catF F n f2 (64 * (n / 64) + i)) = catF (fun i => F (64 * (n / 64) + i)) (n % 64) f2 := by
  funext i
  unfold catF
  by_cases h : i < n % 64
  · rw [if_pos h, if_pos (by omega)]
  · rw [if_neg h, if_neg (by omega)]
    congr 1
    omega
theorem text_blks (F f2 : Nat → Int) (n n2 : Nat) : blks (blks s0H F (n / 64)) (catF (fun i => F (64 * (n / 64) + i)) (n % 64) f2) ((n % 64 + n2) / 64) = blks s0H (catF F n f2) ((n + n2) / 64) := by
  rw [show (n + n2) / 64 = n / 64 + (n % 64 + n2) / 64 by omega, blks_split, text_shift]
  congr 1
  exact blks_congr s0H (n / 64) fun i hi => by unfold catF; rw [if_pos (by omega)]
theorem write_text (F : Nat → Int) (n : Nat) (a1 : Option Addr) (c1 : Nat) (a2 : Option Addr) (n2 c2 : Nat) (f2 : Nat → Int) (w : World) (hT : Tab w)
    (hr1 : Row w a1 (n % 64) c1 1 (bcells (fun i => F (64 * (n / 64) + i)) (n % 64))) (hr2 : Row w a2 n2 c2 1 (bcells f2 n2)) (hF : ∀ i, 0 ≤ F i ∧ F i < 256) (hf2 : ∀ i, 0 ≤ f2 i ∧ f2 i < 256) (hn : n + n2 ≤ 70368744177664) :
    Calls Tryd.prog 20 #[stV (blks s0H F (n / 64)) (.slice a1 (n % 64) c1) (n : Int), .slice a2 n2 c2] w fun e w' => ∃ ao cap, e = .returned (stV (blks s0H (catF F n f2) ((n + n2) / 64)) (.slice ao ((n + n2) % 64) cap) ((n + n2 : Nat) : Int)) ∧
      OwnN w.heap.size 5 1 w' ao ((n + n2) % 64) cap (bcells (fun i => catF F n f2 (64 * ((n + n2) / 64) + i)) ((n + n2) % 64)) ∧ Below w.heap.size w w' := by
  have h := write_yes (blks s0H F (n / 64)) a1 a2 (n % 64) c1 n2 c2 (n : Int) (fun i => F (64 * (n / 64) + i)) f2 w hT (by omega) hr1 hr2 (fun i => hF _) hf2 (by omega) ⟨by omega, by unfold WI; omega⟩
  have e2 : (n % 64 + n2) % 64 = (n + n2) % 64 := by omega
  have e3 : IntKind.u64.wrap ((n : Int) + (n2 : Int)) = ((n + n2 : Nat) : Int) := by rw [IntKind.wrap_u64]; omega
  have e4 : (fun i => catF (fun i => F (64 * (n / 64) + i)) (n % 64) f2 (64 * ((n % 64 + n2) / 64) + i)) = fun i => catF F n f2 (64 * ((n + n2) / 64) + i) := by
    funext i
    rw [← text_shift]
    show catF F n f2 (64 * (n / 64) + (64 * ((n % 64 + n2) / 64) + i)) = _
    congr 1
    omega
  rw [text_blks, e2, e3, e4] at h
  exact h
theorem end_text (F : Nat → Int) (n : Nat) (a1 : Option Addr) (c1 : Nat) (w : World) (hT : Tab w)
    (hr1 : Row w a1 (n % 64) c1 1 (bcells (fun i => F (64 * (n / 64) + i)) (n % 64))) (hF : ∀ i, 0 ≤ F i ∧ F i < 256) (hn : n ≤ 70368744177664) :
    Calls Tryd.prog 22 #[stV (blks s0H F (n / 64)) (.slice a1 (n % 64) c1) (n : Int)] w fun e w' => e = .returned (h32 (shaF F n)) ∧ Below w.heap.size w w' := by
  have h := end_yes (blks s0H F (n / 64)) a1 (n % 64) c1 n (fun i => F (64 * (n / 64) + i)) w hT hr1 (fun i => hF _) rfl (by omega)
  rw [sha_split] at h
  exact h
theorem catF_b (f g : Nat → Int) (n : Nat) (hf : ∀ i, 0 ≤ f i ∧ f i < 256) (hg : ∀ i, 0 ≤ g i ∧ g i < 256) (i : Nat) : 0 ≤ catF f n g i ∧ catF f n g i < 256 := by
  unfold catF
  split
  · exact hf i
  · exact hg _
/-- nothing summed is the state of no text -/
theorem start_text : stV s0H (.slice none 0 0) 0 = stV (blks s0H (fun _ => 0) (0 / 64)) (.slice none (0 % 64) 0) ((0 : Nat) : Int) := rfl
end Go.Proofs.YtcaclbblldnnnaaDoor
