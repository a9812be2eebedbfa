/- Package compact: contracts of Get and Put at any slice, of Bounded and of Bytes. -/
import Derived.Test.YtpifenhboblcfaaCmp3
namespace Go.Proofs.Ytpifenhboblcfaa
set_option linter.unusedVariables false
set_option linter.unusedSimpArgs false
open Go.RowKit

theorem sizeBehind_cases (n : Int) : (sizeBehindN n = 1 ∧ n ≠ 253 ∧ n ≠ 254 ∧ n ≠ 255) ∨ (sizeBehindN n = 3 ∧ n = 253) ∨ (sizeBehindN n = 5 ∧ n = 254) ∨ (sizeBehindN n = 9 ∧ n = 255) := by
  unfold sizeBehindN
  by_cases h1 : n = 255
  · simp [h1]
  by_cases h2 : n = 254
  · simp [h2]
  by_cases h3 : n = 253
  · simp [h3]
  · simp [h1, h2, h3]

theorem get_any (ao : Option Addr) (n c : Nat) (f : Nat → Int) (w : World) (hm : n ≤ 140737488351232) (hr : Row w ao n c 1 (bcells f n)) (hb : ∀ i, 0 ≤ f i ∧ f i < 256) :
    Calls Try.prog 9 #[.slice ao n c] w fun e w' => e = .returned (.tuple #[.int .u64 (getF f n).1, .int .i64 (getF f n).2.1, .int .i64 (getF f n).2.2]) ∧ w = w' := by
  by_cases h0 : n = 0
  · subst h0
    have : getF f 0 = (0, 0, 1) := by simp [getF]
    rw [this]
    exact get_empty ao c w
  obtain ⟨b, off, rfl⟩ := row_addr hr (bcells_ne f n (by omega))
  have hc := fun i hi => row_cell hr i hi
  rcases sizeBehind_cases (f 0) with ⟨hk, _⟩ | ⟨hk, _⟩ | ⟨hk, _⟩ | ⟨hk, _⟩
  · have : getF f n = (f 0, 1, 0) := by simp [getF, h0, hk]
    rw [this]
    exact get_one b off n c f w hm (by omega) hk hc hb
  · by_cases hs : n < 3
    · have : getF f n = (0, 0, 1) := by unfold getF; rw [hk, if_neg h0, if_neg (by decide), if_pos (by omega)]
      rw [this]
      exact get_short b off n c f 3 w hm (by omega) hk (by omega) (by omega) hs hc
    · exact get_long b off n c f 3 w hm (by omega) hk (by omega) (by omega) (by omega) hc hb
  · by_cases hs : n < 5
    · have : getF f n = (0, 0, 1) := by unfold getF; rw [hk, if_neg h0, if_neg (by decide), if_pos (by omega)]
      rw [this]
      exact get_short b off n c f 5 w hm (by omega) hk (by omega) (by omega) hs hc
    · exact get_long b off n c f 5 w hm (by omega) hk (by omega) (by omega) (by omega) hc hb
  · by_cases hs : n < 9
    · have : getF f n = (0, 0, 1) := by unfold getF; rw [hk, if_neg h0, if_neg (by decide), if_pos (by omega)]
      rw [this]
      exact get_short b off n c f 9 w hm (by omega) hk (by omega) (by omega) hs hc
    · exact get_long b off n c f 9 w hm (by omega) hk (by omega) (by omega) (by omega) hc hb

theorem sizeOf_cases (n : Int) : (sizeOfN n = 1 ∧ n < 253) ∨ (sizeOfN n = 3 ∧ 253 ≤ n ∧ n < 65536) ∨ (sizeOfN n = 5 ∧ 65536 ≤ n ∧ n < 4294967296) ∨ (sizeOfN n = 9 ∧ 4294967296 ≤ n) := by
  unfold sizeOfN
  by_cases h1 : n < 253
  · simp [h1]
  by_cases h2 : n < 65536
  · simp [h1, h2]; omega
  by_cases h3 : n < 4294967296
  · simp [h1, h2, h3]; omega
  · simp [h1, h2, h3]; omega

theorem putL_len (k : Int) : (putL k).length = (sizeOfN k).toNat := by
  unfold putL sizeOfN
  by_cases h1 : k < 253
  · simp [h1]
  by_cases h2 : k < 65536
  · simp [h1, h2, leB_len]
  by_cases h3 : k < 4294967296
  · simp [h1, h2, h3, leB_len]
  · simp [h1, h2, h3, leB_len]

theorem put_any (ao : Option Addr) (n c : Nat) (xs : List Value) (k : Int) (w : World) (hm : n ≤ 140737488351232) (hk0 : 0 ≤ k) (hk1 : k < 18446744073709551616) (hr : Row w ao n c 1 xs) :
    Calls Try.prog 15 #[.slice ao n c, .int .u64 k] w fun e w' => ∃ g cap, e = .returned (.slice (some ⟨g, 0, none⟩) (n + (putL k).length) cap) ∧ w'.ownsRow w.heap.size 5 1 (.slice (some ⟨g, 0, none⟩) (n + (putL k).length) cap) (n + (putL k).length) (xs ++ putL k) ∧ Below w.heap.size w w' := by
  rcases sizeOf_cases k with ⟨hk, h1⟩ | ⟨hk, h1, h2⟩ | ⟨hk, h1, h2⟩ | ⟨hk, h1⟩
  · have : putL k = [.int .u8 k] := by simp [putL, h1]
    rw [this]
    exact put_one ao n c xs k w hm h1 hk0 hr
  · have : putL k = [.int .u8 253] ++ leB k 2 := by simp [putL, h2, show ¬ k < 253 by omega]
    rw [this]
    simp only [List.length_append, List.length_singleton, leB_len, ← Nat.add_assoc, ← List.append_assoc]
    exact put_3 ao n c xs k w hm hk hk0 hk1 hr
  · have : putL k = [.int .u8 254] ++ leB k 4 := by simp [putL, h2, show ¬ k < 253 by omega, show ¬ k < 65536 by omega]
    rw [this]
    simp only [List.length_append, List.length_singleton, leB_len, ← Nat.add_assoc, ← List.append_assoc]
    exact put_5 ao n c xs k w hm hk hk0 hk1 hr
  · have : putL k = [.int .u8 255] ++ leB k 8 := by simp [putL, show ¬ k < 253 by omega, show ¬ k < 65536 by omega, show ¬ k < 4294967296 by omega]
    rw [this]
    simp only [List.length_append, List.length_singleton, leB_len, ← Nat.add_assoc, ← List.append_assoc]
    exact put_9 ao n c xs k w hm hk hk0 hk1 hr

def f3 (i : Nat) : Int := if i = 0 then 253 else if i = 1 then 253 else 0
theorem f3_bd (i : Nat) : 0 ≤ f3 i ∧ f3 i < 256 := by unfold f3; split <;> (try split) <;> decide
theorem getF_f3 : getF f3 3 = (253, 3, 0) := by decide

set_option maxHeartbeats 400000 in
theorem awake_any (w : World) : Calls Try.prog 8 #[] w fun e w' => e = .returned (.bool true) ∧ Below w.heap.size w w' := by
  have hx := row_new w #[.int .u8 253, .int .u8 253, .int .u8 0] 5 3 3 1 rfl (by omega) (by simp [Value.oneCell'])
  have HX : Hid (Row (w.alloc (.cells #[.int .u8 253, .int .u8 253, .int .u8 0] 5)) (some ⟨w.heap.size, 0, none⟩) 3 3 1 (bcells f3 3)) := hx
  clear hx
  go_enter Try.func8, Try.ntmps8
  go_wp2_with fail
  refine (get_any _ 3 3 f3 _ (by omega) HX.out f3_bd).mono ?_
  rintro e w' ⟨rfl, rfl⟩
  rw [getF_f3]
  go_wp2_with fail
  refine (put_any none 0 0 [] 253 _ (by omega) (by omega) (by omega) (row_nil _ _)).mono ?_
  rintro e w2 ⟨g, cap, rfl, hown, hbel⟩
  have e3 : 0 + (putL 253).length = 3 := by decide
  rw [e3] at hown ⊢
  have hrow := row_own hown (by decide)
  clear e3
  have hcv := row_string (P := Try.prog) (T := 22) (S := 9) (zs := [253, 253, 0]) w2 Try.underlying22 Try.underlying5 Try.underlying9 hrow
  have hstr : (strOfNums [253, 253, 0]).toList = [253, 253, 0] := by decide +kernel
  have hbel2 := (below_alloc w _).trans (hbel.mono (by simp))
  clear hown hbel hrow HX
  go_wp2_with (go_at_call 17; refine (size_any _ _).mono ?_; rintro e w' ⟨rfl, rfl⟩)
  go_ret
  exact ⟨rfl, hbel2⟩
end Go.Proofs.Ytpifenhboblcfaa
