/- Package compact: contract of Put. -/
import Derived.Test.YtpifenhboblcfaaCmp2
namespace Go.Proofs.Ytpifenhboblcfaa
set_option linter.unusedVariables false
set_option linter.unusedSimpArgs false
open Go.RowKit

theorem eltU8 : Elt Try.prog 22 5 (.int .u8 0) 1 1 := ⟨Try.underlying22, by kernel_rfl, rfl, by decide, by decide⟩

/-- the bytes that are put -/
def leB (k : Int) (j : Nat) : List Value := (List.range j).map fun i => .int .u8 (k / 2 ^ (8 * i) % 256)
def putL (k : Int) : List Value :=
  if k < 253 then [.int .u8 k] else if k < 65536 then .int .u8 253 :: leB k 2 else if k < 4294967296 then .int .u8 254 :: leB k 4 else .int .u8 255 :: leB k 8

theorem leB_one (k : Int) (j : Nat) : ∀ u ∈ leB k j, u.oneCell' = true := by
  intro u hu
  simp only [leB, List.mem_map] at hu
  obtain ⟨i, _, rfl⟩ := hu
  rfl
theorem leB_len (k : Int) (j : Nat) : (leB k j).length = j := by simp [leB]

set_option maxHeartbeats 400000 in
theorem put_one (ao : Option Addr) (n c : Nat) (xs : List Value) (k : Int) (w : World) (hm : n ≤ 140737488351232)
    (hk : k < 253) (hk0 : 0 ≤ k) (hr : Row w ao n c 1 xs) :
    Calls Try.prog 15 #[.slice ao n c, .int .u64 k] w fun e w' => ∃ g cap, e = .returned (.slice (some ⟨g, 0, none⟩) (n + 1) cap) ∧ w'.ownsRow w.heap.size 5 1 (.slice (some ⟨g, 0, none⟩) (n + 1) cap) (n + 1) (xs ++ [.int .u8 k]) ∧ Below w.heap.size w w' := by
  have hnc' : (n : Int) ≤ (c : Int) := by have := hr.le; omega
  have hk' : sizeOfN k = 1 := by simp [sizeOfN, hk]
  have HK := Lib.hid hk'
  have hx := row_new w #[.int .u8 k] 5 1 1 1 rfl (by omega) (by simp [Value.oneCell'])
  have HX := Lib.hid hx
  have HR := Lib.hid hr
  clear hk' hx hr
  go_enter Try.func15, Try.ntmps15
  go_wp2_with (first | (go_at_call 17; refine (size_any _ _).mono ?_; rintro e w' ⟨rfl, rfl⟩; rw [HK.out]) | (at_builtin; refine wpList_appF eltU8 _ rfl _ _ rfl ao n n xs rfl (HR.out.full.alloc _) _ 1 1 _ rfl HX.out (by omega) (by omega) ?_; intro g cap w1 hown hgrow hg hlt))
  go_ret
  exact ⟨g, cap, rfl, ownsRow_base hown (by simp), below_grown (below_alloc _ _) hgrow (fun _ h => by cases h)⟩

/-- the relation of Put's loop -/
def PutRel (w : World) (n : Nat) (xs : List Value) (fb k : Int) (m : Nat) (b i : Value) (wr : World) : Prop :=
  ∃ j g cap : Nat, j ≤ m ∧ i = .int .i64 j ∧ b = .slice (some ⟨g, 0, none⟩) (n + 1 + j) cap ∧ wr.ownsRow w.heap.size 5 1 (.slice (some ⟨g, 0, none⟩) (n + 1 + j) cap) (n + 1 + j) (xs ++ [.int .u8 fb] ++ leB k j) ∧ Below w.heap.size w wr

theorem leB_succ (k : Int) (j : Nat) : leB k (j + 1) = leB k j ++ [.int .u8 (k / 2 ^ (8 * j) % 256)] := by
  simp [leB, List.range_succ]

set_option maxHeartbeats 400000 in
theorem put_3 (ao : Option Addr) (n c : Nat) (xs : List Value) (k : Int) (w : World) (hm : n ≤ 140737488351232)
    (hk : sizeOfN k = 3) (_hk0 : 0 ≤ k) (_hk1 : k < 18446744073709551616) (hr : Row w ao n c 1 xs) :
    Calls Try.prog 15 #[.slice ao n c, .int .u64 k] w fun e w' => ∃ g cap, e = .returned (.slice (some ⟨g, 0, none⟩) (n + 1 + 2) cap) ∧ w'.ownsRow w.heap.size 5 1 (.slice (some ⟨g, 0, none⟩) (n + 1 + 2) cap) (n + 1 + 2) (xs ++ [.int .u8 253] ++ leB k 2) ∧ Below w.heap.size w w' := by
  have hnc' : (n : Int) ≤ (c : Int) := by have := hr.le; omega
  have HK := Lib.hid hk
  have hx := row_new w #[.int .u8 253] 5 1 1 1 rfl (by omega) (by simp [Value.oneCell'])
  have HX := Lib.hid hx
  have HR := Lib.hid hr
  clear hk hx hr
  go_enter Try.func15, Try.ntmps15
  go_wp2_with (first | (go_at_call 17; refine (size_any _ _).mono ?_; rintro e w' ⟨rfl, rfl⟩; rw [HK.out]) | (at_builtin; refine wpList_appF eltU8 _ rfl _ _ rfl ao n n xs rfl (HR.out.full.alloc _) _ 1 1 _ rfl HX.out (by omega) (by omega) ?_; intro g cap w1 hown hgrow hg hlt))
  have hown' := Lib.hid (ownsRow_base (B' := w.heap.size) hown (by simp))
  have hbel := below_grown (below_alloc w _) hgrow (fun _ h => by cases h)
  clear hown hgrow hg hlt HX
  go_loopw [0, 40] (fun b i wr => PutRel w n xs 253 k 2 b i wr) (fun _ i _ => 2 - (intOf i).toNat)
  case atStart => exact ⟨0, g, cap, by omega, rfl, rfl, by simpa [leB] using hown'.out, hbel⟩
  case round =>
    obtain ⟨j, g', cap', hj, rfl, rfl, hown, hbel'⟩ := hrel
    clear hbel hown'
    by_cases hlt : j < 2
    · have hj8 : (8 : Int) * (j : Int) < 64 := by omega
      have HX := Lib.hid (row_new wr #[.int .u8 (k / 2 ^ (8 * j) % 256)] 5 1 1 1 rfl (by omega) (by simp [Value.oneCell']))
      have HO := Lib.hid (hown.alloc (.cells #[.int .u8 (k / 2 ^ (8 * j) % 256)] 5))
      have hbg := (hown.lt g' rfl).1
      have hsz := hbel'.size
      clear hown
      go_wp2_with (at_builtin; refine wpList_appO eltU8 _ rfl _ _ rfl w.heap.size g' (n + 1 + j) cap' _ rfl HO.out _ 1 1 _ rfl HX.out (by omega) (by simp; omega) ?_; intro g2 cap2 w2 hown2 hgrow2 _ _ _)
      have HO2 := Lib.hid hown2
      have hb2 := below_grown (hbel'.trans ((Below.refl _ _).alloc hsz _)) hgrow2 (fun k hk => by cases hk; exact hbg)
      clear hown2 hgrow2
      go_roundw
      case rel => exact ⟨j + 1, g2, cap2, by omega, by go_num, rfl, by rw [leB_succ, ← List.append_assoc]; exact HO2.out, hb2⟩
      case measure => simp [intOf]; omega
    · have : j = 2 := by omega
      subst this
      have HO := Lib.hid hown
      clear hown
      go_wp2
      go_ret
      exact ⟨g', cap', rfl, HO.out, hbel'⟩

set_option maxHeartbeats 400000 in
theorem put_5 (ao : Option Addr) (n c : Nat) (xs : List Value) (k : Int) (w : World) (hm : n ≤ 140737488351232)
    (hk : sizeOfN k = 5) (_hk0 : 0 ≤ k) (_hk1 : k < 18446744073709551616) (hr : Row w ao n c 1 xs) :
    Calls Try.prog 15 #[.slice ao n c, .int .u64 k] w fun e w' => ∃ g cap, e = .returned (.slice (some ⟨g, 0, none⟩) (n + 1 + 4) cap) ∧ w'.ownsRow w.heap.size 5 1 (.slice (some ⟨g, 0, none⟩) (n + 1 + 4) cap) (n + 1 + 4) (xs ++ [.int .u8 254] ++ leB k 4) ∧ Below w.heap.size w w' := by
  have hnc' : (n : Int) ≤ (c : Int) := by have := hr.le; omega
  have HK := Lib.hid hk
  have hx := row_new w #[.int .u8 254] 5 1 1 1 rfl (by omega) (by simp [Value.oneCell'])
  have HX := Lib.hid hx
  have HR := Lib.hid hr
  clear hk hx hr
  go_enter Try.func15, Try.ntmps15
  go_wp2_with (first | (go_at_call 17; refine (size_any _ _).mono ?_; rintro e w' ⟨rfl, rfl⟩; rw [HK.out]) | (at_builtin; refine wpList_appF eltU8 _ rfl _ _ rfl ao n n xs rfl (HR.out.full.alloc _) _ 1 1 _ rfl HX.out (by omega) (by omega) ?_; intro g cap w1 hown hgrow hg hlt))
  have hown' := Lib.hid (ownsRow_base (B' := w.heap.size) hown (by simp))
  have hbel := below_grown (below_alloc w _) hgrow (fun _ h => by cases h)
  clear hown hgrow hg hlt HX
  go_loopw [0, 40] (fun b i wr => PutRel w n xs 254 k 4 b i wr) (fun _ i _ => 4 - (intOf i).toNat)
  case atStart => exact ⟨0, g, cap, by omega, rfl, rfl, by simpa [leB] using hown'.out, hbel⟩
  case round =>
    obtain ⟨j, g', cap', hj, rfl, rfl, hown, hbel'⟩ := hrel
    clear hbel hown'
    by_cases hlt : j < 4
    · have hj8 : (8 : Int) * (j : Int) < 64 := by omega
      have HX := Lib.hid (row_new wr #[.int .u8 (k / 2 ^ (8 * j) % 256)] 5 1 1 1 rfl (by omega) (by simp [Value.oneCell']))
      have HO := Lib.hid (hown.alloc (.cells #[.int .u8 (k / 2 ^ (8 * j) % 256)] 5))
      have hbg := (hown.lt g' rfl).1
      have hsz := hbel'.size
      clear hown
      go_wp2_with (at_builtin; refine wpList_appO eltU8 _ rfl _ _ rfl w.heap.size g' (n + 1 + j) cap' _ rfl HO.out _ 1 1 _ rfl HX.out (by omega) (by simp; omega) ?_; intro g2 cap2 w2 hown2 hgrow2 _ _ _)
      have HO2 := Lib.hid hown2
      have hb2 := below_grown (hbel'.trans ((Below.refl _ _).alloc hsz _)) hgrow2 (fun k hk => by cases hk; exact hbg)
      clear hown2 hgrow2
      go_roundw
      case rel => exact ⟨j + 1, g2, cap2, by omega, by go_num, rfl, by rw [leB_succ, ← List.append_assoc]; exact HO2.out, hb2⟩
      case measure => simp [intOf]; omega
    · have : j = 4 := by omega
      subst this
      have HO := Lib.hid hown
      clear hown
      go_wp2
      go_ret
      exact ⟨g', cap', rfl, HO.out, hbel'⟩

set_option maxHeartbeats 400000 in
theorem put_9 (ao : Option Addr) (n c : Nat) (xs : List Value) (k : Int) (w : World) (hm : n ≤ 140737488351232)
    (hk : sizeOfN k = 9) (_hk0 : 0 ≤ k) (_hk1 : k < 18446744073709551616) (hr : Row w ao n c 1 xs) :
    Calls Try.prog 15 #[.slice ao n c, .int .u64 k] w fun e w' => ∃ g cap, e = .returned (.slice (some ⟨g, 0, none⟩) (n + 1 + 8) cap) ∧ w'.ownsRow w.heap.size 5 1 (.slice (some ⟨g, 0, none⟩) (n + 1 + 8) cap) (n + 1 + 8) (xs ++ [.int .u8 255] ++ leB k 8) ∧ Below w.heap.size w w' := by
  have hnc' : (n : Int) ≤ (c : Int) := by have := hr.le; omega
  have HK := Lib.hid hk
  have hx := row_new w #[.int .u8 255] 5 1 1 1 rfl (by omega) (by simp [Value.oneCell'])
  have HX := Lib.hid hx
  have HR := Lib.hid hr
  clear hk hx hr
  go_enter Try.func15, Try.ntmps15
  go_wp2_with (first | (go_at_call 17; refine (size_any _ _).mono ?_; rintro e w' ⟨rfl, rfl⟩; rw [HK.out]) | (at_builtin; refine wpList_appF eltU8 _ rfl _ _ rfl ao n n xs rfl (HR.out.full.alloc _) _ 1 1 _ rfl HX.out (by omega) (by omega) ?_; intro g cap w1 hown hgrow hg hlt))
  have hown' := Lib.hid (ownsRow_base (B' := w.heap.size) hown (by simp))
  have hbel := below_grown (below_alloc w _) hgrow (fun _ h => by cases h)
  clear hown hgrow hg hlt HX
  go_loopw [0, 40] (fun b i wr => PutRel w n xs 255 k 8 b i wr) (fun _ i _ => 8 - (intOf i).toNat)
  case atStart => exact ⟨0, g, cap, by omega, rfl, rfl, by simpa [leB] using hown'.out, hbel⟩
  case round =>
    obtain ⟨j, g', cap', hj, rfl, rfl, hown, hbel'⟩ := hrel
    clear hbel hown'
    by_cases hlt : j < 8
    · have hj8 : (8 : Int) * (j : Int) < 64 := by omega
      have HX := Lib.hid (row_new wr #[.int .u8 (k / 2 ^ (8 * j) % 256)] 5 1 1 1 rfl (by omega) (by simp [Value.oneCell']))
      have HO := Lib.hid (hown.alloc (.cells #[.int .u8 (k / 2 ^ (8 * j) % 256)] 5))
      have hbg := (hown.lt g' rfl).1
      have hsz := hbel'.size
      clear hown
      go_wp2_with (at_builtin; refine wpList_appO eltU8 _ rfl _ _ rfl w.heap.size g' (n + 1 + j) cap' _ rfl HO.out _ 1 1 _ rfl HX.out (by omega) (by simp; omega) ?_; intro g2 cap2 w2 hown2 hgrow2 _ _ _)
      have HO2 := Lib.hid hown2
      have hb2 := below_grown (hbel'.trans ((Below.refl _ _).alloc hsz _)) hgrow2 (fun k hk => by cases hk; exact hbg)
      clear hown2 hgrow2
      go_roundw
      case rel => exact ⟨j + 1, g2, cap2, by omega, by go_num, rfl, by rw [leB_succ, ← List.append_assoc]; exact HO2.out, hb2⟩
      case measure => simp [intOf]; omega
    · have : j = 8 := by omega
      subst this
      have HO := Lib.hid hown
      clear hown
      go_wp2
      go_ret
      exact ⟨g', cap', rfl, HO.out, hbel'⟩

end Go.Proofs.Ytpifenhboblcfaa
