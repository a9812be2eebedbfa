/- SHA-256: Pad. (hM) -/
import Derived.Test.YtlfabchlblgmbaaDoorSh3
namespace Go.Proofs.YtlfabchlblgmbaaDoor
set_option linter.unusedVariables false
set_option linter.unusedSimpArgs false
open Go.RowKit

/-- make([]byte, n) of an unsigned n -/
theorem wpList_makeBu {P : Program} {T E : TypeId} (he : Elt P T E (.int .u8 0) 1 1) (w : World) {ops : Array Oper} {rest : List Oper} {o : Oper} {a : Act} {Q : Exit → Act → World → Prop} (hgd : o.guard = none) (l : Operand) (hop : o.op = Op.makeSlice T l l)
    (n : Nat) (hl : a.eval l = .int .u64 (n : Int)) (hn : n ≤ 281474976710656)
    (h : ∀ w', Own w' w.heap.size E w.heap.size n n (fun _ => 0) → w.grownBy w' none → wpList P ops Q rest (a.put o.dst (.slice (some ⟨w.heap.size, 0, none⟩) n n)) w') : wpList P ops Q (o :: rest) a w := by
  obtain ⟨i, hi, hz0, hz1, hz2⟩ := info_parts he.hi
  exact wpList_make_full w hgd l l T hop w.heap.size E i (.int .u8 0) 1 he.ht hi hz0 hz1 .u64 .u64 n n n hl hl rfl rfl (by rw [hz2]; omega) (by unfold maxLen; omega) (Nat.le_refl _) fun w' h1 h2 => h w' (own_made h1) h2

/-- i bytes of the length laid -/
def padP (D : Int) (k i j : Nat) : Int := if j = 0 then 128 else if k - i ≤ j then IntKind.u8.wrap (D / 2 ^ (8 * (k - 1 - j))) else 0
def PadRel (w : World) (D : Int) (k : Nat) (i : Value) (wr : World) : Prop :=
  ∃ j : Nat, j ≤ 8 ∧ i = .int .i64 j ∧ Own wr w.heap.size 5 w.heap.size k k (padP D k j) ∧ Below w.heap.size w wr
theorem padP_set (D : Int) (k i : Nat) (hk : 9 ≤ k) (hi : i < 8) : ∀ j, j < k → setF (padP D k i) (k - 1 - i) (IntKind.u8.wrap (D / 2 ^ (8 * i))) j = padP D k (i + 1) j := by
  intro j hj
  unfold setF padP
  by_cases h : j = k - 1 - i
  · rw [if_pos h, if_neg (by omega), if_pos (by omega)]
    rw [show k - 1 - j = i by omega]
  · rw [if_neg h]
    by_cases h0 : j = 0
    · rw [if_pos h0, if_pos h0]
    · rw [if_neg h0, if_neg h0]
      by_cases h1 : k - i ≤ j
      · rw [if_pos h1, if_pos (by omega)]
      · rw [if_neg h1, if_neg (by omega)]

set_option maxRecDepth 100000 in
set_option maxHeartbeats 4000000 in
theorem pad_any (n : Nat) (hn : n < 18446744073709551616) (w : World) :
    Calls Tryd.prog 27 #[.int .u64 n] w fun e w' => e = .returned (.slice (some ⟨w.heap.size, 0, none⟩) (padN n) (padN n)) ∧ Own w' w.heap.size 5 w.heap.size (padN n) (padN n) (padF n (padN n)) ∧ Below w.heap.size w w' := by
  obtain ⟨r, hr⟩ : ∃ r, n % 64 = r := ⟨_, rfl⟩
  obtain ⟨z, hz⟩ : ∃ z, (119 - r) % 64 = z := ⟨_, rfl⟩
  obtain ⟨k, hk⟩ : ∃ k, padN n = k := ⟨_, rfl⟩
  have hkz : k = 9 + z := by rw [← hk, padN, hr, hz]
  have hk9 : 9 ≤ k ∧ k ≤ 72 := by omega
  obtain ⟨D, hD⟩ : ∃ D, IntKind.u64.wrap ((n : Int) * 8) = D := ⟨_, rfl⟩
  have hpf : ∀ j, j < k → padP D k 8 j = padF n k j := fun j hj => by unfold padP padF; rw [hD]
  rw [hk]
  have f1 : (n : Int) % 64 = (r : Int) := by omega
  have f1' : (n : Int).tmod 64 = (r : Int) := by rw [Int.tmod_eq_emod_of_nonneg (by omega)]; exact f1
  have f2 : IntKind.u64.wrap (119 - (r : Int)) = 119 - (r : Int) := by rw [IntKind.wrap_u64]; omega
  have f3 : (119 - (r : Int)) % 64 = (z : Int) := by omega
  have f3' : (119 - (r : Int)).tmod 64 = (z : Int) := by rw [Int.tmod_eq_emod_of_nonneg (by omega)]; exact f3
  have f4 : IntKind.u64.wrap (1 + (z : Int)) = 1 + (z : Int) := by rw [IntKind.wrap_u64]; omega
  have f5 : IntKind.u64.wrap (1 + (z : Int) + 8) = (k : Int) := by rw [IntKind.wrap_u64]; omega
  have HP := Lib.hid (And.intro hk9 hpf)
  have hk0 : 0 < k := by omega
  have hn0 : (0 : Int) ≤ (n : Int) := by omega
  clear hr hz hkz hk hpf hn hk9
  go_enter Tryd.func27, Tryd.ntmps27
  go_wp2_with (refine wpList_makeBu eltU8 _ rfl (.tmp 13) rfl k rfl (by have := HP.out.1; omega) ?_; intro w2 hown2 hgrow2; have hc0 := hown2.cell 0 (by have := HP.out.1; omega); have hz0 := hown2.frozen 0)
  have HO := Lib.hid (hown2.set 0 128)
  have hB : Below w.heap.size w (w2.setCell ⟨w.heap.size, 0, none⟩ (.int .u8 128)) := ((Below.refl _ _).grown hgrow2 (Nat.le_refl _) (fun _ h => by cases h)).setCell (Nat.le_refl _) _
  clear hown2 hgrow2 hc0 hz0
  go_loopw [19] (fun i wr => PadRel w D k i wr) (fun i _ => 8 - (intOf i).toNat)
  case atStart =>
    refine ⟨0, Nat.zero_le _, rfl, HO.out.congr fun j hj => ?_, hB⟩
    unfold setF padP
    by_cases h : j = 0
    · rw [if_pos h, if_pos h]
    · rw [if_neg h, if_neg h, if_neg (by omega)]
  case round =>
    obtain ⟨j, hj, rfl, hown, hB⟩ := hrel
    clear HO
    by_cases hlt : j < 8
    · have hk9 := HP.out.1
      obtain ⟨s, hs⟩ : ∃ s, 8 * j = s := ⟨_, rfl⟩
      obtain ⟨t, ht⟩ : ∃ t, k - 1 - j = t := ⟨_, rfl⟩
      have hst := padP_set D k j hk9.1 hlt
      rw [ht, hs] at hst
      have hc := hown.cell t (by omega)
      have hz := hown.frozen t
      have g1 : IntKind.i64.wrap ((k : Int) - 1) = (k : Int) - 1 := by rw [IntKind.wrap_i64]; omega
      have g2 : (k : Int) - 1 - (j : Int) = (t : Int) := by omega
      have g2' : IntKind.i64.wrap (t : Int) = (t : Int) := by rw [IntKind.wrap_i64]; omega
      have g3 : IntKind.i64.wrap (8 * (j : Int)) = (s : Int) := by rw [IntKind.wrap_i64]; omega
      have hs64 : (s : Int) ≤ 64 := by omega
      have htk : (t : Int) < (k : Int) := by omega
      have HO := Lib.hid hown
      have HS := Lib.hid hst
      clear hs ht hst hown hk9 f1 f1' f2 f3 f3' f4 f5
      have hj8 : (j : Int) < 8 := by omega
      go_wp2
      refine ⟨⟨j + 1, by omega, by go_num, ((HO.out.set t _).congr HS.out), hB.setCell (Nat.le_refl _) _⟩, by simp [intOf]; omega⟩
    · have hje : j = 8 := by omega
      subst hje
      have h8 : ¬ ((8 : Nat) : Int) < 8 := by omega
      have HO := Lib.hid (hown.congr HP.out.2)
      clear hown
      go_wp2
      go_ret
      exact ⟨rfl, HO.out, hB⟩
end Go.Proofs.YtlfabchlblgmbaaDoor
