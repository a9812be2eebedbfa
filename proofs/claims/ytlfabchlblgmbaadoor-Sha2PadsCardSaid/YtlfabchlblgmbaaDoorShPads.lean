/- Sha2Pads: the walk of the law. (hM) -/
import Derived.Test.YtlfabchlblgmbaaDoorSh9
namespace Go.Proofs.YtlfabchlblgmbaaDoor
set_option linter.unusedVariables false
set_option linter.unusedSimpArgs false
open Go.RowKit

def PdRel (k : Nat) (i : Value) : Prop := ∃ j : Nat, 1 ≤ j ∧ j ≤ k - 8 ∧ i = .int .i64 j
def PdRel2 (D : Int) (k : Nat) (m i : Value) : Prop := ∃ j : Nat, j ≤ 8 ∧ i = .int .i64 ((k - 8 + j : Nat) : Int) ∧ m = .int .u64 (D / 2 ^ (8 * (8 - j)))
theorem pd_step (D : Int) (hD : 0 ≤ D ∧ D < WI) (j : Nat) (hj : j < 8) :
    bits .or .u64 (IntKind.u64.wrap (D / 2 ^ (8 * (8 - j)) * 2 ^ 8)) (IntKind.u8.wrap (D / 2 ^ (8 * (7 - j)))) = D / 2 ^ (8 * (8 - (j + 1))) := by
  obtain ⟨A, hA⟩ : ∃ A, D / 2 ^ (8 * (7 - j)) = A := ⟨_, rfl⟩
  have hA0 : 0 ≤ A := by rw [← hA]; exact Int.ediv_nonneg hD.1 (Int.le_of_lt (two_pow_pos _))
  have hA1 : A ≤ D := by rw [← hA]; exact Int.ediv_le_self _ hD.1
  have e : D / 2 ^ (8 * (8 - j)) = A / 256 := by
    rw [← hA, Int.ediv_ediv_of_nonneg (Int.le_of_lt (two_pow_pos _)), show (256 : Int) = 2 ^ 8 by decide, ← Int.pow_add]
    congr 2
    omega
  rw [e, show 8 - (j + 1) = 7 - j by omega, hA, IntKind.wrap_u8]
  have hw : IntKind.u64.wrap (A / 256 * 2 ^ 8) = 2 ^ 8 * (A / 256) := by
    rw [IntKind.wrap_u64]
    unfold WI at hD
    omega
  rw [hw, or_add (A / 256) 8 (A % 256) (by omega) (by unfold WI at *; omega) (by omega)]
  omega

set_option maxRecDepth 100000 in
set_option maxHeartbeats 2000000 in
theorem pads_walk (n : Nat) (hn : n < 18446744073709551616) (w : World) (hT : Tab w) :
    Calls Tryd.prog 7 #[.int .u64 n] w fun e w' => e = .returned (.bool true) ∧ Below w.heap.size w w' := by
  have hpl := padN_le n
  have hpw := padN_whole n
  obtain ⟨D, hD⟩ : ∃ D, IntKind.u64.wrap ((n : Int) * 8) = D := ⟨_, rfl⟩
  have hDb : 0 ≤ D ∧ D < WI := by rw [← hD, IntKind.wrap_u64]; unfold WI; omega
  obtain ⟨f, hf⟩ : ∃ f, padF (n : Int) (padN n) = f := ⟨_, rfl⟩
  have hPad := fun w => pad_any n hn w
  rw [hf] at hPad
  obtain ⟨k, hk⟩ : ∃ k, padN n = k := ⟨_, rfl⟩
  rw [hk] at hpl hpw hPad hf
  obtain ⟨r, hr⟩ : ∃ r, n % 64 = r := ⟨_, rfl⟩
  have f1 : (n : Int) % 64 = (r : Int) := by omega
  have f1' : (n : Int).tmod 64 = (r : Int) := by rw [Int.tmod_eq_emod_of_nonneg (by omega)]; exact f1
  have hn0 : 0 ≤ (n : Int) := by omega
  have f2 : IntKind.u64.wrap (k : Int) = (k : Int) := by rw [IntKind.wrap_u64]; omega
  have f3 : IntKind.u64.wrap ((r : Int) + (k : Int)) = (r : Int) + (k : Int) := by rw [IntKind.wrap_u64]; omega
  have f4 : ((r : Int) + (k : Int)) % 64 = 0 := by omega
  have f4' : ((r : Int) + (k : Int)).tmod 64 = 0 := by rw [Int.tmod_eq_emod_of_nonneg (by omega)]; exact f4
  have f5 : IntKind.i64.wrap ((k : Int) - 8) = ((k - 8 : Nat) : Int) := by rw [IntKind.wrap_i64]; omega
  obtain ⟨q, hq⟩ : ∃ q, k - 8 = q := ⟨_, rfl⟩
  rw [hq] at f5
  have hz : ∀ j, 1 ≤ j → j < q → f j = 0 := fun j h1 h2 => by rw [← hf]; unfold padF; rw [if_neg (by omega), if_neg (by omega)]
  have h128 : f 0 = 128 := by rw [← hf]; unfold padF; rw [if_pos rfl]
  have hl : ∀ j, j < 8 → f (q + j) = IntKind.u8.wrap (D / 2 ^ (8 * (7 - j))) := fun j h => by
    rw [← hf]; unfold padF
    rw [if_neg (by omega), if_pos (by omega), hD]
    congr 3
    omega
  have hk9 : 9 ≤ (k : Int) := by omega
  have hk72 : (k : Int) ≤ 72 := by omega
  have HPad := Lib.hid hPad
  have HX := Lib.hid (And.intro hz (And.intro hl (And.intro hDb (And.intro hpl (And.intro hq h128)))))
  have hA := Lib.hid (fun (x : World) (hb : Below w.heap.size w x) => awake2_any x (hT.later hb))
  clear hPad hz hl hDb hpl hpw hf hk hr hq hT h128
  have hB := Below.refl w.heap.size w
  have hM := Lib.hid (mem_nil w)
  have hF : True := trivial
  go_enter Tryd.func7, Tryd.ntmps7
  go_wp2_with (first | (go_at_call 13; refine (hA.out _ (by (repeat (first | exact hB | refine bl_al ?_ _ | refine Below.setCell ?_ (by first | exact hgs | exact Nat.le_succ_of_le hgs | exact hgs2 | exact hgs3) _ | refine Below.drew ?_ | refine bl_drewN ?_ _)))).mono ?_; rintro e w1 ⟨rfl, hb⟩; have hB : Below w.heap.size w w1 := (by refine bl_then ?_ hb; (repeat (first | exact hB | refine bl_al ?_ _ | refine Below.setCell ?_ (by first | exact hgs | exact Nat.le_succ_of_le hgs | exact hgs2 | exact hgs3) _ | refine Below.drew ?_ | refine bl_drewN ?_ _))); (first | with_reducible have hM2 := Mem.later hb (hM.out) | with_reducible have hM2 := Mem.later hb (Mem.al (hM.out) _ _) | with_reducible have hM2 := Mem.later hb (Mem.al (Mem.al (hM.out) _ _) _ _) | with_reducible have hM2 := Mem.later hb (Mem.al (Mem.al (Mem.al (hM.out) _ _) _ _) _ _) | with_reducible have hM2 := Mem.later hb (Mem.al (Mem.al (Mem.al (Mem.al (hM.out) _ _) _ _) _ _) _ _) | with_reducible have hM2 := Mem.later hb (Mem.drew (hM.out)) | with_reducible have hM2 := Mem.later hb (Mem.drew (Mem.al (hM.out) _ _)) | with_reducible have hM2 := Mem.later hb (Mem.al (Mem.drew (hM.out)) _ _) | with_reducible have hM2 := Mem.later hb (Mem.al (Mem.drew (Mem.al (hM.out) _ _)) _ _) | with_reducible have hM2 := Mem.later hb (Mem.drew (Mem.al (Mem.al (hM.out) _ _) _ _)) | with_reducible have hM2 := Mem.later hb (Mem.al (Mem.al (Mem.drew (hM.out)) _ _) _ _) | with_reducible have hM2 := Mem.later hb (Mem.drew (Mem.drew (hM.out))) | with_reducible have hM2 := Mem.later hb (Mem.drew (Mem.al (Mem.drew (hM.out)) _ _)) | with_reducible have hM2 := Mem.later hb (Mem.drew (Mem.al (Mem.al (Mem.al (hM.out) _ _) _ _) _ _)) | with_reducible have hM2 := Mem.later hb (Mem.al (Mem.al (Mem.drew (Mem.al (hM.out) _ _)) _ _) _ _) | with_reducible have hM2 := Mem.later hb (Mem.drew (Mem.al (Mem.drew (Mem.al (hM.out) _ _)) _ _)) | with_reducible have hM2 := Mem.later hb (Mem.al (Mem.al (Mem.al (Mem.al (Mem.al (hM.out) _ _) _ _) _ _) _ _) _ _) | with_reducible have hM2 := Mem.later hb (Mem.al (Mem.al (Mem.al (Mem.al (Mem.al (Mem.al (hM.out) _ _) _ _) _ _) _ _) _ _) _ _) | with_reducible have hM2 := Mem.later hb (Mem.al (Mem.al (Mem.al (Mem.al (Mem.al (Mem.al (Mem.al (hM.out) _ _) _ _) _ _) _ _) _ _) _ _) _ _) | with_reducible have hM2 := Mem.later hb (Mem.al (Mem.al (Mem.al (Mem.al (Mem.al (Mem.al (Mem.al (Mem.al (hM.out) _ _) _ _) _ _) _ _) _ _) _ _) _ _) _ _)); (try simp only [World.size_alloc, size_drew] at hM2); clear hM; have hM := Lib.hid hM2; clear hF; have hF := hM2; (try simp only [Mem, cellsAt, World.size_alloc, Nat.zero_add, Nat.reduceAdd, and_true] at hF); clear hM2; clear hb) | (go_at_call 27; refine (HPad.out _).mono ?_; rintro e w2 ⟨rfl, ho, hb⟩; have hB2 := bl_then hB hb; have hc0 := ho.cell 0 (by have := HX.out.2.2.2.1; omega); rw [HX.out.2.2.2.2.2] at hc0; have HO := Lib.hid ho; clear ho hb hB hM hF; have hB := hB2; clear hB2))
  go_loopw [7] (fun i wr => PdRel k i ∧ wr = w2) (fun i _ => k - (intOf i).toNat)
  case atStart => exact ⟨⟨1, Nat.le_refl _, by have := HX.out.2.2.2.1; omega, rfl⟩, rfl⟩
  case round =>
    obtain ⟨⟨j, hj1, hj2, rfl⟩, rfl⟩ := hrel
    have hq := HX.out.2.2.2.2.1
    have hpl := HX.out.2.2.2.1
    rw [hq] at hj2
    by_cases hlt : j < q
    · have hc := HO.out.cell j (by omega)
      rw [HX.out.1 j hj1 hlt] at hc
      have hjk : (j : Int) < (k : Int) := by omega
      have hjq : (j : Int) < (q : Int) := by omega
      clear hq hpl
      go_wp2
      refine ⟨⟨⟨j + 1, by omega, by rw [HX.out.2.2.2.2.1]; omega, by go_num⟩, by first | rfl | trivial⟩, by simp [intOf]; omega⟩
    · have hje : j = q := by omega
      subst hje
      have hge : ¬ (j : Int) < (j : Int) := by omega
      clear hq hpl hc0
      go_wp2
      go_loopw [6, 8] (fun m i wr' => PdRel2 D k m i ∧ wr' = wr) (fun _ i _ => k - (intOf i).toNat)
      case atStart =>
        refine ⟨⟨0, by omega, by rw [HX.out.2.2.2.2.1]; rfl, ?_⟩, rfl⟩
        have := HX.out.2.2.1
        rw [show (2 : Int) ^ (8 * (8 - 0)) = WI by decide, Int.ediv_eq_zero_of_lt this.1 this.2]
      case round =>
        obtain ⟨⟨t, ht, rfl, rfl⟩, rfl⟩ := hrel
        have hq := HX.out.2.2.2.2.1
        have hpl := HX.out.2.2.2.1
        by_cases h8 : t < 8
        · obtain ⟨s, hs⟩ : ∃ s, k - 8 + t = s := ⟨_, rfl⟩
          have hst := pd_step D HX.out.2.2.1 t h8
          obtain ⟨y, hy⟩ : ∃ y, IntKind.u8.wrap (D / 2 ^ (8 * (7 - t))) = y := ⟨_, rfl⟩
          obtain ⟨m, hm⟩ : ∃ m, D / 2 ^ (8 * (8 - t)) = m := ⟨_, rfl⟩
          have hc := HO.out.cell s (by omega)
          have hy2 : f s = y := by rw [← hy, ← HX.out.2.1 t h8]; congr 1; omega
          rw [hy2] at hc
          rw [hy, hm] at hst
          have hyb : IntKind.u64.wrap y = y := by rw [← hy, IntKind.wrap_u64, IntKind.wrap_u8]; omega
          have hsk : (s : Int) < (k : Int) := by omega
          have HS := Lib.hid (And.intro hst hs)
          rw [hs, hm]
          clear hst hs hy hy2 hm hq hpl
          go_wp2
          refine ⟨⟨⟨t + 1, by omega, ?_, ?_⟩, by first | rfl | trivial⟩, ?_⟩
          · rw [← HS.out.2]; go_num
          · rw [← HS.out.1, show (2 : Int) ^ 8 = 256 by decide]
          · have := HS.out.2; simp [intOf]; omega
        · have hte : t = 8 := by omega
          subst hte
          have e0 : D / 2 ^ (8 * (8 - 8)) = D := by rw [show (2 : Int) ^ (8 * (8 - 8)) = 1 by decide]; exact Int.ediv_one D
          have e1 : k - 8 + 8 = k := by omega
          rw [e0, e1]
          clear e0 e1 hq hpl
          go_wp2
          go_ret
          exact ⟨rfl, hB⟩
end Go.Proofs.YtlfabchlblgmbaaDoor
