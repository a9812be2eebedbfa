/- Package hash: FromNumber (made by gen_by7.py). (hM) -/
import Derived.Test.YtddcceifblpmbaaDoorBy5
namespace Go.Proofs.YtddcceifblpmbaaDoor
set_option linter.unusedVariables false
set_option linter.unusedSimpArgs false
open Go.RowKit

/-- a number's bytes told are the number -/
theorem acc_bytes (N : Int) (hN : 0 ≤ N) : ∀ j, j ≤ 32 → accV (fun k => byteN N (31 - k)) 32 j = N % 256 ^ j
  | 0, _ => by simp [accV, Int.emod_one]
  | j + 1, h => by
    have ih := acc_bytes N hN j (by omega)
    have hp : (0 : Int) < 256 ^ j := Int.pow_pos (by decide)
    unfold accV
    rw [ih]
    show N % 256 ^ j + byteN N (31 - (32 - 1 - j)) * 256 ^ j = N % 256 ^ (j + 1)
    rw [show 31 - (32 - 1 - j) = j by omega]
    unfold byteN
    rw [Int.pow_succ]
    obtain ⟨P, hP⟩ : ∃ P : Int, 256 ^ j = P := ⟨_, rfl⟩
    rw [hP] at hp ⊢
    obtain ⟨A, rfl⟩ := Int.eq_ofNat_of_zero_le hN
    obtain ⟨B, rfl⟩ := Int.eq_ofNat_of_zero_le (Int.le_of_lt hp)
    have e1 : A % (B * 256) = A % B + A / B % 256 * B := by rw [Nat.mod_mul, Nat.mul_comm B]
    have e2 := congrArg (fun n : Nat => (n : Int)) e1
    simp only [Int.natCast_add, Int.natCast_mul, Int.natCast_emod, Int.natCast_ediv] at e2
    exact e2.symm
theorem hash_bytes (N : Int) (hN : 0 ≤ N ∧ N < WW) : hashN (byteN N) = N := by
  unfold hashN
  have h := acc_bytes N hN.1 32 (by omega)
  rw [show (256 : Int) ^ 32 = WW by decide, Int.emod_eq_of_lt hN.1 hN.2] at h
  exact h
theorem byteN_b (N : Int) (i : Nat) : 0 ≤ byteN N i ∧ byteN N i < 256 := ⟨Int.emod_nonneg _ (by decide), Int.emod_lt_of_pos _ (by decide)⟩

set_option maxRecDepth 100000 in
set_option maxHeartbeats 2000000 in
theorem from_number_any {a0 a1 a2 a3 : Int} (ha : B4 a0 a1 a2 a3) (w : World) :
    Calls Tryd.prog 18 #[U4 a0 a1 a2 a3] w fun e w' => e = .returned (arr32 (byteN (N4 a0 a1 a2 a3))) ∧ Below w.heap.size w w' := by
  obtain ⟨h, hh⟩ : ∃ h : Nat → Int, h = byteN (N4 a0 a1 a2 a3) := ⟨_, rfl⟩
  obtain ⟨r, hr⟩ : ∃ r : Nat → Int, r = fun k => byteN (N4 a0 a1 a2 a3) (31 - k) := ⟨_, rfl⟩
  have HBy := Lib.hid (fun w => hr ▸ bytes_any ha w)
  have HT : Hid (∀ w, Calls Tryd.prog 61 #[arr32 r] w fun e w' => e = .returned (arr32 h) ∧ Below w.heap.size w w') := fun w => by
    have ht := turned_any r w
    rw [show arr32 (fun k => r (31 - k)) = arr32 h by
      unfold arr32
      rw [b8l_congr (g := h) (fun i hi => by rw [hr, hh]; show byteN _ (31 - (31 - i)) = _; rw [show 31 - (31 - i) = i by omega])]] at ht
    exact ht
  rw [← hh]
  clear hh hr ha
  have hB := Below.refl w.heap.size w
  have hM := Lib.hid (mem_nil w)
  have hF : True := trivial
  go_enter Tryd.func18, Tryd.ntmps18
  go_wp2_with (first | (go_at_call 64; (with_reducible refine (HBy.out _).mono ?_); rintro e w1 ⟨rfl, hb⟩; have hB : Below w.heap.size w w1 := (by refine bl_then ?_ hb; (repeat (first | exact hB | refine bl_al ?_ _ | refine Below.setCell ?_ (by first | exact hgs | exact Nat.le_succ_of_le hgs | exact hgs2 | exact hgs3) _ | refine Below.drew ?_ | refine bl_drewN ?_ _))); (first | with_reducible have hM2 := Mem.later hb (hM.out) | with_reducible have hM2 := Mem.later hb (Mem.al (hM.out) _ _) | with_reducible have hM2 := Mem.later hb (Mem.al (Mem.al (hM.out) _ _) _ _) | with_reducible have hM2 := Mem.later hb (Mem.al (Mem.al (Mem.al (hM.out) _ _) _ _) _ _) | with_reducible have hM2 := Mem.later hb (Mem.al (Mem.al (Mem.al (Mem.al (hM.out) _ _) _ _) _ _) _ _) | with_reducible have hM2 := Mem.later hb (Mem.drew (hM.out)) | with_reducible have hM2 := Mem.later hb (Mem.drew (Mem.al (hM.out) _ _)) | with_reducible have hM2 := Mem.later hb (Mem.al (Mem.drew (hM.out)) _ _) | with_reducible have hM2 := Mem.later hb (Mem.al (Mem.drew (Mem.al (hM.out) _ _)) _ _) | with_reducible have hM2 := Mem.later hb (Mem.drew (Mem.al (Mem.al (hM.out) _ _) _ _)) | with_reducible have hM2 := Mem.later hb (Mem.al (Mem.al (Mem.drew (hM.out)) _ _) _ _) | with_reducible have hM2 := Mem.later hb (Mem.drew (Mem.drew (hM.out))) | with_reducible have hM2 := Mem.later hb (Mem.drew (Mem.al (Mem.drew (hM.out)) _ _)) | with_reducible have hM2 := Mem.later hb (Mem.drew (Mem.al (Mem.al (Mem.al (hM.out) _ _) _ _) _ _)) | with_reducible have hM2 := Mem.later hb (Mem.al (Mem.al (Mem.drew (Mem.al (hM.out) _ _)) _ _) _ _) | with_reducible have hM2 := Mem.later hb (Mem.drew (Mem.al (Mem.drew (Mem.al (hM.out) _ _)) _ _)) | with_reducible have hM2 := Mem.later hb (Mem.al (Mem.al (Mem.al (Mem.al (Mem.al (hM.out) _ _) _ _) _ _) _ _) _ _) | with_reducible have hM2 := Mem.later hb (Mem.al (Mem.al (Mem.al (Mem.al (Mem.al (Mem.al (hM.out) _ _) _ _) _ _) _ _) _ _) _ _) | with_reducible have hM2 := Mem.later hb (Mem.al (Mem.al (Mem.al (Mem.al (Mem.al (Mem.al (Mem.al (hM.out) _ _) _ _) _ _) _ _) _ _) _ _) _ _) | with_reducible have hM2 := Mem.later hb (Mem.al (Mem.al (Mem.al (Mem.al (Mem.al (Mem.al (Mem.al (Mem.al (hM.out) _ _) _ _) _ _) _ _) _ _) _ _) _ _) _ _)); (try simp only [World.size_alloc, size_drew] at hM2); clear hM; have hM := Lib.hid hM2; clear hF; have hF := hM2; (try simp only [Mem, cellsAt, World.size_alloc, Nat.zero_add, Nat.reduceAdd, and_true] at hF); clear hM2; clear hb) | (go_at_call 61; (with_reducible refine (HT.out _).mono ?_); rintro e w1 ⟨rfl, hb⟩; have hB : Below w.heap.size w w1 := (by refine bl_then ?_ hb; (repeat (first | exact hB | refine bl_al ?_ _ | refine Below.setCell ?_ (by first | exact hgs | exact Nat.le_succ_of_le hgs | exact hgs2 | exact hgs3) _ | refine Below.drew ?_ | refine bl_drewN ?_ _))); (first | with_reducible have hM2 := Mem.later hb (hM.out) | with_reducible have hM2 := Mem.later hb (Mem.al (hM.out) _ _) | with_reducible have hM2 := Mem.later hb (Mem.al (Mem.al (hM.out) _ _) _ _) | with_reducible have hM2 := Mem.later hb (Mem.al (Mem.al (Mem.al (hM.out) _ _) _ _) _ _) | with_reducible have hM2 := Mem.later hb (Mem.al (Mem.al (Mem.al (Mem.al (hM.out) _ _) _ _) _ _) _ _) | with_reducible have hM2 := Mem.later hb (Mem.drew (hM.out)) | with_reducible have hM2 := Mem.later hb (Mem.drew (Mem.al (hM.out) _ _)) | with_reducible have hM2 := Mem.later hb (Mem.al (Mem.drew (hM.out)) _ _) | with_reducible have hM2 := Mem.later hb (Mem.al (Mem.drew (Mem.al (hM.out) _ _)) _ _) | with_reducible have hM2 := Mem.later hb (Mem.drew (Mem.al (Mem.al (hM.out) _ _) _ _)) | with_reducible have hM2 := Mem.later hb (Mem.al (Mem.al (Mem.drew (hM.out)) _ _) _ _) | with_reducible have hM2 := Mem.later hb (Mem.drew (Mem.drew (hM.out))) | with_reducible have hM2 := Mem.later hb (Mem.drew (Mem.al (Mem.drew (hM.out)) _ _)) | with_reducible have hM2 := Mem.later hb (Mem.drew (Mem.al (Mem.al (Mem.al (hM.out) _ _) _ _) _ _)) | with_reducible have hM2 := Mem.later hb (Mem.al (Mem.al (Mem.drew (Mem.al (hM.out) _ _)) _ _) _ _) | with_reducible have hM2 := Mem.later hb (Mem.drew (Mem.al (Mem.drew (Mem.al (hM.out) _ _)) _ _)) | with_reducible have hM2 := Mem.later hb (Mem.al (Mem.al (Mem.al (Mem.al (Mem.al (hM.out) _ _) _ _) _ _) _ _) _ _) | with_reducible have hM2 := Mem.later hb (Mem.al (Mem.al (Mem.al (Mem.al (Mem.al (Mem.al (hM.out) _ _) _ _) _ _) _ _) _ _) _ _) | with_reducible have hM2 := Mem.later hb (Mem.al (Mem.al (Mem.al (Mem.al (Mem.al (Mem.al (Mem.al (hM.out) _ _) _ _) _ _) _ _) _ _) _ _) _ _) | with_reducible have hM2 := Mem.later hb (Mem.al (Mem.al (Mem.al (Mem.al (Mem.al (Mem.al (Mem.al (Mem.al (hM.out) _ _) _ _) _ _) _ _) _ _) _ _) _ _) _ _)); (try simp only [World.size_alloc, size_drew] at hM2); clear hM; have hM := Lib.hid hM2; clear hF; have hF := hM2; (try simp only [Mem, cellsAt, World.size_alloc, Nat.zero_add, Nat.reduceAdd, and_true] at hF); clear hM2; clear hb) | (refine Go.wpList_store_mid rfl 23 (.tmp 2) (.tmp 5) rfl (w.heap.size + 1) 0 (b8l h 32).toArray rfl rfl (by rw [show (b8l h 32).toArray.size = 32 by simp [b8l_len]]; exact there_of hM.out.1 rfl) (by simp only [List.size_toArray, b8l_len]; kernel_rfl) (Go.all_oneCell_toArray (b8l_one h 32)) ?_))
  have hl := Go.run_loadVar_mid (P := Tryd.prog) (w1.setCells (w.heap.size + 1) 0 (b8l h 32)) (w.heap.size + 1) 0 23 (b8l h 32) _ (World.rangeAt_setCells_same w1 (w.heap.size + 1) 0 (b8l h 32) (by rw [b8l_len]; exact there_of hM.out.1 rfl)) Tryd.underlying23 rfl (by rw [b8l_len]; kernel_rfl)
  refine bodyPost_ret (v := arr32 h) (by simp [results, Tryd.results18, asAddr, hl, arr32, Act.put]) rfl ⟨rfl, bl_setCells (Nat.le_succ _) _ _ _ hB⟩
end Go.Proofs.YtddcceifblpmbaaDoor
