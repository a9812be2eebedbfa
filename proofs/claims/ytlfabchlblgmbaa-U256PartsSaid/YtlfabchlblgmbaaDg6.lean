/- florinref01: Len. (hM) -/
import Derived.Test.YtlfabchlblgmbaaDg5
namespace Go.Proofs.Ytlfabchlblgmbaa
set_option linter.unusedVariables false
set_option linter.unusedSimpArgs false
open Go.RowKit

theorem len_uni {A : Int} {L k : Nat} (h1 : A < 2 ^ L) (h2 : 0 < L → 2 ^ (L - 1) ≤ A) (h3 : 2 ^ k ≤ A) (h4 : A < 2 ^ (k + 1)) : L = k + 1 := by
  rcases Nat.lt_or_ge k L with h | h
  · rcases Nat.lt_or_ge (k + 1) L with h5 | h5
    · have h6 := h2 (by omega)
      have h7 : (2 : Int) ^ (k + 1) ≤ 2 ^ (L - 1) := pow2_le (by omega)
      omega
    · omega
  · have h7 : (2 : Int) ^ L ≤ 2 ^ k := pow2_le h
    omega
def LenRel (w : World) (gx : Nat) (A : Int) (i : Value) (wr : World) : Prop :=
  ∃ j : Nat, j ≤ 256 ∧ i = .int .i64 ((j : Int) - 1) ∧ A < 2 ^ j ∧ Below w.heap.size w wr ∧ Mem wr [(gx, il (digN A) 256)]

set_option maxRecDepth 100000 in
set_option maxHeartbeats 4000000 in
theorem lenD_any {a0 a1 a2 a3 : Int} (ha : B4 a0 a1 a2 a3) (L : Nat) (hL1 : N4 a0 a1 a2 a3 < 2 ^ L) (hL2 : 0 < L → 2 ^ (L - 1) ≤ N4 a0 a1 a2 a3) (w : World) :
    Calls Try.prog 19 #[U4 a0 a1 a2 a3] w fun e w' => e = .returned (.int .i64 (L : Int)) ∧ Below w.heap.size w w' := by
  have han := ha.nn
  have hD1 := fun w => digits_any ha w
  obtain ⟨A, hA⟩ : ∃ A, N4 a0 a1 a2 a3 = A := ⟨_, rfl⟩
  rw [hA] at han hD1 hL1 hL2
  have HD1 := Lib.hid hD1
  have HA := Lib.hid (And.intro han (And.intro hL1 hL2))
  clear hD1 han hA hL1 hL2 ha
  have hB := Below.refl w.heap.size w
  have hM := Lib.hid (mem_nil w)
  have hF : True := trivial
  have hZD := zeroD
  go_enter Try.func19, Try.ntmps19
  go_wp2_with (first | (go_at_call 45; ((with_reducible refine (HD1.out _).mono ?_); rintro e w1 ⟨rfl, hb⟩; have hB : Below w.heap.size w w1 := (by refine bl_then ?_ hb; (repeat (first | exact hB | refine bl_al ?_ _ | refine Below.setCell ?_ (by first | exact hgs | exact Nat.le_succ_of_le hgs | exact hgs2 | exact hgs3) _ | refine Below.drew ?_ | refine bl_drewN ?_ _))); (first | with_reducible have hM2 := Mem.later hb (hM.out) | with_reducible have hM2 := Mem.later hb (Mem.al (hM.out) _ _) | with_reducible have hM2 := Mem.later hb (Mem.al (Mem.al (hM.out) _ _) _ _) | with_reducible have hM2 := Mem.later hb (Mem.al (Mem.al (Mem.al (hM.out) _ _) _ _) _ _) | with_reducible have hM2 := Mem.later hb (Mem.al (Mem.al (Mem.al (Mem.al (hM.out) _ _) _ _) _ _) _ _) | with_reducible have hM2 := Mem.later hb (Mem.drew (hM.out)) | with_reducible have hM2 := Mem.later hb (Mem.drew (Mem.al (hM.out) _ _)) | with_reducible have hM2 := Mem.later hb (Mem.al (Mem.drew (hM.out)) _ _) | with_reducible have hM2 := Mem.later hb (Mem.al (Mem.drew (Mem.al (hM.out) _ _)) _ _) | with_reducible have hM2 := Mem.later hb (Mem.drew (Mem.al (Mem.al (hM.out) _ _) _ _)) | with_reducible have hM2 := Mem.later hb (Mem.al (Mem.al (Mem.drew (hM.out)) _ _) _ _) | with_reducible have hM2 := Mem.later hb (Mem.drew (Mem.drew (hM.out))) | with_reducible have hM2 := Mem.later hb (Mem.drew (Mem.al (Mem.drew (hM.out)) _ _)) | with_reducible have hM2 := Mem.later hb (Mem.drew (Mem.al (Mem.al (Mem.al (hM.out) _ _) _ _) _ _)) | with_reducible have hM2 := Mem.later hb (Mem.al (Mem.al (Mem.drew (Mem.al (hM.out) _ _)) _ _) _ _) | with_reducible have hM2 := Mem.later hb (Mem.drew (Mem.al (Mem.drew (Mem.al (hM.out) _ _)) _ _)) | with_reducible have hM2 := Mem.later hb (Mem.al (Mem.al (Mem.al (Mem.al (Mem.al (hM.out) _ _) _ _) _ _) _ _) _ _) | with_reducible have hM2 := Mem.later hb (Mem.al (Mem.al (Mem.al (Mem.al (Mem.al (Mem.al (hM.out) _ _) _ _) _ _) _ _) _ _) _ _) | with_reducible have hM2 := Mem.later hb (Mem.al (Mem.al (Mem.al (Mem.al (Mem.al (Mem.al (Mem.al (hM.out) _ _) _ _) _ _) _ _) _ _) _ _) _ _) | with_reducible have hM2 := Mem.later hb (Mem.al (Mem.al (Mem.al (Mem.al (Mem.al (Mem.al (Mem.al (Mem.al (hM.out) _ _) _ _) _ _) _ _) _ _) _ _) _ _) _ _)); (try simp only [World.size_alloc, size_drew] at hM2); clear hM; have hM := Lib.hid hM2; clear hF; have hF := hM2; (try simp only [Mem, cellsAt, World.size_alloc, Nat.zero_add, Nat.reduceAdd, and_true] at hF); clear hM2; clear hb)) | (refine wpList_store_newD rfl (.tmp 3) (.tmp 6) _ rfl rfl (digN A) rfl rfl hM.out ?_; intro W hMW hbW; have hBW := bl_then hB hbW; clear hM hF hB; have hM := Lib.hid hMW; have hF := hMW; (simp only [Mem, cellsAt, Nat.zero_add, Nat.reduceAdd, and_true] at hF); have hB := hBW; clear hMW hbW hBW))
  obtain ⟨gx, hgx⟩ : ∃ g, w1.heap.size = g := ⟨_, rfl⟩
  rw [hgx] at hM
  simp only [hgx]
  have HM0 := hM
  clear hM hF hgx
  go_loopw [4] (fun i wr => LenRel w gx A i wr) (fun i _ => (intOf i + 1).toNat)
  case atStart =>
    refine ⟨256, Nat.le_refl _, rfl, ?_, hB, HM0.out.1, trivial⟩
    rw [show (2 : Int) ^ 256 = WW by decide]
    exact HA.out.1.2
  case round =>
    obtain ⟨j, hj, rfl, he, hB, hm⟩ := hrel
    cases j with
    | succ k =>
      have hi : ((k + 1 : Nat) : Int) - 1 = (k : Int) := by omega
      rw [hi]
      have hk : k < 256 := by omega
      have sA := half_step A k
      have h0 := Int.ediv_eq_zero_of_lt HA.out.1.1 he
      have hdb := digN_b A k
      obtain ⟨x, hx⟩ : ∃ x, digN A k = x := ⟨_, rfl⟩
      rw [hx] at sA hdb
      have hcx : wr.cell? ⟨gx, k, none⟩ = some (.int .i64 x) := by
        rw [← hx]
        exact cellsAt_get hm.1.2.2 (il_get (digN A) 256 k hk)
      have hk0 : (0 : Int) ≤ (k : Int) := by omega
      have hk256 : (k : Int) < 256 := by omega
      have hkw : IntKind.i64.wrap ((k : Int) - 1) = (k : Int) - 1 := by rw [IntKind.wrap_i64]; omega
      have hkw2 : IntKind.i64.wrap ((k : Int) + 1) = (k : Int) + 1 := by rw [IntKind.wrap_i64]; omega
      have hx01 : x = 0 ∨ x = 1 := by omega
      have hp := two_pow_pos k
      rcases hx01 with rfl | rfl
      · have hlt : A < 2 ^ k := by
          rcases Int.lt_or_le A (2 ^ k) with h | h
          · exact h
          · have h2 := Int.le_ediv_of_mul_le hp (by rw [Int.one_mul]; exact h)
            omega
        have HX := Lib.hid (And.intro hlt hm)
        clear hlt hm sA h0 hdb he hi hx hp
        go_wp2
        refine ⟨⟨k, by omega, rfl, HX.out.1, by (repeat (first | exact hB | refine bl_al ?_ _ | refine Below.setCell ?_ (by first | exact hgs | exact Nat.le_succ_of_le hgs | exact hgs2 | exact hgs3) _ | refine Below.drew ?_ | refine bl_drewN ?_ _)), HX.out.2⟩, by simp [intOf]⟩
      · have hge : 2 ^ k ≤ A := by
          rcases Int.lt_or_le A (2 ^ k) with h | h
          · have := Int.ediv_eq_zero_of_lt HA.out.1.1 h
            omega
          · exact h
        have hL := len_uni HA.out.2.1 HA.out.2.2 hge he
        have hLi : (L : Int) = (k : Int) + 1 := by omega
        have HLi := Lib.hid hLi
        clear hge hm sA h0 hdb he hi hx hp hL hLi HA
        go_wp2
        go_ret
        exact ⟨by rw [HLi.out]; rfl, by (repeat (first | exact hB | refine bl_al ?_ _ | refine Below.setCell ?_ (by first | exact hgs | exact Nat.le_succ_of_le hgs | exact hgs2 | exact hgs3) _ | refine Below.drew ?_ | refine bl_drewN ?_ _))⟩
    | zero =>
      have hL : L = 0 := by
        rcases Nat.eq_zero_or_pos L with h | h
        · exact h
        · have h1 := HA.out.2.2 h
          have h2 := two_pow_pos (L - 1)
          rw [Int.pow_zero] at he
          omega
      subst hL
      have hi : ((0 : Nat) : Int) - 1 = -1 := rfl
      rw [hi]
      clear he hm
      go_wp2
      go_ret
      exact ⟨rfl, by (repeat (first | exact hB | refine bl_al ?_ _ | refine Below.setCell ?_ (by first | exact hgs | exact Nat.le_succ_of_le hgs | exact hgs2 | exact hgs3) _ | refine Below.drew ?_ | refine bl_drewN ?_ _))⟩
end Go.Proofs.Ytlfabchlblgmbaa
