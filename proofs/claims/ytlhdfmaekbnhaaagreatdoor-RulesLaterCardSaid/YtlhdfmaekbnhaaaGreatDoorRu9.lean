/- Package header: Linked. (hM) Merged: Lk, AndI, Ru9. -/
import Derived.Test.YtlhdfmaekbnhaaaGreatDoorNq
import Derived.Test.YtlhdfmaekbnhaaaGreatDoorSpot
import Derived.Test.YtlhdfmaekbnhaaaGreatDoorWpy
import Derived.Test.YtlhdfmaekbnhaaaGreatDoorBase
import Derived.Test.YtlhdfmaekbnhaaaGreatDoorRu7
/- Package header: Linked. (hM) -/
namespace Go.Proofs.YtlhdfmaekbnhaaaGreatDoor
set_option linter.unusedVariables false
set_option linter.unusedSimpArgs false
open Go.RowKit

/-- does the i-th stand on the one ahead? -/
def lk (L : Nat → Hd) (i : Nat) : Bool := hl (L i).p == hl (idF (L (i - 1)))
structure Link (L : Nat → Hd) (n m : Nat) : Prop where
  le : m ≤ n
  pos : 0 < n → 1 ≤ m
  yes : ∀ i, 1 ≤ i → i < m → lk L i = true
  no : m < n → lk L m = false
theorem link_part {L : Nat → Hd} {n m r m2 : Nat} (h : Link L n m) (hr : r ≤ n) (k : Link L r m2) : m2 = min r m := by
  have h1 := h.le
  have k1 := k.le
  by_cases hm2 : m2 < r
  · have a1 := k.pos (by omega)
    have a2 := k.no hm2
    have a3 : ¬ m2 < m := fun hc => by rw [h.yes m2 a1 hc] at a2; cases a2
    have a4 : ¬ m < m2 := fun hc => by have := h.no (by omega); rw [k.yes m (h.pos (by omega)) hc] at this; cases this
    omega
  · have a4 : ¬ m < r := fun hc => by have := h.no (by omega); rw [k.yes m (h.pos (by omega)) (by omega)] at this; cases this
    omega
def LkRel (w : World) (L : Nat → Hd) (n : Nat) (i : Value) (wr : World) : Prop :=
  ∃ j : Nat, 1 ≤ j ∧ (j ≤ n ∨ j = 1) ∧ i = .int .i64 j ∧ (∀ i, 1 ≤ i → i < j → lk L i = true) ∧ Below w.heap.size w wr

set_option maxRecDepth 100000 in
set_option maxHeartbeats 4000000 in
theorem linked_any (L : Nat → Hd) (hL : ∀ i, HdOk (L i)) (lo : Option Addr) (n lc : Nat) (w : World) (hT : Tab w) (hr : SRow w lo n lc 68 (fun i => hdL (L i))) (hn : n ≤ 1000000) :
    Calls Tryz.prog 18 #[.slice lo n lc] w fun e w' => ∃ m : Nat, e = .returned (.int .i64 m) ∧ Link L n m ∧ Below w.heap.size w w' := by
  have HRow := Lib.hid hr
  have HL := Lib.hid hL
  have HT := Lib.hid hT
  have HN := Lib.hid hn
  clear hr hL hT hn
  go_enter Tryz.func18, Tryz.ntmps18
  go_wp2
  go_loopw [3] (fun i wr => LkRel w L n i wr) (fun i _ => n + 1 - (intOf i).toNat)
  case atStart => exact ⟨1, Nat.le_refl _, .inr rfl, rfl, fun i h1 h2 => by omega, Below.refl _ _⟩
  case round =>
    obtain ⟨j, hj1, hjn, rfl, hyes, hB⟩ := hrel
    have HY := Lib.hid hyes
    clear hyes
    have hF : True := trivial
    have hM := Lib.hid (mem_nil wr)
    by_cases hlt : j < n
    · obtain ⟨b, off, rfl⟩ := HRow.out.addr (by decide) (by omega)
      have hblt : b < w.heap.size := HRow.out.lt (by decide) (by omega) _ rfl
      obtain ⟨k, hk⟩ : ∃ k, j = k + 1 := ⟨j - 1, by omega⟩
      have HK := Lib.hid hk
      have hjk : (j : Int) < (n : Int) := by omega
      have hkn : (k : Int) < (n : Int) := by omega
      have hwk : IntKind.i64.wrap ((j : Int) - 1) = (k : Int) := by rw [IntKind.wrap_i64]; have := HN.out; omega
      have hj0 : 0 ≤ (j : Int) := by omega
      have HR : Hid (∀ x, Below w.heap.size w x → x.rangeAt b (off + j * 68 + 1) (b8l (L j).p 32) ∧ x.rangeAt b (off + k * 68) (hdL (L k))) := fun x hb =>
        ⟨fun i v hv => (hb.cell (p := ⟨b, _, none⟩) hblt).trans (srow_prev HRow.out j hlt i v hv), fun i v hv => (hb.cell (p := ⟨b, _, none⟩) hblt).trans (srow_head HRow.out k (by omega) i v hv)⟩
      have HId := Lib.hid (fun (x : World) (hb : Below w.heap.size w x) => hid_any (L k) (HL.out k) x (HT.out.later hb))
      have hlk : lk L j = (hl (L j).p == hl (idF (L k))) := by unfold lk; rw [show j - 1 = k by omega]
      obtain ⟨I, hI⟩ : ∃ I, idF (L k) = I := ⟨_, rfl⟩
      rw [hI] at HId hlk
      have hw1 : IntKind.i64.wrap ((j : Int) + 1) = (((j + 1 : Nat)) : Int) := by rw [IntKind.wrap_i64]; have := HN.out; omega
      clear hk hI hblt
      cases hz : (hl (L j).p == hl I) with
      | true =>
        rw [hz] at hlk
        have HLK := Lib.hid hlk
        have hNe := neq_hash (L j).p I false (by rw [hz]; rfl)
        clear hlk hz
        go_wp2
        refine wp_plan (fun x => x.rangeAt b (off + j * 68 + 1) (b8l (L j).p 32) ∧ x.rangeAt b (off + k * 68) (hdL (L k))) [10] [0, 1, 2, 3, 4, 5, 6, 7, 8, 9, 10, 11] (by kernel_rfl) (by kernel_rfl) (HR.out _ (by (repeat (first | exact hB | refine bl_al ?_ _ | refine Below.setCell ?_ (by first | exact hgs | exact Nat.le_succ_of_le hgs | exact hgs2 | exact hgs3) _ | refine Below.drew ?_ | refine bl_drewN ?_ _)))) (fun hHeld => ?_)
        iterate 4 (refine wpT_take rfl (by rfl) (by rfl) (by intro w' hSw; (try dsimp only [Mem, cellsAt] at hSw); go_simp; (try with_reducible rfl)) (by assumption) ?_; (try simp only [Act.put, List.setIfInBounds_toArray, List.set_cons_zero, List.set_cons_succ]))
        (refine wpT_yield rfl (by rfl) (Go.yieldsIf_load_mid (by rfl) 28 (.tmp 13) rfl b (off + j * 68 + 1) rfl (b8l (L j).p 32) _ (fun w' h => h.1) Tryz.underlying28 rfl (by rw [b8l_len]; kernel_rfl)) (by assumption) ?_; (try simp only [Act.put, List.setIfInBounds_toArray, List.set_cons_zero, List.set_cons_succ]))
        iterate 4 (refine wpT_take rfl (by rfl) (by rfl) (by intro w' hSw; (try dsimp only [Mem, cellsAt] at hSw); go_simp; (try with_reducible rfl)) (by assumption) ?_; (try simp only [Act.put, List.setIfInBounds_toArray, List.set_cons_zero, List.set_cons_succ]))
        (refine wpT_yield rfl (by rfl) (Go.yieldsIf_load_mid (by rfl) 30 (.tmp 18) rfl b (off + k * 68) rfl (hdL (L k)) _ (fun w' h => h.2) Tryz.underlying30 rfl (by rw [hdL_len]; kernel_rfl)) (by assumption) ?_; (try simp only [Act.put, List.setIfInBounds_toArray, List.set_cons_zero, List.set_cons_succ]))
        (refine wpT_step rfl (by rfl) (fun K hK => ?_); go_simp)
        (refine (HId.out _ (by (repeat (first | exact hB | refine bl_al ?_ _ | refine Below.setCell ?_ (by first | exact hgs | exact Nat.le_succ_of_le hgs | exact hgs2 | exact hgs3) _ | refine Below.drew ?_ | refine bl_drewN ?_ _)))).mono ?_; rintro e w1 ⟨rfl, hb⟩; have hB : Below w.heap.size w w1 := (by refine bl_then ?_ hb; (repeat (first | exact hB | refine bl_al ?_ _ | refine Below.setCell ?_ (by first | exact hgs | exact Nat.le_succ_of_le hgs | exact hgs2 | exact hgs3) _ | refine Below.drew ?_ | refine bl_drewN ?_ _))); (first | with_reducible have hM2 := Mem.later hb (hM.out) | with_reducible have hM2 := Mem.later hb (Mem.al (hM.out) _ _) | with_reducible have hM2 := Mem.later hb (Mem.al (Mem.al (hM.out) _ _) _ _) | with_reducible have hM2 := Mem.later hb (Mem.al (Mem.al (Mem.al (hM.out) _ _) _ _) _ _) | with_reducible have hM2 := Mem.later hb (Mem.al (Mem.al (Mem.al (Mem.al (hM.out) _ _) _ _) _ _) _ _) | with_reducible have hM2 := Mem.later hb (Mem.drew (hM.out)) | with_reducible have hM2 := Mem.later hb (Mem.drew (Mem.al (hM.out) _ _)) | with_reducible have hM2 := Mem.later hb (Mem.al (Mem.drew (hM.out)) _ _) | with_reducible have hM2 := Mem.later hb (Mem.al (Mem.drew (Mem.al (hM.out) _ _)) _ _) | with_reducible have hM2 := Mem.later hb (Mem.drew (Mem.al (Mem.al (hM.out) _ _) _ _)) | with_reducible have hM2 := Mem.later hb (Mem.al (Mem.al (Mem.drew (hM.out)) _ _) _ _) | with_reducible have hM2 := Mem.later hb (Mem.drew (Mem.drew (hM.out))) | with_reducible have hM2 := Mem.later hb (Mem.drew (Mem.al (Mem.drew (hM.out)) _ _)) | with_reducible have hM2 := Mem.later hb (Mem.drew (Mem.al (Mem.al (Mem.al (hM.out) _ _) _ _) _ _)) | with_reducible have hM2 := Mem.later hb (Mem.al (Mem.al (Mem.drew (Mem.al (hM.out) _ _)) _ _) _ _) | with_reducible have hM2 := Mem.later hb (Mem.drew (Mem.al (Mem.drew (Mem.al (hM.out) _ _)) _ _)) | with_reducible have hM2 := Mem.later hb (Mem.al (Mem.al (Mem.al (Mem.al (Mem.al (hM.out) _ _) _ _) _ _) _ _) _ _) | with_reducible have hM2 := Mem.later hb (Mem.al (Mem.al (Mem.al (Mem.al (Mem.al (Mem.al (hM.out) _ _) _ _) _ _) _ _) _ _) _ _) | with_reducible have hM2 := Mem.later hb (Mem.al (Mem.al (Mem.al (Mem.al (Mem.al (Mem.al (Mem.al (hM.out) _ _) _ _) _ _) _ _) _ _) _ _) _ _) | with_reducible have hM2 := Mem.later hb (Mem.al (Mem.al (Mem.al (Mem.al (Mem.al (Mem.al (Mem.al (Mem.al (hM.out) _ _) _ _) _ _) _ _) _ _) _ _) _ _) _ _)); (try simp only [World.size_alloc, size_drew] at hM2); clear hM; have hM := Lib.hid hM2; clear hF; have hF := hM2; (try simp only [Mem, cellsAt, World.size_alloc, Nat.zero_add, Nat.reduceAdd, and_true] at hF); clear hM2; clear hb; clear hF; have hF : True := trivial; (refine hK.out _ _ _ (fun _ h => h) (HR.out _ (by (repeat (first | exact hB | refine bl_al ?_ _ | refine Below.drew ?_ | refine bl_drewN ?_ _)))) (fun hHeld => ?_); clear hK; clear K; (try simp only [Act.put, List.setIfInBounds_toArray, List.set_cons_zero, List.set_cons_succ])))
        iterate 1 (refine wpT_take rfl (by rfl) (by rfl) (by intro w' hSw; (try dsimp only [Mem, cellsAt] at hSw); go_simp; (try with_reducible rfl)) (by assumption) ?_; (try simp only [Act.put, List.setIfInBounds_toArray, List.set_cons_zero, List.set_cons_succ]))
        (refine wpT_nil ?_)
        go_wp2
        refine ⟨⟨j + 1, by omega, .inl (by omega), by go_num, fun i h1 h2 => ?_, hB⟩, by simp [intOf]; omega⟩
        by_cases hij : i = j
        · rw [hij]; exact HLK.out
        · exact HY.out i h1 (by omega)
      | false =>
        rw [hz] at hlk
        have HLK := Lib.hid hlk
        have hNe := neq_hash (L j).p I true (by rw [hz]; rfl)
        clear hlk hz
        go_wp2
        refine wp_plan (fun x => x.rangeAt b (off + j * 68 + 1) (b8l (L j).p 32) ∧ x.rangeAt b (off + k * 68) (hdL (L k))) [10] [0, 1, 2, 3, 4, 5, 6, 7, 8, 9, 10, 11] (by kernel_rfl) (by kernel_rfl) (HR.out _ (by (repeat (first | exact hB | refine bl_al ?_ _ | refine Below.setCell ?_ (by first | exact hgs | exact Nat.le_succ_of_le hgs | exact hgs2 | exact hgs3) _ | refine Below.drew ?_ | refine bl_drewN ?_ _)))) (fun hHeld => ?_)
        iterate 4 (refine wpT_take rfl (by rfl) (by rfl) (by intro w' hSw; (try dsimp only [Mem, cellsAt] at hSw); go_simp; (try with_reducible rfl)) (by assumption) ?_; (try simp only [Act.put, List.setIfInBounds_toArray, List.set_cons_zero, List.set_cons_succ]))
        (refine wpT_yield rfl (by rfl) (Go.yieldsIf_load_mid (by rfl) 28 (.tmp 13) rfl b (off + j * 68 + 1) rfl (b8l (L j).p 32) _ (fun w' h => h.1) Tryz.underlying28 rfl (by rw [b8l_len]; kernel_rfl)) (by assumption) ?_; (try simp only [Act.put, List.setIfInBounds_toArray, List.set_cons_zero, List.set_cons_succ]))
        iterate 4 (refine wpT_take rfl (by rfl) (by rfl) (by intro w' hSw; (try dsimp only [Mem, cellsAt] at hSw); go_simp; (try with_reducible rfl)) (by assumption) ?_; (try simp only [Act.put, List.setIfInBounds_toArray, List.set_cons_zero, List.set_cons_succ]))
        (refine wpT_yield rfl (by rfl) (Go.yieldsIf_load_mid (by rfl) 30 (.tmp 18) rfl b (off + k * 68) rfl (hdL (L k)) _ (fun w' h => h.2) Tryz.underlying30 rfl (by rw [hdL_len]; kernel_rfl)) (by assumption) ?_; (try simp only [Act.put, List.setIfInBounds_toArray, List.set_cons_zero, List.set_cons_succ]))
        (refine wpT_step rfl (by rfl) (fun K hK => ?_); go_simp)
        (refine (HId.out _ (by (repeat (first | exact hB | refine bl_al ?_ _ | refine Below.setCell ?_ (by first | exact hgs | exact Nat.le_succ_of_le hgs | exact hgs2 | exact hgs3) _ | refine Below.drew ?_ | refine bl_drewN ?_ _)))).mono ?_; rintro e w1 ⟨rfl, hb⟩; have hB : Below w.heap.size w w1 := (by refine bl_then ?_ hb; (repeat (first | exact hB | refine bl_al ?_ _ | refine Below.setCell ?_ (by first | exact hgs | exact Nat.le_succ_of_le hgs | exact hgs2 | exact hgs3) _ | refine Below.drew ?_ | refine bl_drewN ?_ _))); (first | with_reducible have hM2 := Mem.later hb (hM.out) | with_reducible have hM2 := Mem.later hb (Mem.al (hM.out) _ _) | with_reducible have hM2 := Mem.later hb (Mem.al (Mem.al (hM.out) _ _) _ _) | with_reducible have hM2 := Mem.later hb (Mem.al (Mem.al (Mem.al (hM.out) _ _) _ _) _ _) | with_reducible have hM2 := Mem.later hb (Mem.al (Mem.al (Mem.al (Mem.al (hM.out) _ _) _ _) _ _) _ _) | with_reducible have hM2 := Mem.later hb (Mem.drew (hM.out)) | with_reducible have hM2 := Mem.later hb (Mem.drew (Mem.al (hM.out) _ _)) | with_reducible have hM2 := Mem.later hb (Mem.al (Mem.drew (hM.out)) _ _) | with_reducible have hM2 := Mem.later hb (Mem.al (Mem.drew (Mem.al (hM.out) _ _)) _ _) | with_reducible have hM2 := Mem.later hb (Mem.drew (Mem.al (Mem.al (hM.out) _ _) _ _)) | with_reducible have hM2 := Mem.later hb (Mem.al (Mem.al (Mem.drew (hM.out)) _ _) _ _) | with_reducible have hM2 := Mem.later hb (Mem.drew (Mem.drew (hM.out))) | with_reducible have hM2 := Mem.later hb (Mem.drew (Mem.al (Mem.drew (hM.out)) _ _)) | with_reducible have hM2 := Mem.later hb (Mem.drew (Mem.al (Mem.al (Mem.al (hM.out) _ _) _ _) _ _)) | with_reducible have hM2 := Mem.later hb (Mem.al (Mem.al (Mem.drew (Mem.al (hM.out) _ _)) _ _) _ _) | with_reducible have hM2 := Mem.later hb (Mem.drew (Mem.al (Mem.drew (Mem.al (hM.out) _ _)) _ _)) | with_reducible have hM2 := Mem.later hb (Mem.al (Mem.al (Mem.al (Mem.al (Mem.al (hM.out) _ _) _ _) _ _) _ _) _ _) | with_reducible have hM2 := Mem.later hb (Mem.al (Mem.al (Mem.al (Mem.al (Mem.al (Mem.al (hM.out) _ _) _ _) _ _) _ _) _ _) _ _) | with_reducible have hM2 := Mem.later hb (Mem.al (Mem.al (Mem.al (Mem.al (Mem.al (Mem.al (Mem.al (hM.out) _ _) _ _) _ _) _ _) _ _) _ _) _ _) | with_reducible have hM2 := Mem.later hb (Mem.al (Mem.al (Mem.al (Mem.al (Mem.al (Mem.al (Mem.al (Mem.al (hM.out) _ _) _ _) _ _) _ _) _ _) _ _) _ _) _ _)); (try simp only [World.size_alloc, size_drew] at hM2); clear hM; have hM := Lib.hid hM2; clear hF; have hF := hM2; (try simp only [Mem, cellsAt, World.size_alloc, Nat.zero_add, Nat.reduceAdd, and_true] at hF); clear hM2; clear hb; clear hF; have hF : True := trivial; (refine hK.out _ _ _ (fun _ h => h) (HR.out _ (by (repeat (first | exact hB | refine bl_al ?_ _ | refine Below.drew ?_ | refine bl_drewN ?_ _)))) (fun hHeld => ?_); clear hK; clear K; (try simp only [Act.put, List.setIfInBounds_toArray, List.set_cons_zero, List.set_cons_succ])))
        iterate 1 (refine wpT_take rfl (by rfl) (by rfl) (by intro w' hSw; (try dsimp only [Mem, cellsAt] at hSw); go_simp; (try with_reducible rfl)) (by assumption) ?_; (try simp only [Act.put, List.setIfInBounds_toArray, List.set_cons_zero, List.set_cons_succ]))
        (refine wpT_nil ?_)
        go_wp2
        go_ret
        exact ⟨j, rfl, ⟨by omega, fun _ => hj1, HY.out, fun _ => HLK.out⟩, hB⟩
    · have hjk : ¬ (j : Int) < (n : Int) := by omega
      go_wp2
      go_ret
      exact ⟨n, rfl, ⟨Nat.le_refl _, fun h => h, fun i h1 h2 => HY.out i h1 (by omega), fun h => absurd h (Nat.lt_irrefl _)⟩, hB⟩

end Go.Proofs.YtlhdfmaekbnhaaaGreatDoor

/- The bits of a number that a mask keeps (moved here from CkMay). -/
namespace Go.Proofs.YtlhdfmaekbnhaaaGreatDoor
set_option linter.unusedVariables false
set_option linter.unusedSimpArgs false
open Go.RowKit

theorem and_i64 (x : Int) (M : Nat) (hM : M < 9223372036854775808) : 0 ≤ bits .and .i64 x (M : Int) ∧ bits .and .i64 x (M : Int) ≤ (M : Int) := by
  have h2 : (BitVec.ofInt 64 (M : Int)).toNat = M := by
    rw [BitVec.ofInt_natCast, BitVec.toNat_ofNat]; exact Nat.mod_eq_of_lt (by omega)
  have e : bits .and .i64 x (M : Int) = IntKind.i64.wrap ((BitVec.ofInt 64 x &&& BitVec.ofInt 64 (M : Int)).toNat : Int) := rfl
  rw [e, BitVec.toNat_and, h2]
  have h3 : (BitVec.ofInt 64 x).toNat &&& M ≤ M := Nat.and_le_right
  generalize (BitVec.ofInt 64 x).toNat &&& M = y at h3
  rw [IntKind.wrap_i64]
  omega

/-- the bits of 31 -/
theorem and_31 (x : Int) : ∃ n : Nat, bits .and .i64 x 31 = (n : Int) ∧ n ≤ 31 := by
  have h : 0 ≤ bits .and .i64 x 31 ∧ bits .and .i64 x 31 ≤ 31 := and_i64 x 31 (by omega)
  exact ⟨(bits .and .i64 x 31).toNat, by omega, by omega⟩
/-- the bits of 65535 -/
theorem and_64k (x : Int) : ∃ n : Nat, bits .and .i64 x 65535 = (n : Int) ∧ n ≤ 65535 := by
  have h : 0 ≤ bits .and .i64 x 65535 ∧ bits .and .i64 x 65535 ≤ 65535 := and_i64 x 65535 (by omega)
  exact ⟨(bits .and .i64 x 65535).toNat, by omega, by omega⟩
end Go.Proofs.YtlhdfmaekbnhaaaGreatDoor

/- florinlaw16: RulesLater (made by gen_ru9.py). (hM) -/
namespace Go.Proofs.YtlhdfmaekbnhaaaGreatDoor
set_option linter.unusedVariables false
set_option linter.unusedSimpArgs false
open Go.RowKit

theorem vld_end {st : Nat → Int} {n m : Nat} {e : Int} (h : Vld st n m e) : ((m : Int) == (n : Int)) = (e == 0) := by
  by_cases hm : m = n
  · have := h.all hm
    subst this
    subst hm
    simp
  · have hlt : m < n := by have := h.le; omega
    obtain ⟨h1, h2⟩ := h.no hlt
    have h3 : (e == 0) = false := by rw [h2]; simpa using h1
    rw [h3]
    simp
    omega
theorem vld_mono {st st' : Nat → Int} {n m m' : Nat} {e e' : Int} (h : Vld st n m e) (h' : Vld st' n m' e') (hs : ∀ i, st i = 0 → st' i = 0) : (m : Int) ≤ (m' : Int) := by
  rcases Nat.lt_or_ge m' m with hlt | hge
  · have h1 := hs _ (h.yes m' hlt)
    exact absurd h1 (h'.no (by have := h.le; omega)).1
  · omega
theorem bnd_mono {a b : Int} (h : a ≤ b) : bndN a ≤ bndN b := by unfold bndN; omega
theorem checkN_mono (t : Int) (l : List Int) (a b fu : Int) (h : a ≤ b) (h0 : checkN t l a fu = 0) : checkN t l b fu = 0 := by
  unfold checkN at *
  by_cases hc : (0 < l.length ∧ t ≤ med l) ∨ bndN a + bndN fu < t
  · rw [if_pos hc] at h0; omega
  · have := bnd_mono h
    rw [if_neg (by omega)]
theorem checkV_mono {lim iv sp fu ix orp : Int} {n : Nat} {ht : Nat → Int} {ch : Nat → Nat → Int} {L : Nat → Hd} {k : Nat} {h : Hd} {a b : Int} (hab : a ≤ b) (h0 : checkV lim iv sp fu ix orp n ht ch L k h a = 0) : checkV lim iv sp fu ix orp n ht ch L k h b = 0 := by
  unfold checkV at *
  by_cases c1 : saneV lim iv sp fu ix orp n = true
  case neg => rw [if_neg c1] at h0; omega
  rw [if_pos c1] at *
  by_cases c2 : (hl h.p == hl (idF (L k))) = true
  case neg => rw [if_neg c2] at h0; omega
  rw [if_pos c2] at *
  by_cases c3 : h.b = chainB lim iv sp fu ix orp n L k
  case neg => rw [if_neg c3] at h0; omega
  rw [if_pos c3] at *
  by_cases c4 : meetsV (hashN (idF h)) h.b lim = 0
  case neg => rw [if_neg c4] at h0; exact absurd h0 c4
  rw [if_pos c4] at *
  by_cases c5 : checkN h.t (timesN (fun i => (L i).t) (k + 1)) a fu = 0
  case neg => rw [if_neg c5] at h0; exact absurd h0 c5
  rw [if_pos c5] at h0
  rw [if_pos (checkN_mono _ _ _ _ _ hab c5)]
  exact h0
theorem checkV_prev {lim iv sp fu ix orp : Int} {n : Nat} {ht : Nat → Int} {ch : Nat → Nat → Int} {L : Nat → Hd} {k : Nat} {h : Hd} {a : Int} (h0 : checkV lim iv sp fu ix orp n ht ch L k h a = 0) : (hl h.p == hl (idF (L k))) = true := by
  unfold checkV at h0
  by_cases c1 : saneV lim iv sp fu ix orp n = true
  case neg => rw [if_neg c1] at h0; omega
  rw [if_pos c1] at h0
  by_cases c2 : (hl h.p == hl (idF (L k))) = true
  case neg => rw [if_neg c2] at h0; omega
  exact c2
theorem stnd_mono {lim iv sp fu ix orp : Int} {n : Nat} {ht : Nat → Int} {ch : Nat → Nat → Int} {L : Nat → Hd} {a b : Int} (hab : a ≤ b) (i : Nat) (h0 : stnd lim iv sp fu ix orp n ht ch L a i (L i) = 0) : stnd lim iv sp fu ix orp n ht ch L b i (L i) = 0 := by
  unfold stnd at *
  split
  · rename_i hi; rw [if_pos hi] at h0; exact h0
  · rename_i hi; rw [if_neg hi] at h0; exact checkV_mono hab h0
theorem vld_link {lim iv sp fu ix orp : Int} {n : Nat} {ht : Nat → Int} {ch : Nat → Nat → Int} {L : Nat → Hd} {a : Int} {k m q : Nat} {e : Int} (h : Vld (fun i => stnd lim iv sp fu ix orp n ht ch L a i (L i)) k m e) (hq : Link L k q) : (m : Int) ≤ (q : Int) := by
  rcases Nat.lt_or_ge q m with hlt | hge
  · have hk : q < k := by have := h.le; omega
    have h1 := h.yes q hlt
    have h2 := hq.no hk
    have h3 := hq.pos (by omega)
    simp only [stnd, if_neg (show ¬ q = 0 by omega)] at h1
    have h4 := checkV_prev h1
    unfold lk at h2
    rw [h4] at h2
    cases h2
  · omega

set_option maxRecDepth 100000 in
set_option maxHeartbeats 8000000 in
theorem later_early (lim iv sp fu ix orp : Int) (ao : Option Addr) (n cp : Nat) (lo : Option Addr) (k lc : Nat) (now more : Int) (w : World) (hT : Tab w) (hbig : 20 < k ∨ 120 < n) :
    Calls Tryz.prog 4 #[PV lim iv sp fu ix orp ao n cp, .slice lo k lc, .int .i64 now, .int .i64 more] w fun e w' => e = .returned (.bool true) ∧ Below w.heap.size w w' := by
  have HA := Lib.hid (fun (x : World) (hb : Below w.heap.size w x) => awake16_any x (hT.later hb))
  have hM := Lib.hid (Mem.al (mem_nil w) [.int .u32 lim, .int .i64 iv, .int .i64 sp, .int .i64 fu, .int .i64 ix, .int .i64 orp, .slice ao n cp] 25)
  have hB := bl_al (Below.refl w.heap.size w) (.cells ([.int .u32 lim, .int .i64 iv, .int .i64 sp, .int .i64 fu, .int .i64 ix, .int .i64 orp, .slice ao n cp] : List Value).toArray 25)
  have hF : True := trivial
  by_cases h1 : 20 < k
  · have h1i : (20 : Int) < (k : Int) := by omega
    clear hbig h1 hT
    go_enter Tryz.func4, Tryz.ntmps4
    go_wp2_with (first | (go_at_call 8; (with_reducible refine (HA.out _ hB).mono ?_); rintro e w1 ⟨rfl, hb⟩; have hB : Below w.heap.size w w1 := (by refine bl_then ?_ hb; (repeat (first | exact hB | refine bl_al ?_ _ | refine Below.setCell ?_ (by first | exact hgs | exact Nat.le_succ_of_le hgs | exact hgs2 | exact hgs3) _ | refine Below.drew ?_ | refine bl_drewN ?_ _))); (first | with_reducible have hM2 := Mem.later hb (hM.out) | with_reducible have hM2 := Mem.later hb (Mem.al (hM.out) _ _) | with_reducible have hM2 := Mem.later hb (Mem.al (Mem.al (hM.out) _ _) _ _) | with_reducible have hM2 := Mem.later hb (Mem.al (Mem.al (Mem.al (hM.out) _ _) _ _) _ _) | with_reducible have hM2 := Mem.later hb (Mem.al (Mem.al (Mem.al (Mem.al (hM.out) _ _) _ _) _ _) _ _) | with_reducible have hM2 := Mem.later hb (Mem.drew (hM.out)) | with_reducible have hM2 := Mem.later hb (Mem.drew (Mem.al (hM.out) _ _)) | with_reducible have hM2 := Mem.later hb (Mem.al (Mem.drew (hM.out)) _ _) | with_reducible have hM2 := Mem.later hb (Mem.al (Mem.drew (Mem.al (hM.out) _ _)) _ _) | with_reducible have hM2 := Mem.later hb (Mem.drew (Mem.al (Mem.al (hM.out) _ _) _ _)) | with_reducible have hM2 := Mem.later hb (Mem.al (Mem.al (Mem.drew (hM.out)) _ _) _ _) | with_reducible have hM2 := Mem.later hb (Mem.drew (Mem.drew (hM.out))) | with_reducible have hM2 := Mem.later hb (Mem.drew (Mem.al (Mem.drew (hM.out)) _ _)) | with_reducible have hM2 := Mem.later hb (Mem.drew (Mem.al (Mem.al (Mem.al (hM.out) _ _) _ _) _ _)) | with_reducible have hM2 := Mem.later hb (Mem.al (Mem.al (Mem.drew (Mem.al (hM.out) _ _)) _ _) _ _) | with_reducible have hM2 := Mem.later hb (Mem.drew (Mem.al (Mem.drew (Mem.al (hM.out) _ _)) _ _)) | with_reducible have hM2 := Mem.later hb (Mem.al (Mem.al (Mem.al (Mem.al (Mem.al (hM.out) _ _) _ _) _ _) _ _) _ _) | with_reducible have hM2 := Mem.later hb (Mem.al (Mem.al (Mem.al (Mem.al (Mem.al (Mem.al (hM.out) _ _) _ _) _ _) _ _) _ _) _ _) | with_reducible have hM2 := Mem.later hb (Mem.al (Mem.al (Mem.al (Mem.al (Mem.al (Mem.al (Mem.al (hM.out) _ _) _ _) _ _) _ _) _ _) _ _) _ _) | with_reducible have hM2 := Mem.later hb (Mem.al (Mem.al (Mem.al (Mem.al (Mem.al (Mem.al (Mem.al (Mem.al (hM.out) _ _) _ _) _ _) _ _) _ _) _ _) _ _) _ _)); (try simp only [World.size_alloc, size_drew] at hM2); clear hM; have hM := Lib.hid hM2; clear hF; have hF := hM2; (try simp only [Mem, cellsAt, World.size_alloc, Nat.zero_add, Nat.reduceAdd, and_true] at hF); clear hM2; clear hb; clear hF; have hF : True := trivial; have hpl := cellsAt_get (j := 6) (Mem.get hM.out (List.mem_cons_self)) rfl))
    go_ret
    exact ⟨rfl, hB⟩
  · have h1i : ¬ (20 : Int) < (k : Int) := by omega
    have h2i : (120 : Int) < (n : Int) := by omega
    clear hbig h1 hT
    go_enter Tryz.func4, Tryz.ntmps4
    go_wp2_with (first | (go_at_call 8; (with_reducible refine (HA.out _ hB).mono ?_); rintro e w1 ⟨rfl, hb⟩; have hB : Below w.heap.size w w1 := (by refine bl_then ?_ hb; (repeat (first | exact hB | refine bl_al ?_ _ | refine Below.setCell ?_ (by first | exact hgs | exact Nat.le_succ_of_le hgs | exact hgs2 | exact hgs3) _ | refine Below.drew ?_ | refine bl_drewN ?_ _))); (first | with_reducible have hM2 := Mem.later hb (hM.out) | with_reducible have hM2 := Mem.later hb (Mem.al (hM.out) _ _) | with_reducible have hM2 := Mem.later hb (Mem.al (Mem.al (hM.out) _ _) _ _) | with_reducible have hM2 := Mem.later hb (Mem.al (Mem.al (Mem.al (hM.out) _ _) _ _) _ _) | with_reducible have hM2 := Mem.later hb (Mem.al (Mem.al (Mem.al (Mem.al (hM.out) _ _) _ _) _ _) _ _) | with_reducible have hM2 := Mem.later hb (Mem.drew (hM.out)) | with_reducible have hM2 := Mem.later hb (Mem.drew (Mem.al (hM.out) _ _)) | with_reducible have hM2 := Mem.later hb (Mem.al (Mem.drew (hM.out)) _ _) | with_reducible have hM2 := Mem.later hb (Mem.al (Mem.drew (Mem.al (hM.out) _ _)) _ _) | with_reducible have hM2 := Mem.later hb (Mem.drew (Mem.al (Mem.al (hM.out) _ _) _ _)) | with_reducible have hM2 := Mem.later hb (Mem.al (Mem.al (Mem.drew (hM.out)) _ _) _ _) | with_reducible have hM2 := Mem.later hb (Mem.drew (Mem.drew (hM.out))) | with_reducible have hM2 := Mem.later hb (Mem.drew (Mem.al (Mem.drew (hM.out)) _ _)) | with_reducible have hM2 := Mem.later hb (Mem.drew (Mem.al (Mem.al (Mem.al (hM.out) _ _) _ _) _ _)) | with_reducible have hM2 := Mem.later hb (Mem.al (Mem.al (Mem.drew (Mem.al (hM.out) _ _)) _ _) _ _) | with_reducible have hM2 := Mem.later hb (Mem.drew (Mem.al (Mem.drew (Mem.al (hM.out) _ _)) _ _)) | with_reducible have hM2 := Mem.later hb (Mem.al (Mem.al (Mem.al (Mem.al (Mem.al (hM.out) _ _) _ _) _ _) _ _) _ _) | with_reducible have hM2 := Mem.later hb (Mem.al (Mem.al (Mem.al (Mem.al (Mem.al (Mem.al (hM.out) _ _) _ _) _ _) _ _) _ _) _ _) | with_reducible have hM2 := Mem.later hb (Mem.al (Mem.al (Mem.al (Mem.al (Mem.al (Mem.al (Mem.al (hM.out) _ _) _ _) _ _) _ _) _ _) _ _) _ _) | with_reducible have hM2 := Mem.later hb (Mem.al (Mem.al (Mem.al (Mem.al (Mem.al (Mem.al (Mem.al (Mem.al (hM.out) _ _) _ _) _ _) _ _) _ _) _ _) _ _) _ _)); (try simp only [World.size_alloc, size_drew] at hM2); clear hM; have hM := Lib.hid hM2; clear hF; have hF := hM2; (try simp only [Mem, cellsAt, World.size_alloc, Nat.zero_add, Nat.reduceAdd, and_true] at hF); clear hM2; clear hb; clear hF; have hF : True := trivial; have hpl := cellsAt_get (j := 6) (Mem.get hM.out (List.mem_cons_self)) rfl))
    go_ret
    exact ⟨rfl, hB⟩

set_option maxRecDepth 100000 in
set_option maxHeartbeats 8000000 in
theorem later_walk (lim iv sp fu ix orp : Int) (ao : Option Addr) (n cp : Nat) (ht : Nat → Int) (ch : Nat → Nat → Int) (hlm : 0 ≤ lim ∧ lim < 4294967296) (hch : ∀ i j, 0 ≤ ch i j ∧ ch i j < 256) (lo : Option Addr) (k lc : Nat) (L : Nat → Hd) (hL : ∀ i, HdOk (L i)) (now more : Int) (w : World) (hT : Tab w)
    (hp : SRow w ao n cp 33 (fun i => ckL (ht i) (ch i))) (hr : SRow w lo k lc 68 (fun i => hdL (L i))) (hk : k ≤ 20) (hn : n ≤ 120) :
    Calls Tryz.prog 4 #[PV lim iv sp fu ix orp ao n cp, .slice lo k lc, .int .i64 now, .int .i64 more] w fun e w' => e = .returned (.bool true) ∧ Below w.heap.size w w' := by
  have hA0 := and_i64 now 4294967295 (by decide)
  have hD0 := and_i64 more 4294967295 (by decide)
  obtain ⟨A, hA⟩ : ∃ A, bits .and .i64 now 4294967295 = A := ⟨_, rfl⟩
  obtain ⟨D, hD⟩ : ∃ D, bits .and .i64 more 4294967295 = D := ⟨_, rfl⟩
  have hA1 : 0 ≤ A ∧ A ≤ 4294967295 := hA ▸ hA0
  have hD1 : 0 ≤ D ∧ D ≤ 4294967295 := hD ▸ hD0
  have hwr : IntKind.i64.wrap (A + D) = A + D := by rw [IntKind.wrap_i64]; omega
  obtain ⟨B, hBd⟩ : ∃ B, A + D = B := ⟨_, rfl⟩
  have hAB : A ≤ B := by omega
  rw [hBd] at hwr
  have HA := Lib.hid (fun (x : World) (hb : Below w.heap.size w x) => awake16_any x (hT.later hb))
  have HV1 := Lib.hid (fun (x : World) (hb : Below w.heap.size w x) => valid_any lim iv sp fu ix orp ao n cp ht ch hlm (by omega) hch L hL lo k lc (by omega) A x (hT.later hb) (hp.later (by decide) hb) (hr.later (by decide) hb))
  have HV2 := Lib.hid (fun (x : World) (hb : Below w.heap.size w x) => valid_any lim iv sp fu ix orp ao n cp ht ch hlm (by omega) hch L hL lo k lc (by omega) B x (hT.later hb) (hp.later (by decide) hb) (hr.later (by decide) hb))
  have HLk := Lib.hid (fun (x : World) (hb : Below w.heap.size w x) => linked_any L hL lo k lc x (hT.later hb) (hr.later (by decide) hb) (by omega))
  have HMo := Lib.hid (fun (m1 m2 : Nat) (e1 e2 : Int) (h1 : Vld (fun i => stnd lim iv sp fu ix orp n ht ch L A i (L i)) k m1 e1) (h2 : Vld (fun i => stnd lim iv sp fu ix orp n ht ch L B i (L i)) k m2 e2) => vld_mono h1 h2 (fun i => stnd_mono hAB i))
  have HMq := Lib.hid (fun (m1 q : Nat) (e1 : Int) (h1 : Vld (fun i => stnd lim iv sp fu ix orp n ht ch L A i (L i)) k m1 e1) (h2 : Link L k q) => vld_link h1 h2)
  have hM := Lib.hid (Mem.al (mem_nil w) [.int .u32 lim, .int .i64 iv, .int .i64 sp, .int .i64 fu, .int .i64 ix, .int .i64 orp, .slice ao n cp] 25)
  have hB := bl_al (Below.refl w.heap.size w) (.cells ([.int .u32 lim, .int .i64 iv, .int .i64 sp, .int .i64 fu, .int .i64 ix, .int .i64 orp, .slice ao n cp] : List Value).toArray 25)
  have hF : True := trivial
  have h1i : ¬ (20 : Int) < (k : Int) := by omega
  have h2i : ¬ (120 : Int) < (n : Int) := by omega
  clear hT hp hr hk hn hL hch hlm hA0 hD0 hA1 hD1 hAB
  go_enter Tryz.func4, Tryz.ntmps4
  go_wp2_with (first |
    (go_at_call 8; (with_reducible refine (HA.out _ hB).mono ?_); rintro e w1 ⟨rfl, hb⟩; have hB : Below w.heap.size w w1 := (by refine bl_then ?_ hb; (repeat (first | exact hB | refine bl_al ?_ _ | refine Below.setCell ?_ (by first | exact hgs | exact Nat.le_succ_of_le hgs | exact hgs2 | exact hgs3) _ | refine Below.drew ?_ | refine bl_drewN ?_ _))); (first | with_reducible have hM2 := Mem.later hb (hM.out) | with_reducible have hM2 := Mem.later hb (Mem.al (hM.out) _ _) | with_reducible have hM2 := Mem.later hb (Mem.al (Mem.al (hM.out) _ _) _ _) | with_reducible have hM2 := Mem.later hb (Mem.al (Mem.al (Mem.al (hM.out) _ _) _ _) _ _) | with_reducible have hM2 := Mem.later hb (Mem.al (Mem.al (Mem.al (Mem.al (hM.out) _ _) _ _) _ _) _ _) | with_reducible have hM2 := Mem.later hb (Mem.drew (hM.out)) | with_reducible have hM2 := Mem.later hb (Mem.drew (Mem.al (hM.out) _ _)) | with_reducible have hM2 := Mem.later hb (Mem.al (Mem.drew (hM.out)) _ _) | with_reducible have hM2 := Mem.later hb (Mem.al (Mem.drew (Mem.al (hM.out) _ _)) _ _) | with_reducible have hM2 := Mem.later hb (Mem.drew (Mem.al (Mem.al (hM.out) _ _) _ _)) | with_reducible have hM2 := Mem.later hb (Mem.al (Mem.al (Mem.drew (hM.out)) _ _) _ _) | with_reducible have hM2 := Mem.later hb (Mem.drew (Mem.drew (hM.out))) | with_reducible have hM2 := Mem.later hb (Mem.drew (Mem.al (Mem.drew (hM.out)) _ _)) | with_reducible have hM2 := Mem.later hb (Mem.drew (Mem.al (Mem.al (Mem.al (hM.out) _ _) _ _) _ _)) | with_reducible have hM2 := Mem.later hb (Mem.al (Mem.al (Mem.drew (Mem.al (hM.out) _ _)) _ _) _ _) | with_reducible have hM2 := Mem.later hb (Mem.drew (Mem.al (Mem.drew (Mem.al (hM.out) _ _)) _ _)) | with_reducible have hM2 := Mem.later hb (Mem.al (Mem.al (Mem.al (Mem.al (Mem.al (hM.out) _ _) _ _) _ _) _ _) _ _) | with_reducible have hM2 := Mem.later hb (Mem.al (Mem.al (Mem.al (Mem.al (Mem.al (Mem.al (hM.out) _ _) _ _) _ _) _ _) _ _) _ _) | with_reducible have hM2 := Mem.later hb (Mem.al (Mem.al (Mem.al (Mem.al (Mem.al (Mem.al (Mem.al (hM.out) _ _) _ _) _ _) _ _) _ _) _ _) _ _) | with_reducible have hM2 := Mem.later hb (Mem.al (Mem.al (Mem.al (Mem.al (Mem.al (Mem.al (Mem.al (Mem.al (hM.out) _ _) _ _) _ _) _ _) _ _) _ _) _ _) _ _)); (try simp only [World.size_alloc, size_drew] at hM2); clear hM; have hM := Lib.hid hM2; clear hF; have hF := hM2; (try simp only [Mem, cellsAt, World.size_alloc, Nat.zero_add, Nat.reduceAdd, and_true] at hF); clear hM2; clear hb; clear hF; have hF : True := trivial; have hpl := cellsAt_get (j := 6) (Mem.get hM.out (List.mem_cons_self)) rfl) |
    ((with_reducible_and_instances refine at_load 4 ?_); refine Go.wpList_load_mid rfl 25 (.tmp 4) rfl w.heap.size 0 rfl ([.int .u32 lim, .int .i64 iv, .int .i64 sp, .int .i64 fu, .int .i64 ix, .int .i64 orp, .slice ao n cp]) _ (rangeAt_of (Mem.get hM.out (by simp))) Tryz.underlying25 rfl (by kernel_rfl) ?_) |
    (go_at_call 17; (with_reducible refine (HV1.out _ hB).mono ?_); rintro e w2 ⟨m1, e1, rfl, hv1, hb⟩; have hB : Below w.heap.size w w2 := (by refine bl_then ?_ hb; (repeat (first | exact hB | refine bl_al ?_ _ | refine Below.setCell ?_ (by first | exact hgs | exact Nat.le_succ_of_le hgs | exact hgs2 | exact hgs3) _ | refine Below.drew ?_ | refine bl_drewN ?_ _))); (first | with_reducible have hM2 := Mem.later hb (hM.out) | with_reducible have hM2 := Mem.later hb (Mem.al (hM.out) _ _) | with_reducible have hM2 := Mem.later hb (Mem.al (Mem.al (hM.out) _ _) _ _) | with_reducible have hM2 := Mem.later hb (Mem.al (Mem.al (Mem.al (hM.out) _ _) _ _) _ _) | with_reducible have hM2 := Mem.later hb (Mem.al (Mem.al (Mem.al (Mem.al (hM.out) _ _) _ _) _ _) _ _) | with_reducible have hM2 := Mem.later hb (Mem.drew (hM.out)) | with_reducible have hM2 := Mem.later hb (Mem.drew (Mem.al (hM.out) _ _)) | with_reducible have hM2 := Mem.later hb (Mem.al (Mem.drew (hM.out)) _ _) | with_reducible have hM2 := Mem.later hb (Mem.al (Mem.drew (Mem.al (hM.out) _ _)) _ _) | with_reducible have hM2 := Mem.later hb (Mem.drew (Mem.al (Mem.al (hM.out) _ _) _ _)) | with_reducible have hM2 := Mem.later hb (Mem.al (Mem.al (Mem.drew (hM.out)) _ _) _ _) | with_reducible have hM2 := Mem.later hb (Mem.drew (Mem.drew (hM.out))) | with_reducible have hM2 := Mem.later hb (Mem.drew (Mem.al (Mem.drew (hM.out)) _ _)) | with_reducible have hM2 := Mem.later hb (Mem.drew (Mem.al (Mem.al (Mem.al (hM.out) _ _) _ _) _ _)) | with_reducible have hM2 := Mem.later hb (Mem.al (Mem.al (Mem.drew (Mem.al (hM.out) _ _)) _ _) _ _) | with_reducible have hM2 := Mem.later hb (Mem.drew (Mem.al (Mem.drew (Mem.al (hM.out) _ _)) _ _)) | with_reducible have hM2 := Mem.later hb (Mem.al (Mem.al (Mem.al (Mem.al (Mem.al (hM.out) _ _) _ _) _ _) _ _) _ _) | with_reducible have hM2 := Mem.later hb (Mem.al (Mem.al (Mem.al (Mem.al (Mem.al (Mem.al (hM.out) _ _) _ _) _ _) _ _) _ _) _ _) | with_reducible have hM2 := Mem.later hb (Mem.al (Mem.al (Mem.al (Mem.al (Mem.al (Mem.al (Mem.al (hM.out) _ _) _ _) _ _) _ _) _ _) _ _) _ _) | with_reducible have hM2 := Mem.later hb (Mem.al (Mem.al (Mem.al (Mem.al (Mem.al (Mem.al (Mem.al (Mem.al (hM.out) _ _) _ _) _ _) _ _) _ _) _ _) _ _) _ _)); (try simp only [World.size_alloc, size_drew] at hM2); clear hM; have hM := Lib.hid hM2; clear hF; have hF := hM2; (try simp only [Mem, cellsAt, World.size_alloc, Nat.zero_add, Nat.reduceAdd, and_true] at hF); clear hM2; clear hb; clear hF; have hF : True := trivial; have HR1 := Lib.hid hv1; obtain ⟨z1, hz1⟩ : ∃ z, (e1 == 0) = z := ⟨_, rfl⟩; have hy1 : ((m1 : Int) == (k : Int)) = z1 := hz1 ▸ vld_end hv1; clear hv1) |
    (go_at_call 17; (with_reducible refine (HV2.out _ hB).mono ?_); rintro e w3 ⟨m2, e2, rfl, hv2, hb⟩; have hB : Below w.heap.size w w3 := (by refine bl_then ?_ hb; (repeat (first | exact hB | refine bl_al ?_ _ | refine Below.setCell ?_ (by first | exact hgs | exact Nat.le_succ_of_le hgs | exact hgs2 | exact hgs3) _ | refine Below.drew ?_ | refine bl_drewN ?_ _))); (first | with_reducible have hM2 := Mem.later hb (hM.out) | with_reducible have hM2 := Mem.later hb (Mem.al (hM.out) _ _) | with_reducible have hM2 := Mem.later hb (Mem.al (Mem.al (hM.out) _ _) _ _) | with_reducible have hM2 := Mem.later hb (Mem.al (Mem.al (Mem.al (hM.out) _ _) _ _) _ _) | with_reducible have hM2 := Mem.later hb (Mem.al (Mem.al (Mem.al (Mem.al (hM.out) _ _) _ _) _ _) _ _) | with_reducible have hM2 := Mem.later hb (Mem.drew (hM.out)) | with_reducible have hM2 := Mem.later hb (Mem.drew (Mem.al (hM.out) _ _)) | with_reducible have hM2 := Mem.later hb (Mem.al (Mem.drew (hM.out)) _ _) | with_reducible have hM2 := Mem.later hb (Mem.al (Mem.drew (Mem.al (hM.out) _ _)) _ _) | with_reducible have hM2 := Mem.later hb (Mem.drew (Mem.al (Mem.al (hM.out) _ _) _ _)) | with_reducible have hM2 := Mem.later hb (Mem.al (Mem.al (Mem.drew (hM.out)) _ _) _ _) | with_reducible have hM2 := Mem.later hb (Mem.drew (Mem.drew (hM.out))) | with_reducible have hM2 := Mem.later hb (Mem.drew (Mem.al (Mem.drew (hM.out)) _ _)) | with_reducible have hM2 := Mem.later hb (Mem.drew (Mem.al (Mem.al (Mem.al (hM.out) _ _) _ _) _ _)) | with_reducible have hM2 := Mem.later hb (Mem.al (Mem.al (Mem.drew (Mem.al (hM.out) _ _)) _ _) _ _) | with_reducible have hM2 := Mem.later hb (Mem.drew (Mem.al (Mem.drew (Mem.al (hM.out) _ _)) _ _)) | with_reducible have hM2 := Mem.later hb (Mem.al (Mem.al (Mem.al (Mem.al (Mem.al (hM.out) _ _) _ _) _ _) _ _) _ _) | with_reducible have hM2 := Mem.later hb (Mem.al (Mem.al (Mem.al (Mem.al (Mem.al (Mem.al (hM.out) _ _) _ _) _ _) _ _) _ _) _ _) | with_reducible have hM2 := Mem.later hb (Mem.al (Mem.al (Mem.al (Mem.al (Mem.al (Mem.al (Mem.al (hM.out) _ _) _ _) _ _) _ _) _ _) _ _) _ _) | with_reducible have hM2 := Mem.later hb (Mem.al (Mem.al (Mem.al (Mem.al (Mem.al (Mem.al (Mem.al (Mem.al (hM.out) _ _) _ _) _ _) _ _) _ _) _ _) _ _) _ _)); (try simp only [World.size_alloc, size_drew] at hM2); clear hM; have hM := Lib.hid hM2; clear hF; have hF := hM2; (try simp only [Mem, cellsAt, World.size_alloc, Nat.zero_add, Nat.reduceAdd, and_true] at hF); clear hM2; clear hb; clear hF; have hF : True := trivial; obtain ⟨z2, hz2⟩ : ∃ z, (e2 == 0) = z := ⟨_, rfl⟩; have hy2 : ((m2 : Int) == (k : Int)) = z2 := hz2 ▸ vld_end hv2; have hle : (m1 : Int) ≤ (m2 : Int) := HMo.out _ _ _ _ HR1.out hv2; clear hv2) |
    (go_at_call 18; (with_reducible refine (HLk.out _ hB).mono ?_); rintro e w4 ⟨q, rfl, hq, hb⟩; have hB : Below w.heap.size w w4 := (by refine bl_then ?_ hb; (repeat (first | exact hB | refine bl_al ?_ _ | refine Below.setCell ?_ (by first | exact hgs | exact Nat.le_succ_of_le hgs | exact hgs2 | exact hgs3) _ | refine Below.drew ?_ | refine bl_drewN ?_ _))); (first | with_reducible have hM2 := Mem.later hb (hM.out) | with_reducible have hM2 := Mem.later hb (Mem.al (hM.out) _ _) | with_reducible have hM2 := Mem.later hb (Mem.al (Mem.al (hM.out) _ _) _ _) | with_reducible have hM2 := Mem.later hb (Mem.al (Mem.al (Mem.al (hM.out) _ _) _ _) _ _) | with_reducible have hM2 := Mem.later hb (Mem.al (Mem.al (Mem.al (Mem.al (hM.out) _ _) _ _) _ _) _ _) | with_reducible have hM2 := Mem.later hb (Mem.drew (hM.out)) | with_reducible have hM2 := Mem.later hb (Mem.drew (Mem.al (hM.out) _ _)) | with_reducible have hM2 := Mem.later hb (Mem.al (Mem.drew (hM.out)) _ _) | with_reducible have hM2 := Mem.later hb (Mem.al (Mem.drew (Mem.al (hM.out) _ _)) _ _) | with_reducible have hM2 := Mem.later hb (Mem.drew (Mem.al (Mem.al (hM.out) _ _) _ _)) | with_reducible have hM2 := Mem.later hb (Mem.al (Mem.al (Mem.drew (hM.out)) _ _) _ _) | with_reducible have hM2 := Mem.later hb (Mem.drew (Mem.drew (hM.out))) | with_reducible have hM2 := Mem.later hb (Mem.drew (Mem.al (Mem.drew (hM.out)) _ _)) | with_reducible have hM2 := Mem.later hb (Mem.drew (Mem.al (Mem.al (Mem.al (hM.out) _ _) _ _) _ _)) | with_reducible have hM2 := Mem.later hb (Mem.al (Mem.al (Mem.drew (Mem.al (hM.out) _ _)) _ _) _ _) | with_reducible have hM2 := Mem.later hb (Mem.drew (Mem.al (Mem.drew (Mem.al (hM.out) _ _)) _ _)) | with_reducible have hM2 := Mem.later hb (Mem.al (Mem.al (Mem.al (Mem.al (Mem.al (hM.out) _ _) _ _) _ _) _ _) _ _) | with_reducible have hM2 := Mem.later hb (Mem.al (Mem.al (Mem.al (Mem.al (Mem.al (Mem.al (hM.out) _ _) _ _) _ _) _ _) _ _) _ _) | with_reducible have hM2 := Mem.later hb (Mem.al (Mem.al (Mem.al (Mem.al (Mem.al (Mem.al (Mem.al (hM.out) _ _) _ _) _ _) _ _) _ _) _ _) _ _) | with_reducible have hM2 := Mem.later hb (Mem.al (Mem.al (Mem.al (Mem.al (Mem.al (Mem.al (Mem.al (Mem.al (hM.out) _ _) _ _) _ _) _ _) _ _) _ _) _ _) _ _)); (try simp only [World.size_alloc, size_drew] at hM2); clear hM; have hM := Lib.hid hM2; clear hF; have hF := hM2; (try simp only [Mem, cellsAt, World.size_alloc, Nat.zero_add, Nat.reduceAdd, and_true] at hF); clear hM2; clear hb; clear hF; have hF : True := trivial; have hle2 : (m1 : Int) ≤ (q : Int) := HMq.out _ _ _ HR1.out hq; clear hq))
  go_ret
  exact ⟨rfl, hB⟩
theorem later_main (lim iv sp fu ix orp : Int) (ao : Option Addr) (n cp : Nat) (ht : Nat → Int) (ch : Nat → Nat → Int) (hlm : 0 ≤ lim ∧ lim < 4294967296) (hch : ∀ i j, 0 ≤ ch i j ∧ ch i j < 256) (lo : Option Addr) (k lc : Nat) (L : Nat → Hd) (hL : ∀ i, HdOk (L i)) (now more : Int) (w : World) (hT : Tab w)
    (hp : SRow w ao n cp 33 (fun i => ckL (ht i) (ch i))) (hr : SRow w lo k lc 68 (fun i => hdL (L i))) :
    Calls Tryz.prog 4 #[PV lim iv sp fu ix orp ao n cp, .slice lo k lc, .int .i64 now, .int .i64 more] w fun e w' => e = .returned (.bool true) ∧ Below w.heap.size w w' := by
  by_cases h1 : 20 < k
  · exact later_early lim iv sp fu ix orp ao n cp lo k lc now more w hT (.inl h1)
  by_cases h2 : 120 < n
  · exact later_early lim iv sp fu ix orp ao n cp lo k lc now more w hT (.inr h2)
  exact later_walk lim iv sp fu ix orp ao n cp ht ch hlm hch lo k lc L hL now more w hT hp hr (by omega) (by omega)
end Go.Proofs.YtlhdfmaekbnhaaaGreatDoor
