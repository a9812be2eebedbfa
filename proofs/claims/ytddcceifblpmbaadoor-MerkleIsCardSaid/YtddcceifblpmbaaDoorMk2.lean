/- merkle.Root (made by gen_mk2.py). (hM) -/
import Derived.Test.YtddcceifblpmbaaDoorMkI
namespace Go.Proofs.YtddcceifblpmbaaDoor
set_option linter.unusedVariables false
set_option linter.unusedSimpArgs false
open Go.RowKit
attribute [local go_sem] Oper.semAt_some

theorem hA_sizeM (f : Nat → Int) : (b8l f 32).toArray.size = 32 := by rw [List.size_toArray, b8l_len]
theorem wpT_nilR {P : Program} {ops : List Oper} {Q : Exit → Act → World → Prop} {S : World → Prop} {bad : List Nat} {a : Act} {w : World} (h : Q .normal a w) : wpT P ops.toArray (QN (QR Q)) bad [] S a w := h
/-- the last level's first hash as far as the loop has come -/
def rtF (L : List HF) : Nat → HF
  | 0 => zH
  | k + 1 => (lev L k).getD 0 zH
/-- what Root's own cells hold between two rounds -/
def RtJ (w : World) (L : List HF) (k : Nat) (W : World) : Prop :=
  ∃ b : Bool, (b = true ↔ likeT L k) ∧ Mem W [(w.heap.size + 2, [.bool b]), (w.heap.size + 1, b8l (rtF L k) 32), (w.heap.size, b8l zH 32)] ∧ Below w.heap.size w W ∧ w.heap.size + 4 ≤ W.heap.size
theorem RtJ.book {w : World} {L : List HF} (k : Nat) (X Y : World) (h : RtJ w L k X) (hb : Book (w.heap.size + 4) X Y) : RtJ w L k Y := by
  obtain ⟨b, h1, h2, h3, h4⟩ := h
  exact ⟨b, h1, h2.book hb (by simp), h3.trans (hb.below.mono (by omega)), Nat.le_trans h4 hb.size⟩
theorem likeT_step {L : List HF} {k : Nat} : likeT L (k + 1) ↔ likeT L k ∨ likeL (lev L k) := by
  constructor
  · rintro ⟨i, hi, h⟩
    rcases Nat.lt_or_ge i k with h1 | h1
    · exact .inl ⟨i, h1, h⟩
    · exact .inr (by rw [show k = i by omega]; exact h)
  · rintro (⟨i, hi, h⟩ | h)
    · exact ⟨i, by omega, h⟩
    · exact ⟨k, by omega, h⟩
/-- what Root hands back -/
def RtPost (w : World) (L : List HF) (n : Nat) (e : Ending) (w' : World) : Prop := ∃ b : Bool, e = .returned (.tuple #[arr32 (rootF L), .bool b]) ∧ (b = true ↔ likeT L (levN n)) ∧ Below w.heap.size w w'
theorem rt_root (L : List HF) : rtF L (levN L.length) = rootF L := by
  unfold rootF
  by_cases h : levN L.length = 0
  · rw [if_pos h, h]; rfl
  · rw [if_neg h]
    have e : levN L.length = hgt L.length + 1 := by unfold levN at *; split at h <;> simp_all
    rw [e]; rfl
/-- what the inner loop carries -/
def RtRel (w : World) (L : List HF) (k q : Nat) (ao : Option Addr) (c2 : Nat) (W : World) (i : Value) (wr : World) : Prop :=
  ∃ (j : Nat) (b : Bool), 2 * j ≤ q ∧ i = .int .i64 ((2 * j + 1 : Nat) : Int) ∧ (b = true ↔ likeT L k ∨ ∃ j', j' < j ∧ likeAt (lev L k) j') ∧
    Mem wr [(w.heap.size + 2, [.bool b]), (w.heap.size + 1, b8l (rtF L k) 32), (w.heap.size, b8l zH 32)] ∧ Row wr ao q c2 32 (hsL (lev L k)) ∧ KeepsOthers W wr ∧ Below w.heap.size W wr

set_option maxRecDepth 100000 in
set_option maxHeartbeats 8000000 in
theorem root_any (ao : Option Addr) (n c : Nat) (L : List HF) (w : World) (hT : Tab w) (h : Row w ao n c 32 (hsL L)) (hL : ∀ f ∈ L, HB f) :
    Calls Tryd.prog 44 #[.slice ao n c] w (RtPost w L n) := by
  have hln := hs_len h
  have HLt := Lib.hid (h.lt)
  have HN := Lib.hid hln
  refine (callsIn_wide (n := 3)).1 (callsIn_of_wp_marks Tryd.func44 rfl trivial ?_ rfl)
  simp only [Tryd.ntmps44, List.size_toArray, List.length_cons, List.length_nil, Nat.reduceAdd, Nat.reduceSub, Array.replicate_succ, Array.replicate_zero, List.push_toArray, List.append_toArray, List.nil_append, List.cons_append]
  have HR := Lib.hid h
  have HLb := Lib.hid hL
  have HT := Lib.hid hT
  clear h hL hT hln
  have hM0 := Mem.al (Mem.al (Mem.al (mem_nil w) (b8l zH 32) 23) (b8l zH 32) 23) [.bool false] 4
  simp only [World.size_alloc] at hM0
  have HM0 := Lib.hid hM0
  clear hM0
  gi_wp2_with (refine ⟨trivial, ?_⟩; refine (callsIn_wide.2 (levels_any ..)).mono ?_; rintro e w' ⟨rfl, rfl⟩)
  refine ⟨trivial, ?_⟩
  refine (callsIn_wide.2 (levels_any ao n c _)).mono ?_
  rintro e w4 ⟨rfl, hw4⟩
  have hM4 : Mem w4 [(w.heap.size + 2, [.bool false]), (w.heap.size + 1, b8l zH 32), (w.heap.size, b8l zH 32)] := by rw [hw4]; exact Mem.skip HM0.out _
  have hS4 : w4.heap.size = w.heap.size + 4 := by rw [hw4]; simp
  have hB4 : Below w.heap.size w w4 := by rw [hw4]; (repeat (first | exact Below.refl _ _ | refine Below.drew ?_ | refine bl_drewN ?_ _ | (refine Below.alloc ?_ (by first | exact Nat.le_refl _ | (simp; done) | (simp; omega)) _)))
  have hC4 : w4.cell? ⟨w.heap.size + 3, 0, none⟩ = some (.slice ao n c) := by
    rw [hw4]
    have := World.cell?_alloc_new (((w.alloc (.cells (b8l zH 32).toArray 23)).alloc (.cells (b8l zH 32).toArray 23)).alloc (.cells #[.bool false] 4)) #[.slice ao n c] 60 0
    simp only [World.size_alloc, Nat.add_assoc, Nat.reduceAdd] at this
    exact this.trans rfl
  simp only [World.size_alloc, Nat.add_assoc, Nat.reduceAdd]
  clear hw4 HM0
  gi_wp2
  have HRo := Lib.hid (levels_rounds 2 w HT.out ao n c L HR.out HLb.out w4 hB4 (w.heap.size + 3) (by omega) hC4)
  refine wpIn_rounds rfl (enters_of Tryd.func103 (by kernel_rfl) rfl) HRo.out (Below.refl _ _) hB4.size rfl (RtJ w L) (by rw [hS4]; exact RtJ.book) (VL.book _) (fun _ _ h => ko_of_below h)
    ⟨false, by simp [likeT], hM4, hB4, Nat.le_of_eq hS4.symm⟩
    (fun v a' _ => a' = { tmps := #[.slice ao n c, undef, .pointer (some ⟨w.heap.size, 0, none⟩), .bool false, .pointer (some ⟨w.heap.size + 1, 0, none⟩), .pointer (some ⟨w.heap.size + 2, 0, none⟩), v, undef, .slice ao n c, .func (.func 103) #[] #[.pointer (some ⟨w.heap.size + 3, 0, none⟩)], v, undef, undef, undef, undef, undef, undef, undef, undef, undef, undef, undef, undef, undef, undef, undef, undef, undef, undef, undef, undef, undef, undef, undef, undef], defers := [] })
    (fun _ _ _ _ h _ => h) ?assign ?body ?done
  case assign =>
    intro l k v W0 W K hk hj hbk hv hK
    gi_wp2
    exact hK _ _ (Below.refl _ _) rfl
  case body =>
    rintro l k v W0 W a' hk ⟨b, hbk, hmm, hbl, hsz⟩ hbook ⟨ao2, q, c2, rfl, hrow⟩ hf rfl
    have hql : q = wid n k := by have := hs_len hrow; rw [lev_len, HN.out] at this; exact this.symm
    have hM := hmm.book hbook (by rw [hS4]; simp)
    have hblW : Below w.heap.size w W := hbl.trans (hbook.below.mono (by omega))
    have hn0 : n ≠ 0 := by intro e; rw [e] at hk; simp [levN] at hk
    have hn1 : n ≤ 4096 := by
      rcases Nat.lt_or_ge 4096 n with h | h
      · rw [levN, if_pos (.inr h)] at hk; omega
      · exact h
    have hq1 : 1 ≤ q := by rw [hql]; exact wid_pos (by omega) k
    have hq2 : q ≤ 4096 := by rw [hql]; exact Nat.le_trans (wid_le n (by omega) k) hn1
    have hfar : ∀ ad, ao2 = some ad → hsL (lev L k) ≠ [] → ad.block ≠ w.heap.size + 1 ∧ ad.block ≠ w.heap.size + 2 := by
      intro ad ha hne
      rcases hf with ⟨rfl, e⟩ | ⟨ao3, n3, c3, e, h3⟩
      · simp only [Value.slice.injEq] at e
        have := HLt.out ad (by rw [← e.1]; exact ha) hne
        omega
      · simp only [Value.slice.injEq] at e
        have := h3 ad (by rw [← e.1]; exact ha)
        omega
    have hlk : (lev L k).length = q := hs_len hrow
    obtain ⟨bb, off, rfl⟩ := row_addr hrow (by intro e; have := congrArg List.length e; rw [hsL_len, hlk] at this; simp at this; omega)
    have hfr := hfar _ rfl (by intro e; have := congrArg List.length e; rw [hsL_len, hlk] at this; simp at this; omega)
    have HF := Lib.hid hfr
    have HBk := Lib.hid hbk
    have HW := Lib.hid hblW
    have HSz := Lib.hid (show w.heap.size + 4 ≤ W.heap.size from by have := hbook.size; omega)
    have HMm := Lib.hid hM
    have HRw := Lib.hid hrow
    have HQ := Lib.hid hq2
    have HQ1 := Lib.hid hq1
    have HLk := Lib.hid hlk
    clear hk hmm hbl hsz hbook hrow hf hql hM hblW hn0 hn1 hfar hlk hfr hbk hS4 hM4 hB4 hC4 hq2
    gi_wp2
    gi_loopw [7] (fun i wr => RtRel w L k q (some ⟨bb, off, none⟩) c2 W i wr) (fun i _ => q + 3 - (intOf i).toNat)
    case atStart => exact ⟨0, b, by omega, rfl, by rw [HBk.out]; simp, HMm.out, HRw.out, KeepsOthers.refl _, Below.refl _ _⟩
    case round =>
      obtain ⟨j, b2, hj, rfl, hb2, hmm2, hrow2, hko2, hbl2⟩ := hrel
      obtain ⟨i, hi⟩ : ∃ i, 2 * j + 1 = i := ⟨_, rfl⟩
      obtain ⟨p, hp⟩ : ∃ p, 2 * j = p := ⟨_, rfl⟩
      rw [hi]
      have HMs := Lib.hid hmm2
      have HRs := Lib.hid hrow2
      have HKo := Lib.hid hko2
      have HBl := Lib.hid hbl2
      have HB2 := Lib.hid hb2
      have HI := Lib.hid hi
      have HP := Lib.hid hp
      clear hmm2 hrow2 hko2 hbl2 hb2 hi hp
      by_cases hlt : i < q
      · have hlti : (i : Int) < (q : Int) := by omega
        have hltp : (p : Int) < (q : Int) := by have := HI.out; have := HP.out; omega
        have hp0 : 0 ≤ (p : Int) := by omega
        have hi0 : 0 ≤ (i : Int) := by omega
        have hpw : IntKind.i64.wrap ((i : Int) - 1) = (p : Int) := by rw [IntKind.wrap_i64]; have := HI.out; have := HP.out; have := HQ.out; omega
        have k3 : IntKind.i64.wrap ((i : Int) + 2) = ((i + 2 : Nat) : Int) := by rw [IntKind.wrap_i64]; have := HQ.out; omega
        obtain ⟨f1, hf1⟩ : ∃ f, (lev L k)[p]? = some f := ⟨_, List.getElem?_eq_getElem (by have := HLk.out; have := HI.out; have := HP.out; omega)⟩
        obtain ⟨f2, hf2⟩ : ∃ f, (lev L k)[i]? = some f := ⟨_, List.getElem?_eq_getElem (by have := HLk.out; omega)⟩
        have HL1 := Lib.hid hf1
        have HL2 := Lib.hid hf2
        have hlike : likeAt (lev L k) j ↔ hl f1 = hl f2 := by
          unfold likeAt
          rw [HLk.out, HI.out, HP.out, List.getD_eq_getElem?_getD, List.getD_eq_getElem?_getD, hf1, hf2]
          simp [hlt]
        have HLi := Lib.hid hlike
        obtain ⟨t, ht⟩ : ∃ t, (hl f1 == hl f2) = t := ⟨_, rfl⟩
        have heq := eq_h f1 f2 t ht
        have HTt := Lib.hid ht
        clear hf1 hf2 hlike ht
        have hcell := HMs.out.1.2.2.1
        have hfz := HMs.out.1.2.1 0
        have HS0 := Lib.hid (show Row wr.drew (some ⟨bb, off, none⟩) q c2 32 (hsL (lev L k)) from HRs.out.drew)
        have HS2 := Lib.hid (fun (v : Value) => HS0.out.setFar ⟨w.heap.size + 2, 0, none⟩ v (by intro ad h _; cases h; exact HF.out.2))
        have HK2 := Lib.hid (fun (v : Value) => (HKo.out.trans (ko_drew wr)).trans (KeepsOthers.setCell wr.drew ⟨w.heap.size + 2, 0, none⟩ v))
        have HB3 := Lib.hid (fun (v : Value) => (HBl.out.drew).setCell (p := ⟨w.heap.size + 2, 0, none⟩) (Nat.le_add_right _ _) v)
        have HMt := Lib.hid (fun (v : Value) => Mem.set (v := v) (k := 0) (by simp) (Mem.drew HMs.out))
        cases b2
        · gi_wp2
          refine plan_round (fun x => Row x (some ⟨bb, off, none⟩) q c2 32 (hsL (lev L k))) [0, 13] [0, 1, 2, 3, 4, 5, 6, 7, 8, 9, 10, 11, 12, 13] (by kernel_rfl) (by kernel_rfl) HS0.out (fun hHeld => ?_)
          (refine wpT_step rfl (by rfl) (fun K hK => ?_); go_simp)
          (refine hK.out _ _ _ (fun _ h => h) (HS0.out) (fun hHeld => ?_); clear hK; clear K; (try simp only [Act.put, List.setIfInBounds_toArray, List.set_cons_zero, List.set_cons_succ]))
          iterate 5 (refine wpT_take rfl (by rfl) (by rfl) (by intro w' hSw; (try dsimp only [Mem, cellsAt] at hSw); go_simp; (try with_reducible rfl)) (by assumption) ?_; (try simp only [Act.put, List.setIfInBounds_toArray, List.set_cons_zero, List.set_cons_succ]))
          (refine wpT_yield rfl (by rfl) (Go.yieldsIf_load_mid (by rfl) 23 (.tmp 22) rfl bb ((off + p * 32)) rfl (b8l f1 32) _ (fun w' h' => hs_range h' HL1.out) Tryd.underlying23 rfl (by rw [b8l_len]; kernel_rfl)) (by assumption) ?_; (try simp only [Act.put, List.setIfInBounds_toArray, List.set_cons_zero, List.set_cons_succ]))
          iterate 3 (refine wpT_take rfl (by rfl) (by rfl) (by intro w' hSw; (try dsimp only [Mem, cellsAt] at hSw); go_simp; (try with_reducible rfl)) (by assumption) ?_; (try simp only [Act.put, List.setIfInBounds_toArray, List.set_cons_zero, List.set_cons_succ]))
          (refine wpT_yield rfl (by rfl) (Go.yieldsIf_load_mid (by rfl) 23 (.tmp 26) rfl bb ((off + i * 32)) rfl (b8l f2 32) _ (fun w' h' => hs_range h' HL2.out) Tryd.underlying23 rfl (by rw [b8l_len]; kernel_rfl)) (by assumption) ?_; (try simp only [Act.put, List.setIfInBounds_toArray, List.set_cons_zero, List.set_cons_succ]))
          iterate 2 (refine wpT_take rfl (by rfl) (by rfl) (by intro w' hSw; (try dsimp only [Mem, cellsAt] at hSw); go_simp; (try with_reducible rfl)) (by assumption) ?_; (try simp only [Act.put, List.setIfInBounds_toArray, List.set_cons_zero, List.set_cons_succ]))
          (refine wpT_step rfl (by rfl) (fun K hK => ?_); go_simp)
          (refine hK.out _ _ _ (fun _ h => h) (HS2.out _) (fun hHeld => ?_); clear hK; clear K; (try simp only [Act.put, List.setIfInBounds_toArray, List.set_cons_zero, List.set_cons_succ]))
          (refine wpT_nilR ?_)
          gi_wp2
          go_roundw
          case rel =>
            refine ⟨j + 1, t, by have := HI.out; omega, by have := HI.out; subst this; first | rfl | go_num | (congr 1), ?_, HMt.out _, HS2.out _, HK2.out _, HB3.out _⟩
            have h1 := HB2.out
            have h2 := HLi.out
            have h3 := HTt.out
            have h4 : t = true ↔ likeAt (lev L k) j := by rw [h2, ← h3]; simp
            rw [h4]
            constructor
            · intro h; exact .inr ⟨j, by omega, h⟩
            · rintro (h | ⟨j', hj', h⟩)
              · exact absurd (h1.2 (.inl h)) (by simp)
              · rcases Nat.lt_or_ge j' j with h5 | h5
                · exact absurd (h1.2 (.inr ⟨j', h5, h⟩)) (by simp)
                · rw [show j = j' by omega]; exact h
          case measure => simp only [intOf]; omega
        · gi_wp2
          refine plan_round (fun x => Row x (some ⟨bb, off, none⟩) q c2 32 (hsL (lev L k))) [0, 13] [0, 1, 2, 3, 4, 5, 6, 7, 8, 9, 10, 11, 12, 13] (by kernel_rfl) (by kernel_rfl) HS0.out (fun hHeld => ?_)
          (refine wpT_step rfl (by rfl) (fun K hK => ?_); go_simp)
          (refine hK.out _ _ _ (fun _ h => h) (HS0.out) (fun hHeld => ?_); clear hK; clear K; (try simp only [Act.put, List.setIfInBounds_toArray, List.set_cons_zero, List.set_cons_succ]))
          iterate 1 (refine wpT_take rfl (by rfl) (by rfl) (by intro w' hSw; (try dsimp only [Mem, cellsAt] at hSw); go_simp; (try with_reducible rfl)) (by assumption) ?_; (try simp only [Act.put, List.setIfInBounds_toArray, List.set_cons_zero, List.set_cons_succ]))
          iterate 10 (refine wpT_pass rfl (by rfl) (by rfl) (by assumption) ?_; (try simp only [Act.put, List.setIfInBounds_toArray, List.set_cons_zero, List.set_cons_succ]))
          iterate 1 (refine wpT_take rfl (by rfl) (by rfl) (by intro w' hSw; (try dsimp only [Mem, cellsAt] at hSw); go_simp; (try with_reducible rfl)) (by assumption) ?_; (try simp only [Act.put, List.setIfInBounds_toArray, List.set_cons_zero, List.set_cons_succ]))
          (refine wpT_step rfl (by rfl) (fun K hK => ?_); go_simp)
          (refine hK.out _ _ _ (fun _ h => h) (HS2.out _) (fun hHeld => ?_); clear hK; clear K; (try simp only [Act.put, List.setIfInBounds_toArray, List.set_cons_zero, List.set_cons_succ]))
          (refine wpT_nilR ?_)
          gi_wp2
          go_roundw
          case rel =>
            refine ⟨j + 1, true, by have := HI.out; omega, by have := HI.out; subst this; first | rfl | go_num | (congr 1), ?_, HMt.out _, HS2.out _, HK2.out _, HB3.out _⟩
            have h1 := HB2.out.1 (by simp)
            refine ⟨fun _ => ?_, fun _ => rfl⟩
            rcases h1 with h | ⟨j', hj', h⟩
            · exact .inl h
            · exact .inr ⟨j', by omega, h⟩
          case measure => simp only [intOf]; omega
      · have hlti : ¬ (i : Int) < (q : Int) := by omega
        have h0q : (0 : Int) < (q : Int) := by have := HQ1.out; omega
        obtain ⟨f0, hf0⟩ : ∃ f, (lev L k)[0]? = some f := ⟨_, List.getElem?_eq_getElem (by have := HLk.out; have := HQ1.out; omega)⟩
        have HRg := Lib.hid (hs_range HRs.out hf0)
        have hfin : RtJ w L (k + 1) (wr.setCells (w.heap.size + 1) 0 (b8l f0 32)) := by
          have e : rtF L (k + 1) = f0 := by show (lev L k).getD 0 zH = f0; rw [List.getD_eq_getElem?_getD, hf0]; rfl
          refine ⟨b2, ?_, ?_, ?_, ?_⟩
          · rw [HB2.out, likeT_step]
            constructor
            · rintro (h | ⟨j', _, h⟩)
              · exact .inl h
              · exact .inr ⟨j', h⟩
            · rintro (h | ⟨j', h⟩)
              · exact .inl h
              · refine .inr ⟨j', ?_, h⟩
                have := h.1
                rw [HLk.out] at this
                have := HI.out
                omega
          · rw [e]
            have h1 : Mem wr ((w.heap.size + 1, b8l (rtF L k) 32) :: [(w.heap.size + 2, [.bool b2]), (w.heap.size, b8l zH 32)]) := ⟨HMs.out.2.1, HMs.out.1, HMs.out.2.2⟩
            have h2 := Mem.over (us := b8l f0 32) (by simp) h1 (by rw [b8l_len, b8l_len])
            exact ⟨h2.2.1, h2.1, h2.2.2⟩
          · exact bl_setCellsW (Nat.le_succ _) _ _ _ (HW.out.trans HBl.out)
          · have := HMs.out.1.1; rw [size_setCellsW]; have := HBl.out.size; have := HSz.out; omega
        have HFin := Lib.hid hfin
        have HVf := Lib.hid (show VL L k (.slice (some ⟨bb, off, none⟩) q c2) (wr.setCells (w.heap.size + 1) 0 (b8l f0 32)) from ⟨_, _, _, rfl, Row.setFars (by intro ad h _; cases h; exact HF.out.1) _ _ _ HRs.out⟩)
        have HKf := Lib.hid (HKo.out.trans (ko_setCells (w.heap.size + 1) (b8l f0 32) 0 wr))
        have HBf := Lib.hid (show Below w.heap.size W (wr.setCells (w.heap.size + 1) 0 (b8l f0 32)) from by
          have := bl_setCellsW (a := w) (b := w.heap.size + 1) (Nat.le_succ _) (b8l f0 32) 0 wr (HW.out.trans HBl.out)
          exact ⟨this.os.trans HW.out.os.symm, this.tape.trans HW.out.tape.symm, this.output.trans HW.out.output.symm, by rw [size_setCellsW]; exact HBl.out.size, fun i hi => (this.block i hi).trans (HW.out.block i hi).symm⟩)
        have HTh := Lib.hid (thereW (n := 32) HMs.out.2.1 (Nat.le_refl _))
        clear hf0 hfin
        gi_wp2_with (first |
          (refine wpListR_load rfl 23 (.tmp 31) rfl bb off (by go_simp) (b8l f0 32) _ (by have := HRg.out; simpa using this) Tryd.underlying23 rfl (by rw [b8l_len]; kernel_rfl) ?_) |
          (refine wpListR_store rfl 23 (.tmp 4) (.tmp 32) rfl (w.heap.size + 1) 0 (b8l f0 32).toArray rfl rfl (by rw [hA_sizeM]; exact HTh.out) (by rw [hA_sizeM]; kernel_rfl) (Go.all_oneCell_toArray (b8l_one _ 32)) ?_))
        exact ⟨HKf.out, HFin.out, HVf.out, HBf.out⟩
  case done =>
    rintro W0 W2 W ⟨b, hbk, hmm, hbl, hsz⟩ hE hbook hD
    have hm2 := (hmm.later hE).book hbook (by rw [hS4]; simp)
    have hbW : Below w.heap.size w W := (hbl.trans (hE.mono (by omega))).trans (hbook.below.mono (by omega))
    rw [hS4] at hD
    have HBk := Lib.hid hbk
    have HM := Lib.hid hm2
    have HBW := Lib.hid hbW
    have HDf := Lib.hid hD
    clear hbk hmm hbl hsz hE hbook hD hm2 hbW
    have HD0 := Lib.hid (show Mem W.drew [(w.heap.size + 2, [.bool b]), (w.heap.size + 1, b8l (rtF L (levN n)) 32)] from ⟨(Mem.drew HM.out).1, (Mem.drew HM.out).2.1, trivial⟩)
    have hov : Mem (W.drew.setCells w.heap.size 0 (b8l (rtF L (levN n)) 32)) ((w.heap.size, b8l (rtF L (levN n)) 32) :: [(w.heap.size + 2, [.bool b]), (w.heap.size + 1, b8l (rtF L (levN n)) 32)]) :=
      Mem.over (by simp) ⟨(Mem.drew HM.out).2.2.1, HD0.out⟩ (by rw [b8l_len, b8l_len])
    have HD1 := Lib.hid hov.2
    have HD3 := Lib.hid hov.1
    have HD2 := Lib.hid (thereW (n := 32) (Mem.drew HM.out).2.2.1 (Nat.le_refl _))
    clear hov
    gi_wp2
    refine wpIn_wide.2 ?_
    refine wp_plan (fun x => Mem x [(w.heap.size + 2, [.bool b]), (w.heap.size + 1, b8l (rtF L (levN n)) 32)]) [2] [0, 1, 2, 3] (by kernel_rfl) (by kernel_rfl) HD0.out (fun hHeld => ?_)
    (refine wpT_yield rfl (by rfl) (Go.yieldsIf_load_mid (by rfl) 23 (.tmp 4) rfl (w.heap.size + 1) (0) rfl (b8l (rtF L (levN n)) 32) _ (fun w' h' => rangeAt_of h'.2.1.2.2) Tryd.underlying23 rfl (by rw [b8l_len]; kernel_rfl)) (by assumption) ?_; (try simp only [Act.put, List.setIfInBounds_toArray, List.set_cons_zero, List.set_cons_succ]))
    iterate 1 (refine wpT_take rfl (by rfl) (by rfl) (by intro w' hSw; (try dsimp only [Mem, cellsAt] at hSw); go_simp; (try with_reducible rfl)) (by assumption) ?_; (try simp only [Act.put, List.setIfInBounds_toArray, List.set_cons_zero, List.set_cons_succ]))
    (refine wpT_step rfl (by rfl) (fun K hK => ?_))
    (refine step_storeW rfl 23 (.tmp 2) (.tmp 33) rfl w.heap.size 0 (b8l (rtF L (levN n)) 32).toArray rfl rfl (by rw [hA_sizeM]; exact HD2.out) (by rw [hA_sizeM]; kernel_rfl) (Go.all_oneCell_toArray (b8l_one _ 32)) ?_; (refine hK.out _ _ _ (fun _ h => h) (HD1.out) (fun hHeld => ?_); clear hK; clear K; (try simp only [Act.put, List.setIfInBounds_toArray, List.set_cons_zero, List.set_cons_succ])))
    iterate 1 (refine wpT_take rfl (by rfl) (by rfl) (by intro w' hSw; (try dsimp only [Mem, cellsAt] at hSw); go_simp; (try with_reducible rfl)) (by assumption) ?_; (try simp only [Act.put, List.setIfInBounds_toArray, List.set_cons_zero, List.set_cons_succ]))
    (refine wpT_nil ?_)
    gi_wp2
    have hdf : (W.drew.setCells w.heap.size 0 (b8l (rtF L (levN n)) 32)).heap[w.heap.size + 4]? = some (.deferred (some [])) := (ko_setCells w.heap.size (b8l (rtF L (levN n)) 32) 0 W.drew).same _ _ HDf.out rfl
    have hrg : (W.drew.setCells w.heap.size 0 (b8l (rtF L (levN n)) 32)).rangeAt w.heap.size 0 (b8l (rtF L (levN n)) 32) := rangeAt_of HD3.out.2.2
    have hl := Go.run_loadVar_mid (P := Tryd.prog) _ w.heap.size 0 23 (b8l (rtF L (levN n)) 32) _ (rangeAt_putObj (ob := .deferred none) hrg (show w.heap.size ≠ w.heap.size + 4 by omega)) Tryd.underlying23 rfl (by rw [b8l_len]; kernel_rfl)
    refine leaves_mark (v := .tuple #[arr32 (rtF L (levN n)), .bool b]) hdf (by simp [results, Tryd.results44, asAddr, hl, Result.andThen]) ⟨b, ?_, HBk.out, bl_putObj (bl_setCellsW (Nat.le_refl _) _ _ _ HBW.out.drew) (by omega) _⟩
    have e := rt_root L
    rw [HN.out] at e
    rw [e]
end Go.Proofs.YtddcceifblpmbaaDoor
