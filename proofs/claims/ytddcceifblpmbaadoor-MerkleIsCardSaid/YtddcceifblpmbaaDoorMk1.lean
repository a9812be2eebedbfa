/- Package merkle: rows of hashes; sibling, above (made by gen_mk1.py). (hM) -/
import Derived.Test.YtddcceifblpmbaaDoorHp1
import Derived.Test.YtddcceifblpmbaaDoorApp2
import Derived.Test.YtddcceifblpmbaaDoorAppG
import Derived.Test.YtddcceifblpmbaaDoorSh8
import Derived.Laws.BitsAllLaws
namespace Go.Proofs.YtddcceifblpmbaaDoor
set_option linter.unusedVariables false
set_option linter.unusedSimpArgs false
open Go.RowKit

abbrev HF := Nat → Int
def HB (f : HF) : Prop := ∀ i, 0 ≤ f i ∧ f i < 256
def zH : HF := fun _ => 0
def pairF (f g : HF) : HF := shaF (shaF (catF f 32 g) 64) 32
theorem pairF_b (f g : HF) : HB (pairF f g) := fun i => shaF_b _ _ i
/-- hashes' cells, one behind the other -/
def hsL (L : List HF) : List Value := L.flatMap fun f => b8l f 32
theorem hsL_len (L : List HF) : (hsL L).length = L.length * 32 := by
  induction L with
  | nil => rfl
  | cons s L ih => simp only [hsL, List.flatMap_cons, List.length_append, List.length_cons, b8l_len] at *; rw [ih]; omega
theorem hsL_one (L : List HF) : ∀ u ∈ hsL L, u.oneCell' = true := by
  intro u hu
  simp only [hsL, List.mem_flatMap] at hu
  obtain ⟨s, _, hs⟩ := hu
  exact b8l_one s 32 u hs
theorem hsL_app (A B : List HF) : hsL (A ++ B) = hsL A ++ hsL B := by simp [hsL]
theorem hsL_get {L : List HF} {f : HF} {i : Nat} (j : Nat) (h : L[i]? = some f) (hj : j < 32) : (hsL L)[i * 32 + j]? = some (.int .u8 (f j)) := by
  induction L generalizing i with
  | nil => simp at h
  | cons a L ih =>
    rw [show hsL (a :: L) = b8l a 32 ++ hsL L from rfl]
    cases i with
    | zero =>
      simp at h; subst h
      rw [Nat.zero_mul, Nat.zero_add, List.getElem?_append_left (by rw [b8l_len]; exact hj)]
      exact b8l_get _ _ _ hj
    | succ i =>
      rw [List.getElem?_append_right (by rw [b8l_len]; omega), b8l_len, show (i + 1) * 32 + j - 32 = i * 32 + j by omega]
      exact ih (by simpa using h)
theorem hs_range {w : World} {b off n c : Nat} {L : List HF} (h : Row w (some ⟨b, off, none⟩) n c 32 (hsL L)) {i : Nat} {f : HF} (hi : L[i]? = some f) : w.rangeAt b (off + i * 32) (b8l f 32) := by
  intro j v hv
  have hj : j < 32 := by have := (List.getElem?_eq_some_iff.1 hv).1; rwa [b8l_len] at this
  rw [b8l_get _ _ _ hj] at hv
  cases hv
  have := (h.cells _ rfl (i * 32 + j) _ (hsL_get j hi hj)).2
  rwa [show off + i * 32 + j = off + (i * 32 + j) by omega]
theorem hs_len {w : World} {ao : Option Addr} {n c : Nat} {L : List HF} (h : Row w ao n c 32 (hsL L)) : L.length = n := by
  have := h.len
  rw [hsL_len] at this
  omega
theorem eltHash : Elt Tryd.prog 60 23 (arr32 zH) 32 32 := ⟨Tryd.underlying60, by kernel_rfl, rfl, by decide, by decide⟩
set_option maxRecDepth 100000 in
theorem bslice_hash (f : HF) (x : World) : (Instr.buildSlice 60 1 #[(0, arr32 f)]).run Tryd.prog x = .ok (.slice (some ⟨x.heap.size, 0, none⟩) 1 1) (x.alloc (.cells (b8l f 32).toArray 23)) := by kernel_rfl
theorem step_bsH {w : World} {ops : Array Oper} {o : Oper} {a : Act} {K : Act → World → Prop} {Q : Exit → Act → World → Prop} {E' : Prop} (hgd : o.guard = none) (x : Operand) (f : HF)
    (ho : o.op = .buildSlice 60 1 #[(0, x)]) (hx : a.eval x = arr32 f)
    (h : K (a.put o.dst (.slice (some ⟨w.heap.size, 0, none⟩) 1 1)) (w.alloc (.cells (b8l f 32).toArray 23))) :
    if Region.wanted o (yielded ops a.tmps) = true then Oper.wp Tryd.prog o a w K Q else E' := by
  have hw : Region.wanted o (yielded ops a.tmps) = true := by simp [Region.wanted, hgd]
  rw [if_pos hw]
  have hb := bslice_hash f w
  unfold Oper.wp execOp
  rw [ho]
  simp only [List.map_toArray, List.map_cons, List.map_nil, hx]
  rw [Sem.run_bind]
  simp only [hb, Result.andThen_ok]
  exact h
theorem row_hash (W : World) (f : HF) : Row (W.alloc (.cells (b8l f 32).toArray 23)) (some ⟨W.heap.size, 0, none⟩) 1 1 32 (b8l f 32) := by
  have := row_new W (b8l f 32).toArray 23 1 1 32 (by simp [b8l_len]) (Nat.le_refl _) (by simpa using b8l_one f 32)
  simpa using this

theorem xor_one (i : Nat) : i ^^^ 1 = if i % 2 = 0 then i + 1 else i - 1 := by
  have h1 : (i ^^^ 1) / 2 = i / 2 := by rw [Nat.xor_div_two]; simp
  have h2 : (i ^^^ 1) % 2 = (i + 1) % 2 := by
    have h := @Nat.xor_mod_two_pow i 1 1
    rw [show 2 ^ 1 = 2 from rfl] at h
    rcases Nat.mod_two_eq_zero_or_one i with e | e <;> (rw [e] at h; rw [h]; simp; omega)
  split <;> omega
theorem i64_xor1 (i : Nat) (hi : i < 1073741824) : bits .xor .i64 (i : Int) 1 = ((if i % 2 = 0 then i + 1 else i - 1 : Nat) : Int) := by
  have hx := xor_one i
  show IntKind.i64.wrap ((BitVec.ofInt 64 (i : Int) ^^^ BitVec.ofInt 64 ((1 : Nat) : Int)).toNat : Int) = _
  have h1 : (BitVec.ofInt 64 (i : Int)).toNat = i := by rw [BitVec.ofInt_natCast, BitVec.toNat_ofNat]; exact Nat.mod_eq_of_lt (by omega)
  have h2 : (BitVec.ofInt 64 ((1 : Nat) : Int)).toNat = 1 := by rw [BitVec.ofInt_natCast, BitVec.toNat_ofNat]
  rw [BitVec.toNat_xor, h1, h2, hx, IntKind.wrap_i64]
  split <;> omega
/-- with which one that at i is paired -/
def sibN (n i : Nat) : Nat := if (if i % 2 = 0 then i + 1 else i - 1) < n then (if i % 2 = 0 then i + 1 else i - 1) else i
theorem sibling_any (ao : Option Addr) (n c i : Nat) (hi : i < 1073741824) (w : World) : Calls Tryd.prog 85 #[.slice ao n c, .int .i64 (i : Int)] w fun e w' => e = .returned (.int .i64 ((sibN n i : Nat) : Int)) ∧ w = w' := by
  have hx := i64_xor1 i hi
  obtain ⟨x, hx2⟩ : ∃ x, (if i % 2 = 0 then i + 1 else i - 1) = x := ⟨_, rfl⟩
  unfold sibN
  rw [hx2] at hx ⊢
  clear hx2 hi
  by_cases h : x < n
  · rw [if_pos h]
    have hxi : (x : Int) < (n : Int) := by omega
    clear h
    go_enter Tryd.func85, Tryd.ntmps85
    go_wp2
    go_ret
    exact ⟨rfl, rfl⟩
  · rw [if_neg h]
    have hxi : ¬ (x : Int) < (n : Int) := by omega
    clear h
    go_enter Tryd.func85, Tryd.ntmps85
    go_wp2
    go_ret
    exact ⟨rfl, rfl⟩

/-- the level above one -/
def upE (L : List HF) (j : Nat) : HF := pairF (L.getD (2 * j) zH) (L.getD (sibN L.length (2 * j)) zH)
def upL (L : List HF) : List HF := (List.range ((L.length + 1) / 2)).map (upE L)
theorem upL_len (L : List HF) : (upL L).length = (L.length + 1) / 2 := by simp [upL]
theorem upL_get (L : List HF) (j : Nat) (h : j < (L.length + 1) / 2) : (upL L)[j]? = some (upE L j) := by simp [upL, h]
theorem upL_b (L : List HF) : ∀ f ∈ upL L, HB f := by
  intro f hf
  obtain ⟨j, _, rfl⟩ := List.mem_map.1 hf
  exact pairF_b _ _
theorem sib_lt {n i : Nat} (h : i < n) : sibN n i < n := by
  unfold sibN
  generalize (if i % 2 = 0 then i + 1 else i - 1) = x
  split <;> assumption
def AbRel (w : World) (n : Nat) (L : List HF) (l i : Value) (wr : World) : Prop :=
  ∃ (j : Nat) (lo : Option Addr) (cap : Nat), j ≤ (n + 1) / 2 ∧ i = .int .i64 ((2 * j : Nat) : Int) ∧ l = .slice lo j cap ∧ OwnN w.heap.size 23 32 wr lo j cap (hsL ((upL L).take j)) ∧ Below w.heap.size w wr

set_option maxRecDepth 100000 in
set_option maxHeartbeats 4000000 in
theorem above_any (ao : Option Addr) (n c : Nat) (L : List HF) (w : World) (hT : Tab w) (h : Row w ao n c 32 (hsL L)) (hL : ∀ f ∈ L, HB f) (hn : n ≤ 100000) :
    Calls Tryd.prog 104 #[.slice ao n c] w fun e w' => ∃ (lo : Option Addr) (m cap : Nat), e = .returned (.slice lo m cap) ∧ m = (n + 1) / 2 ∧ OwnN w.heap.size 23 32 w' lo m cap (hsL (upL L)) ∧ Below w.heap.size w w' := by
  have hl := hs_len h
  have HR := Lib.hid h
  have HLb := Lib.hid hL
  have HN := Lib.hid hn
  have HLn := Lib.hid hl
  have HT := Lib.hid hT
  have hB0 := Below.refl w.heap.size w
  clear h hL hn hl hT
  go_enter Tryd.func104, Tryd.ntmps104
  go_wp2
  go_loopw [3, 4] (fun l i wr => AbRel w n L l i wr) (fun _ i _ => n + 2 - (intOf i).toNat)
  case atStart => exact ⟨0, none, 0, Nat.zero_le _, rfl, rfl, by simpa [hsL] using ownN_nil _ _ _ _, hB0⟩
  case round =>
    obtain ⟨j, lo, cap, hj, rfl, rfl, hown, hbr⟩ := hrel
    have HO := Lib.hid hown
    clear hown
    obtain ⟨i, hi⟩ : ∃ i, 2 * j = i := ⟨_, rfl⟩
    rw [hi]
    by_cases hlt : i < n
    · obtain ⟨f1, hf1⟩ : ∃ f, L[i]? = some f := ⟨_, List.getElem?_eq_getElem (by have := HLn.out; omega)⟩
      obtain ⟨q, hq⟩ : ∃ q, sibN n i = q := ⟨_, rfl⟩
      have hqn : q < n := by rw [← hq]; exact sib_lt hlt
      obtain ⟨f2, hf2⟩ : ∃ f, L[q]? = some f := ⟨_, List.getElem?_eq_getElem (by have := HLn.out; omega)⟩
      obtain ⟨b, off, rfl⟩ := row_addr HR.out (by intro e; have := congrArg List.length e; rw [hsL_len, HLn.out] at this; simp at this; omega)
      have hlti : (i : Int) < (n : Int) := by omega
      have hqni : (q : Int) < (n : Int) := by omega
      have hi0 : 0 ≤ (i : Int) := by omega
      have hq0 : 0 ≤ (q : Int) := by omega
      have HSb := Lib.hid (fun (x : World) => (hq ▸ sibling_any (some ⟨b, off, none⟩) n c i (by have := HN.out; omega) x : Calls Tryd.prog 85 #[.slice (some ⟨b, off, none⟩) n c, .int .i64 (i : Int)] x fun e w' => e = .returned (.int .i64 (q : Int)) ∧ x = w'))
      have hpr := fun (x : World) (hb : Below w.heap.size w x) => pair_any f1 f2 (HLb.out f1 (List.mem_of_getElem? hf1)) (HLb.out f2 (List.mem_of_getElem? hf2)) x (HT.out.later hb)
      obtain ⟨F, hF0⟩ : ∃ F, shaF (shaF (catF f1 32 f2) 64) 32 = F := ⟨_, rfl⟩
      simp only [hF0] at hpr
      have HPr := Lib.hid hpr
      have hup : upE L j = F := by
        unfold upE pairF
        rw [hi, HLn.out, hq, List.getD_eq_getElem?_getD, List.getD_eq_getElem?_getD, hf1, hf2]
        exact hF0
      have HU := Lib.hid hup
      have HRw := Lib.hid (fun (x : World) (hb : Below wr.heap.size wr x) => HR.out.later (bl_then hbr hb))
      have HL1 := Lib.hid hf1
      have HL2 := Lib.hid hf2
      have HI := Lib.hid hi
      have k3 : IntKind.i64.wrap ((i : Int) + 2) = ((i + 2 : Nat) : Int) := by rw [IntKind.wrap_i64]; have := HN.out; omega
      have hBq : Below w.heap.size w wr.drew := hbr.drew
      clear hf1 hf2 hq hpr hF0 hup hi
      go_wp2
      refine wp_plan (fun x => Row x (some ⟨b, off, none⟩) n c 32 (hsL L)) [8, 11, 12, 13] [0, 1, 2, 3, 4, 5, 6, 7, 8, 9, 10, 11, 12, 13, 14] (by kernel_rfl) (by kernel_rfl) (HRw.out _ (Below.refl _ _).drew) (fun hHeld => ?_)
      iterate 4 (refine wpT_take rfl (by rfl) (by rfl) (by intro w' hSw; (try dsimp only [Mem, cellsAt] at hSw); go_simp; (try with_reducible rfl)) (by assumption) ?_; (try simp only [Act.put, List.setIfInBounds_toArray, List.set_cons_zero, List.set_cons_succ]))
      (refine wpT_yield rfl (by rfl) (Go.yieldsIf_load_mid (by rfl) 23 (.tmp 14) rfl b ((off + i * 32)) rfl (b8l f1 32) _ (fun w' h' => hs_range h' HL1.out) Tryd.underlying23 rfl (by rw [b8l_len]; kernel_rfl)) (by assumption) ?_; (try simp only [Act.put, List.setIfInBounds_toArray, List.set_cons_zero, List.set_cons_succ]))
      iterate 3 (refine wpT_take rfl (by rfl) (by rfl) (by intro w' hSw; (try dsimp only [Mem, cellsAt] at hSw); go_simp; (try with_reducible rfl)) (by assumption) ?_; (try simp only [Act.put, List.setIfInBounds_toArray, List.set_cons_zero, List.set_cons_succ]))
      (refine wpT_step rfl (by rfl) (fun K hK => ?_); go_simp)
      ((with_reducible refine (HSb.out _).mono ?_); rintro e v1 ⟨rfl, rfl⟩; (refine hK.out _ _ _ (fun _ h => h) (hHeld) (fun hHeld => ?_); clear hK; clear K; (try simp only [Act.put, List.setIfInBounds_toArray, List.set_cons_zero, List.set_cons_succ])))
      iterate 1 (refine wpT_take rfl (by rfl) (by rfl) (by intro w' hSw; (try dsimp only [Mem, cellsAt] at hSw); go_simp; (try with_reducible rfl)) (by assumption) ?_; (try simp only [Act.put, List.setIfInBounds_toArray, List.set_cons_zero, List.set_cons_succ]))
      (refine wpT_yield rfl (by rfl) (Go.yieldsIf_load_mid (by rfl) 23 (.tmp 20) rfl b ((off + q * 32)) rfl (b8l f2 32) _ (fun w' h' => hs_range h' HL2.out) Tryd.underlying23 rfl (by rw [b8l_len]; kernel_rfl)) (by assumption) ?_; (try simp only [Act.put, List.setIfInBounds_toArray, List.set_cons_zero, List.set_cons_succ]))
      (refine wpT_step rfl (by rfl) (fun K hK => ?_); go_simp)
      ((with_reducible refine (HPr.out _ hBq).mono ?_); rintro e v2 ⟨rfl, hb⟩; have HBq2 := Lib.hid (bl_then hBq hb); have HB2 := Lib.hid (bl_then (Below.refl wr.heap.size wr).drew hb); clear hb; (refine hK.out _ _ _ (fun _ h => h) (HRw.out _ HB2.out) (fun hHeld => ?_); clear hK; clear K; (try simp only [Act.put, List.setIfInBounds_toArray, List.set_cons_zero, List.set_cons_succ])))
      (refine wpT_step rfl (by rfl) (fun K hK => ?_))
      (refine step_bsH rfl (.tmp 22) F rfl rfl ?_; (refine hK.out _ _ _ (fun _ h => h) (HRw.out _ (bl_al HB2.out _)) (fun hHeld => ?_); clear hK; clear K; (try simp only [Act.put, List.setIfInBounds_toArray, List.set_cons_zero, List.set_cons_succ])))
      (refine wpT_step rfl (by rfl) (fun K hK => ?_))
      (refine step_appN eltHash _ rfl (.tmp 11) (.tmp 23) rfl w.heap.size (bl_al HBq2.out _).size lo j cap (hsL ((upL L).take j)) rfl (HO.out.later (bl_al HB2.out _)) (some ⟨v2.heap.size, 0, none⟩) 1 1 (b8l F 32) rfl (row_hash v2 F) (fun _ => by decide) (by have := HN.out; omega) ?_; intro g2 cp2 w7 row hown7 hgrow7 hrow7; have hlt7 := own_row_lt HO.out hrow7; have hB7 := below_grown (bl_al HBq2.out _) hgrow7 (fun k hk => (hlt7 k hk).1); have HO7 := Lib.hid hown7; have HR7 := HR.out.later hB7; clear hown7 hgrow7 hrow7 hlt7; (refine hK.out _ _ _ (fun _ h => h) (HR7) (fun hHeld => ?_); clear hK; clear K; (try simp only [Act.put, List.setIfInBounds_toArray, List.set_cons_zero, List.set_cons_succ])))
      iterate 1 (refine wpT_take rfl (by rfl) (by rfl) (by intro w' hSw; (try dsimp only [Mem, cellsAt] at hSw); go_simp; (try with_reducible rfl)) (by assumption) ?_; (try simp only [Act.put, List.setIfInBounds_toArray, List.set_cons_zero, List.set_cons_succ]))
      (refine wpT_nil ?_)
      go_wp2
      refine ⟨⟨j + 1, some ⟨g2, 0, none⟩, cp2, by have := HI.out; omega, by (have := HI.out; subst this; first | rfl | go_num | (congr 1)), rfl, ?_, hB7⟩, by simp [intOf]; omega⟩
      have h7 := HO7.out
      have e : (upL L).take (j + 1) = (upL L).take j ++ [F] := by rw [List.take_add_one, upL_get L j (by have := HLn.out; have := HI.out; omega), HU.out]; rfl
      rw [e, hsL_app, show hsL [F] = b8l F 32 by simp [hsL]]
      exact .inr ⟨g2, rfl, h7⟩
    · have hj2 : j = (n + 1) / 2 := by omega
      have hlti : ¬ (i : Int) < (n : Int) := by omega
      have e : (upL L).take j = upL L := List.take_of_length_le (by rw [upL_len, HLn.out]; omega)
      rw [e] at HO
      have HJ := Lib.hid hj2
      clear e hj2 hi
      go_wp2
      go_ret
      exact ⟨lo, j, cap, rfl, HJ.out, HO.out, hbr⟩
end Go.Proofs.YtddcceifblpmbaaDoor
