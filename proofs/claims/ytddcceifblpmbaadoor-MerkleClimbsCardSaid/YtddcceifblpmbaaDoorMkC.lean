/- merkle.Climb (made by gen_mkc.py). (hM) -/
import Derived.Test.YtddcceifblpmbaaDoorMkO
namespace Go.Proofs.YtddcceifblpmbaaDoor
set_option linter.unusedVariables false
set_option linter.unusedSimpArgs false
open Go.RowKit

/-- a box of one's own written over whole: the walk goes on in an abstract world -/
theorem wpList_over {P : Program} {w : World} {ops : Array Oper} {rest : List Oper} {op : Oper} {a : Act} {Q : Exit → Act → World → Prop} (hgd : op.guard = none) (x y : Operand) (T : TypeId) (ho : op.op = .store T x y) (b : Nat)
    (us vs : List Value) (hx : a.eval x = .pointer (some ⟨b, 0, none⟩)) (hy : a.eval y = .agg us.toArray) (d : TypeDesc) (hu : P.underlying T = some d) (hd : d.isRow = true) (hi : (P.info? T).map (·.size) = some us.length)
    {L : List (Nat × List Value)} (hm : Mem w ((b, vs) :: L)) (hne : ∀ p ∈ L, p.1 ≠ b) (hl : us.length = vs.length) (h1 : ∀ u ∈ us, u.oneCell' = true) {w0 : World} (hB : Below w0.heap.size w0 w) (hb : w0.heap.size ≤ b)
    (h : ∀ W, Mem W ((b, us) :: L) → Below w0.heap.size w0 W → wpList P ops Q rest (a.put op.dst undef) W) : wpList P ops Q (op :: rest) a w := by
  refine Go.wpList_store_mid hgd T x y ho b 0 us.toArray hx hy ?_ (by rw [hi]; simp) (Go.all_oneCell_toArray h1) ?_
  · have := thereW (n := us.length) hm.1 (by omega)
    simpa using this
  · exact h _ (Mem.over hne hm hl) (bl_setCellsW hb _ _ _ hB)
theorem climb_b {x : HF} (hx : HB x) : ∀ (r : List HF) (i : Nat), (∀ f ∈ r, HB f) → HB (climbF x r i)
  | [], _, _ => hx
  | o :: r, i, h => by
    rw [climbF]
    refine climb_b ?_ r _ (fun f hf => h f (by simp [hf]))
    split <;> exact pairF_b _ _
def ClRel (w : World) (x : HF) (Br : List HF) (m i0 : Nat) (i kk : Value) (wr : World) : Prop :=
  ∃ k : Nat, k ≤ m ∧ kk = .int .i64 (k : Int) ∧ i = .int .i64 ((i0 / 2 ^ k : Nat) : Int) ∧ Mem wr [(w.heap.size + 1, b8l zH 32), (w.heap.size, b8l (climbF x (Br.take k) i0) 32)] ∧ Below w.heap.size w wr

set_option maxRecDepth 100000 in
set_option maxHeartbeats 8000000 in
theorem climb_any (x : HF) (hx : HB x) (ao : Option Addr) (m c : Nat) (Br : List HF) (i : Int) (hi : -9223372036854775808 ≤ i ∧ i ≤ 9223372036854775807) (w : World) (hT : Tab w) (h : Row w ao m c 32 (hsL Br)) (hL : ∀ f ∈ Br, HB f) (hm : m ≤ 100000) :
    Calls Tryd.prog 52 #[arr32 x, .slice ao m c, .int .i64 i] w fun e w' => e = .returned (arr32 (climbF x Br i.toNat)) ∧ Below w.heap.size w w' := by
  have hl := hs_len h
  obtain ⟨i0, hi0⟩ : ∃ n, i.toNat = n := ⟨_, rfl⟩
  have hmx : max i 0 = (i0 : Int) := by omega
  have hmx2 : (if i < 0 then 0 else i) = (i0 : Int) := by split <;> omega
  have hi63 : i0 ≤ 9223372036854775807 := by omega
  have HI := Lib.hid hi63
  have HR := Lib.hid h
  have HLb := Lib.hid hL
  have HN := Lib.hid hm
  have HLn := Lib.hid hl
  have HT := Lib.hid hT
  rw [hi0]
  have hM0 := Mem.al (Mem.al (mem_nil w) (b8l x 32) 23) (b8l zH 32) 23
  simp only [World.size_alloc] at hM0
  have HM0 := Lib.hid hM0
  have HB0 := Lib.hid (bl_al (bl_al (Below.refl w.heap.size w) (.cells (b8l x 32).toArray 23)) (.cells (b8l zH 32).toArray 23))
  clear h hL hm hl hT hM0 hi63
  go_enter Tryd.func52, Tryd.ntmps52
  go_wp2
  go_loopw [2, 13] (fun i k wr => ClRel w x Br m i0 i k wr) (fun _ k _ => m + 1 - (intOf k).toNat)
  case atStart => exact ⟨0, Nat.zero_le _, rfl, by simp [hmx], HM0.out, HB0.out⟩
  case round =>
    obtain ⟨k, hk, rfl, rfl, hmm, hB⟩ := hrel
    obtain ⟨j, hj⟩ : ∃ j, i0 / 2 ^ k = j := ⟨_, rfl⟩
    obtain ⟨y, hy⟩ : ∃ y, climbF x (Br.take k) i0 = y := ⟨_, rfl⟩
    rw [hj]
    rw [hy] at hmm
    have hM := Lib.hid hmm
    have hF : True := trivial
    by_cases hlt : k < m
    · obtain ⟨o, ho⟩ : ∃ f, Br[k]? = some f := ⟨_, List.getElem?_eq_getElem (by have := HLn.out; omega)⟩
      obtain ⟨bb, off, rfl⟩ := row_addr HR.out (by intro e; have := congrArg List.length e; rw [hsL_len, HLn.out] at this; simp at this; omega)
      have hob := HLb.out o (List.mem_of_getElem? ho)
      have hyb : HB y := by rw [← hy]; exact climb_b hx _ _ (fun f hf => HLb.out f (List.mem_of_mem_take hf))
      obtain ⟨j2, hj2⟩ : ∃ j2, j / 2 = j2 := ⟨_, rfl⟩
      have hjj : j ≤ 9223372036854775807 := by rw [← hj]; exact Nat.le_trans (Nat.div_le_self _ _) HI.out
      obtain ⟨z, hz⟩ : ∃ z, (if j % 2 = 1 then pairF o y else pairF y o) = z := ⟨_, rfl⟩
      have hst : climbF x (Br.take (k + 1)) i0 = z := by
        have e : Br.take (k + 1) = Br.take k ++ [o] := by rw [List.take_add_one, ho]; rfl
        rw [e, climb_snoc, hy, List.length_take, Nat.min_eq_left (by have := HLn.out; omega), hj, hz]
      have HSt := Lib.hid hst
      have HJ2 := Lib.hid (show i0 / 2 ^ (k + 1) = j2 by rw [Nat.pow_succ, ← Nat.div_div_eq_div_mul, hj, hj2])
      have HRw := Lib.hid (fun (q : World) (hb : Below w.heap.size w q) => HR.out.later hb)
      have HLo := Lib.hid ho
      obtain ⟨g8, hg8⟩ : ∃ b, wr.heap.size = b := ⟨_, rfl⟩
      have HG8 := Lib.hid hg8
      have HGs := Lib.hid (show w.heap.size + 1 < g8 from by have := hmm.1.1; omega)
      have HNe := Lib.hid (show ∀ p ∈ [(g8, b8l o 32), (w.heap.size + 1, b8l zH 32)], p.1 ≠ w.heap.size from by
        have h2 := HGs.out
        intro p hp
        simp only [List.mem_cons, List.not_mem_nil, or_false] at hp
        rcases hp with rfl | rfl
        · show g8 ≠ _; omega
        · show w.heap.size + 1 ≠ _; omega)
      clear hg8
      have hlti : (k : Int) < (m : Int) := by omega
      have hk0 : 0 ≤ (k : Int) := by omega
      have hd1 : (j : Int).tdiv 2 = (j2 : Int) := by rw [Int.tdiv_eq_ediv_of_nonneg (by omega)]; omega
      have hd2 : (j : Int) / 2 = (j2 : Int) := by omega
      have hd3 : IntKind.i64.wrap (j2 : Int) = (j2 : Int) := by rw [IntKind.wrap_i64]; omega
      have hw1 : IntKind.i64.wrap ((k : Int) + 1) = ((k + 1 : Nat) : Int) := by rw [IntKind.wrap_i64]; have := HN.out; omega
      by_cases ho1 : j % 2 = 1
      · rw [if_pos ho1] at hz
        have hr1 : (j : Int).tmod 2 = 1 := by rw [Int.tmod_eq_emod_of_nonneg (by omega)]; omega
        have HP1 := Lib.hid (fun (q : World) (hb : Below w.heap.size w q) => (hz ▸ pair_any o y hob hyb q (HT.out.later hb) : Calls Tryd.prog 22 #[arr32 o, arr32 y] q fun e w' => e = .returned (arr32 z) ∧ Below q.heap.size q w'))
        clear ho1 hz hst hj2 hjj hob hyb hj hy hmm ho
        go_wp2_with (first |
    ((with_reducible_and_instances refine at_load 15 ?_); refine Go.wpList_load_mid rfl 23 (.tmp 15) rfl bb (off + k * 32) rfl (b8l o 32) _ (hs_range (HRw.out _ hB) HLo.out) Tryd.underlying23 rfl (by rw [b8l_len]; kernel_rfl) ?_) |
    ((with_reducible_and_instances refine at_store 8 ?_); refine wpList_store_newV rfl (.tmp 8) (.tmp 16) 23 rfl _ (b8l o 32) _ Tryd.underlying23 rfl (by rw [b8l_len]; kernel_rfl) (by rw [b8l_len]; rfl) (b8l_one o 32) rfl (rfl) hM.out ?_; intro W1 hMW hbW; have hBW := bl_then hB hbW; rw [HG8.out] at hMW; simp only [HG8.out]; clear hM hF hB; have hM := Lib.hid hMW; have hB := hBW; have hF : True := trivial; clear hMW hbW hBW) |
    ((with_reducible_and_instances refine at_load 8 ?_); refine Go.wpList_load_mid rfl 23 (.tmp 8) rfl g8 0 rfl (b8l o 32) _ (rangeAt_of (Mem.get hM.out (by simp))) Tryd.underlying23 rfl (by rw [b8l_len]; kernel_rfl) ?_) |
    ((with_reducible_and_instances refine at_load 3 ?_); refine Go.wpList_load_mid rfl 23 (.tmp 3) rfl w.heap.size 0 rfl (b8l y 32) _ (rangeAt_of (Mem.get hM.out (by simp))) Tryd.underlying23 rfl (by rw [b8l_len]; kernel_rfl) ?_) |
    (go_at_call 22; (with_reducible refine (HP1.out _ hB).mono ?_); rintro e w2 ⟨rfl, hb⟩; have hB : Below w.heap.size w w2 := (by refine bl_then ?_ hb; (repeat (first | exact hB | refine bl_al ?_ _ | refine Below.setCell ?_ (by first | exact hgs | exact Nat.le_succ_of_le hgs | exact hgs2 | exact hgs3) _ | refine Below.drew ?_ | refine bl_drewN ?_ _))); (first | with_reducible have hM2 := Mem.later hb (hM.out) | with_reducible have hM2 := Mem.later hb (Mem.al (hM.out) _ _) | with_reducible have hM2 := Mem.later hb (Mem.al (Mem.al (hM.out) _ _) _ _) | with_reducible have hM2 := Mem.later hb (Mem.al (Mem.al (Mem.al (hM.out) _ _) _ _) _ _) | with_reducible have hM2 := Mem.later hb (Mem.al (Mem.al (Mem.al (Mem.al (hM.out) _ _) _ _) _ _) _ _) | with_reducible have hM2 := Mem.later hb (Mem.drew (hM.out)) | with_reducible have hM2 := Mem.later hb (Mem.drew (Mem.al (hM.out) _ _)) | with_reducible have hM2 := Mem.later hb (Mem.al (Mem.drew (hM.out)) _ _) | with_reducible have hM2 := Mem.later hb (Mem.al (Mem.drew (Mem.al (hM.out) _ _)) _ _) | with_reducible have hM2 := Mem.later hb (Mem.drew (Mem.al (Mem.al (hM.out) _ _) _ _)) | with_reducible have hM2 := Mem.later hb (Mem.al (Mem.al (Mem.drew (hM.out)) _ _) _ _) | with_reducible have hM2 := Mem.later hb (Mem.drew (Mem.drew (hM.out))) | with_reducible have hM2 := Mem.later hb (Mem.drew (Mem.al (Mem.drew (hM.out)) _ _)) | with_reducible have hM2 := Mem.later hb (Mem.drew (Mem.al (Mem.al (Mem.al (hM.out) _ _) _ _) _ _)) | with_reducible have hM2 := Mem.later hb (Mem.al (Mem.al (Mem.drew (Mem.al (hM.out) _ _)) _ _) _ _) | with_reducible have hM2 := Mem.later hb (Mem.drew (Mem.al (Mem.drew (Mem.al (hM.out) _ _)) _ _)) | with_reducible have hM2 := Mem.later hb (Mem.al (Mem.al (Mem.al (Mem.al (Mem.al (hM.out) _ _) _ _) _ _) _ _) _ _) | with_reducible have hM2 := Mem.later hb (Mem.al (Mem.al (Mem.al (Mem.al (Mem.al (Mem.al (hM.out) _ _) _ _) _ _) _ _) _ _) _ _) | with_reducible have hM2 := Mem.later hb (Mem.al (Mem.al (Mem.al (Mem.al (Mem.al (Mem.al (Mem.al (hM.out) _ _) _ _) _ _) _ _) _ _) _ _) _ _) | with_reducible have hM2 := Mem.later hb (Mem.al (Mem.al (Mem.al (Mem.al (Mem.al (Mem.al (Mem.al (Mem.al (hM.out) _ _) _ _) _ _) _ _) _ _) _ _) _ _) _ _)); (try simp only [World.size_alloc, size_drew] at hM2); clear hM; have hM := Lib.hid hM2; clear hF; have hF := hM2; (try simp only [Mem, cellsAt, World.size_alloc, Nat.zero_add, Nat.reduceAdd, and_true] at hF); clear hM2; clear hb) |
    ((with_reducible_and_instances refine at_store 3 ?_); refine wpList_over rfl (.tmp 3) (.tmp 22) 23 rfl w.heap.size (b8l z 32) _ rfl rfl _ Tryd.underlying23 rfl (by rw [b8l_len]; kernel_rfl) (L := [(g8, b8l o 32), (w.heap.size + 1, b8l zH 32)]) ⟨hM.out.2.2.1, hM.out.1, hM.out.2.1, trivial⟩ HNe.out (by rw [b8l_len, b8l_len]) (b8l_one z 32) hB (Nat.le_refl _) ?_; intro W3 hm3 hb3; clear hM hB hF; have hM := Lib.hid hm3; have hB := hb3; have hF : True := trivial; clear hm3 hb3))
        refine ⟨⟨k + 1, by omega, by first | rfl | go_num | (congr 1), by rw [HJ2.out], by rw [HSt.out]; exact ⟨hM.out.2.2.1, hM.out.1, trivial⟩, hB⟩, by simp [intOf]; omega⟩
      · rw [if_neg ho1] at hz
        have hr1 : (j : Int).tmod 2 = 0 := by rw [Int.tmod_eq_emod_of_nonneg (by omega)]; omega
        have HP2 := Lib.hid (fun (q : World) (hb : Below w.heap.size w q) => (hz ▸ pair_any y o hyb hob q (HT.out.later hb) : Calls Tryd.prog 22 #[arr32 y, arr32 o] q fun e w' => e = .returned (arr32 z) ∧ Below q.heap.size q w'))
        clear ho1 hz hst hj2 hjj hob hyb hj hy hmm ho
        go_wp2_with (first |
    ((with_reducible_and_instances refine at_load 15 ?_); refine Go.wpList_load_mid rfl 23 (.tmp 15) rfl bb (off + k * 32) rfl (b8l o 32) _ (hs_range (HRw.out _ hB) HLo.out) Tryd.underlying23 rfl (by rw [b8l_len]; kernel_rfl) ?_) |
    ((with_reducible_and_instances refine at_store 8 ?_); refine wpList_store_newV rfl (.tmp 8) (.tmp 16) 23 rfl _ (b8l o 32) _ Tryd.underlying23 rfl (by rw [b8l_len]; kernel_rfl) (by rw [b8l_len]; rfl) (b8l_one o 32) rfl (rfl) hM.out ?_; intro W1 hMW hbW; have hBW := bl_then hB hbW; rw [HG8.out] at hMW; simp only [HG8.out]; clear hM hF hB; have hM := Lib.hid hMW; have hB := hBW; have hF : True := trivial; clear hMW hbW hBW) |
    ((with_reducible_and_instances refine at_load 8 ?_); refine Go.wpList_load_mid rfl 23 (.tmp 8) rfl g8 0 rfl (b8l o 32) _ (rangeAt_of (Mem.get hM.out (by simp))) Tryd.underlying23 rfl (by rw [b8l_len]; kernel_rfl) ?_) |
    ((with_reducible_and_instances refine at_load 3 ?_); refine Go.wpList_load_mid rfl 23 (.tmp 3) rfl w.heap.size 0 rfl (b8l y 32) _ (rangeAt_of (Mem.get hM.out (by simp))) Tryd.underlying23 rfl (by rw [b8l_len]; kernel_rfl) ?_) |
    (go_at_call 22; (with_reducible refine (HP2.out _ hB).mono ?_); rintro e w2 ⟨rfl, hb⟩; have hB : Below w.heap.size w w2 := (by refine bl_then ?_ hb; (repeat (first | exact hB | refine bl_al ?_ _ | refine Below.setCell ?_ (by first | exact hgs | exact Nat.le_succ_of_le hgs | exact hgs2 | exact hgs3) _ | refine Below.drew ?_ | refine bl_drewN ?_ _))); (first | with_reducible have hM2 := Mem.later hb (hM.out) | with_reducible have hM2 := Mem.later hb (Mem.al (hM.out) _ _) | with_reducible have hM2 := Mem.later hb (Mem.al (Mem.al (hM.out) _ _) _ _) | with_reducible have hM2 := Mem.later hb (Mem.al (Mem.al (Mem.al (hM.out) _ _) _ _) _ _) | with_reducible have hM2 := Mem.later hb (Mem.al (Mem.al (Mem.al (Mem.al (hM.out) _ _) _ _) _ _) _ _) | with_reducible have hM2 := Mem.later hb (Mem.drew (hM.out)) | with_reducible have hM2 := Mem.later hb (Mem.drew (Mem.al (hM.out) _ _)) | with_reducible have hM2 := Mem.later hb (Mem.al (Mem.drew (hM.out)) _ _) | with_reducible have hM2 := Mem.later hb (Mem.al (Mem.drew (Mem.al (hM.out) _ _)) _ _) | with_reducible have hM2 := Mem.later hb (Mem.drew (Mem.al (Mem.al (hM.out) _ _) _ _)) | with_reducible have hM2 := Mem.later hb (Mem.al (Mem.al (Mem.drew (hM.out)) _ _) _ _) | with_reducible have hM2 := Mem.later hb (Mem.drew (Mem.drew (hM.out))) | with_reducible have hM2 := Mem.later hb (Mem.drew (Mem.al (Mem.drew (hM.out)) _ _)) | with_reducible have hM2 := Mem.later hb (Mem.drew (Mem.al (Mem.al (Mem.al (hM.out) _ _) _ _) _ _)) | with_reducible have hM2 := Mem.later hb (Mem.al (Mem.al (Mem.drew (Mem.al (hM.out) _ _)) _ _) _ _) | with_reducible have hM2 := Mem.later hb (Mem.drew (Mem.al (Mem.drew (Mem.al (hM.out) _ _)) _ _)) | with_reducible have hM2 := Mem.later hb (Mem.al (Mem.al (Mem.al (Mem.al (Mem.al (hM.out) _ _) _ _) _ _) _ _) _ _) | with_reducible have hM2 := Mem.later hb (Mem.al (Mem.al (Mem.al (Mem.al (Mem.al (Mem.al (hM.out) _ _) _ _) _ _) _ _) _ _) _ _) | with_reducible have hM2 := Mem.later hb (Mem.al (Mem.al (Mem.al (Mem.al (Mem.al (Mem.al (Mem.al (hM.out) _ _) _ _) _ _) _ _) _ _) _ _) _ _) | with_reducible have hM2 := Mem.later hb (Mem.al (Mem.al (Mem.al (Mem.al (Mem.al (Mem.al (Mem.al (Mem.al (hM.out) _ _) _ _) _ _) _ _) _ _) _ _) _ _) _ _)); (try simp only [World.size_alloc, size_drew] at hM2); clear hM; have hM := Lib.hid hM2; clear hF; have hF := hM2; (try simp only [Mem, cellsAt, World.size_alloc, Nat.zero_add, Nat.reduceAdd, and_true] at hF); clear hM2; clear hb) |
    ((with_reducible_and_instances refine at_store 3 ?_); refine wpList_over rfl (.tmp 3) (.tmp 25) 23 rfl w.heap.size (b8l z 32) _ rfl rfl _ Tryd.underlying23 rfl (by rw [b8l_len]; kernel_rfl) (L := [(g8, b8l o 32), (w.heap.size + 1, b8l zH 32)]) ⟨hM.out.2.2.1, hM.out.1, hM.out.2.1, trivial⟩ HNe.out (by rw [b8l_len, b8l_len]) (b8l_one z 32) hB (Nat.le_refl _) ?_; intro W3 hm3 hb3; clear hM hB hF; have hM := Lib.hid hm3; have hB := hb3; have hF : True := trivial; clear hm3 hb3))
        refine ⟨⟨k + 1, by omega, by first | rfl | go_num | (congr 1), by rw [HJ2.out], by rw [HSt.out]; exact ⟨hM.out.2.2.1, hM.out.1, trivial⟩, hB⟩, by simp [intOf]; omega⟩
    · have hkm : k = m := by omega
      have e : Br.take k = Br := List.take_of_length_le (by have := HLn.out; omega)
      rw [e] at hy
      have hlti : ¬ (k : Int) < (m : Int) := by omega
      have HY := Lib.hid hy
      clear hkm e hj hy hmm
      go_wp2_with (first |
    ((with_reducible_and_instances refine at_load 3 ?_); refine Go.wpList_load_mid rfl 23 (.tmp 3) rfl w.heap.size 0 rfl (b8l y 32) _ (rangeAt_of (Mem.get hM.out (by simp))) Tryd.underlying23 rfl (by rw [b8l_len]; kernel_rfl) ?_) |
    ((with_reducible_and_instances refine at_store 6 ?_); refine wpList_over rfl (.tmp 6) (.tmp 29) 23 rfl (w.heap.size + 1) (b8l y 32) _ rfl rfl _ Tryd.underlying23 rfl (by rw [b8l_len]; kernel_rfl) (L := [(w.heap.size, b8l y 32)]) ⟨hM.out.1, hM.out.2.1, trivial⟩ (by simp) (by rw [b8l_len, b8l_len]) (b8l_one y 32) hB (Nat.le_succ _) ?_; intro W3 hm3 hb3; clear hM hB hF; have hM := Lib.hid hm3; have hB := hb3; have hF : True := trivial; clear hm3 hb3))
      have hl2 := Go.run_loadVar_mid (P := Tryd.prog) W3 (w.heap.size + 1) 0 23 (b8l y 32) _ (rangeAt_of hM.out.1.2.2) Tryd.underlying23 rfl (by rw [b8l_len]; kernel_rfl)
      refine bodyPost_ret (v := arr32 y) (by simp [results, Tryd.results52, asAddr, hl2, Act.put]; try rfl) rfl ⟨by rw [HY.out], hB⟩
end Go.Proofs.YtddcceifblpmbaaDoor
