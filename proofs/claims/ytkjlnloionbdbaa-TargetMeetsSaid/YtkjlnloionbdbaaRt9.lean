/- Package retarget: Chain. (hM) -/
import Derived.Test.YtkjlnloionbdbaaRt7
import Derived.Laws.CopyOwn
namespace Go.Proofs.Ytkjlnloionbdbaa
set_option linter.unusedVariables false
set_option linter.unusedSimpArgs false
open Go.RowKit

/-- The cells of each are a header's, of time τ and bits β. -/
def Heads2 (X : Nat → List Value) (n : Nat) (τ β : Nat → Int) : Prop := ∀ i, i < n → (X i)[65]? = some (.int .u32 (τ i)) ∧ (X i)[66]? = some (.int .u32 (β i)) ∧ (∀ u ∈ X i, u.oneCell' = true) ∧ (0 ≤ τ i ∧ τ i < 4294967296) ∧ (0 ≤ β i ∧ β i < 4294967296)
theorem rd_heads2 {w : World} {v : Value} (k : Rd Try.prog w 68 v) :
    ∃ ao n c X τ β, v = .slice ao n c ∧ SRow w ao n c 68 X ∧ Heads2 X n τ β ∧ n ≤ maxLen := by
  obtain ⟨ao, n, c, X, rfl, hX, hs, hn⟩ := k.slice (sz := 68) Try.underlying68 (by kernel_rfl) (by decide)
  have key : ∀ i, i < n → ∃ t s : Int, (X i)[65]? = some (.int .u32 t) ∧ (X i)[66]? = some (.int .u32 s) ∧ (∀ u ∈ X i, u.oneCell' = true) ∧ (0 ≤ t ∧ t < 4294967296) ∧ (0 ≤ s ∧ s < 4294967296) := by
    intro i hi
    have hl := hs.len i hi
    obtain ⟨_, hf⟩ := (hX i hi).struct Try.underlying67
    have c22 : Try.prog.cellsOf 49 = 1 := by kernel_rfl
    have cH : Try.prog.cellsOf 55 = 32 := by kernel_rfl
    have cB : Try.prog.cellsOf 5 = 1 := by kernel_rfl
    have f0 : RdC Try.prog w 49 (((X i).drop 0).take (Try.prog.cellsOf 49)) := hf 0 _ rfl
    have f1 : RdC Try.prog w 55 (((X i).drop 1).take (Try.prog.cellsOf 55)) := hf 1 _ rfl
    have f2 : RdC Try.prog w 55 (((X i).drop 33).take (Try.prog.cellsOf 55)) := hf 2 _ rfl
    have f3 : RdC Try.prog w 49 (((X i).drop 65).take (Try.prog.cellsOf 49)) := hf 3 _ rfl
    have f4 : RdC Try.prog w 49 (((X i).drop 66).take (Try.prog.cellsOf 49)) := hf 4 _ rfl
    have f5 : RdC Try.prog w 49 (((X i).drop 67).take (Try.prog.cellsOf 49)) := hf 5 _ rfl
    rw [c22] at f0 f3 f4 f5
    rw [cH] at f1 f2
    have one (j : Nat) (h : RdC Try.prog w 49 (((X i).drop j).take 1)) : ∃ z, (X i)[j]? = some (.int .u32 z) ∧ (0 ≤ z ∧ z < 4294967296) := by
      obtain ⟨z, hz, hzw⟩ := h.int Try.underlying49
      refine ⟨z, ?_, u32_wf5 hzw⟩
      have := congrArg (·[0]?) hz
      simpa [List.getElem?_take, List.getElem?_drop] using this
    have arr (j : Nat) (h : RdC Try.prog w 55 (((X i).drop j).take 32)) (t : Nat) (ht : t < 32) : ∃ z, (X i)[j + t]? = some (.int .u8 z) := by
      have h2 := (h.array Try.underlying55).2 t ht
      rw [cB] at h2
      obtain ⟨z, hz, _⟩ := h2.int Try.underlying5
      refine ⟨z, ?_⟩
      have := congrArg (·[0]?) hz
      simp only [Nat.mul_one] at this
      rw [List.getElem?_take_of_lt (by omega), List.getElem?_drop, List.getElem?_take_of_lt (by omega), List.getElem?_drop] at this
      simpa using this
    obtain ⟨z3, h3, w3⟩ := one 65 f3
    obtain ⟨z4, h4', w4⟩ := one 66 f4
    refine ⟨z3, z4, h3, h4', fun u hu => ?_, w3, w4⟩
    obtain ⟨t, ht, rfl⟩ := List.getElem_of_mem hu
    have hg : (X i)[t]? = some ((X i)[t]) := List.getElem?_eq_getElem ht
    have fin (k : IntKind) (z : Int) (h : (X i)[t]? = some (.int k z)) : ((X i)[t]).oneCell' = true := by
      rw [hg] at h
      rw [Option.some.inj h]
      rfl
    rcases Nat.lt_or_ge t 1 with h1 | h1
    · obtain ⟨z, hz, _⟩ := one 0 f0
      exact fin _ z (by rw [show t = 0 by omega]; exact hz)
    rcases Nat.lt_or_ge t 33 with h2 | h2
    · obtain ⟨z, hz⟩ := arr 1 f1 (t - 1) (by omega)
      exact fin _ z (by rw [show t = 1 + (t - 1) by omega]; exact hz)
    rcases Nat.lt_or_ge t 65 with h4 | h4
    · obtain ⟨z, hz⟩ := arr 33 f2 (t - 33) (by omega)
      exact fin _ z (by rw [show t = 33 + (t - 33) by omega]; exact hz)
    rcases Nat.lt_or_ge t 66 with h5 | h5
    · exact fin _ z3 (by rw [show t = 65 by omega]; exact h3)
    rcases Nat.lt_or_ge t 67 with h6 | h6
    · obtain ⟨z, hz, _⟩ := one 66 f4
      exact fin _ z (by rw [show t = 66 by omega]; exact hz)
    · obtain ⟨z, hz, _⟩ := one 67 f5
      exact fin _ z (by rw [show t = 67 by omega]; exact hz)
  have this : ∀ i, ∃ t s : Int, i < n → (X i)[65]? = some (.int .u32 t) ∧ (X i)[66]? = some (.int .u32 s) ∧ (∀ u ∈ X i, u.oneCell' = true) ∧ (0 ≤ t ∧ t < 4294967296) ∧ (0 ≤ s ∧ s < 4294967296) := fun i => by
    by_cases hi : i < n
    · obtain ⟨t, s, h⟩ := key i hi; exact ⟨t, s, fun _ => h⟩
    · exact ⟨0, 0, fun h => absurd h hi⟩
  exact ⟨ao, n, c, X, fun i => (this i).choose, fun i => (this i).choose_spec.choose, rfl, hs, fun i hi => (this i).choose_spec.choose_spec hi, hn⟩

noncomputable def zH : Array Value := (((Try.prog.info? 67).bind (·.zero)).getD undef).cells
theorem zH_size : zH.size = 68 := by kernel_rfl

theorem zero_hdr (w : World) : (zeroValue 67).run Try.prog w = .ok (.agg zH) w := by kernel_rfl

theorem store_hdr (wr : World) (xs : List Value) (hl : xs.length = 68) (h1 : ∀ u ∈ xs, u.oneCell' = true) :
    (storeCells ⟨wr.heap.size, 0, none⟩ xs).run Try.prog (wr.alloc (.cells zH 67)) = .ok () ((wr.alloc (.cells zH 67)).setRow wr.heap.size xs.toArray) := by
  have := run_storeCells_at Try.prog wr.heap.size 0 67 xs 0 zH (wr.alloc (.cells zH 67)) (heap_alloc_new wr _) (by rw [zH_size]; omega) h1
  rw [this, Nat.zero_add, List.take_zero, List.nil_append, List.drop_of_length_le (by rw [Array.length_toList, zH_size]; omega), List.append_nil]

theorem wpT_yield {P : Program} {ops : List Oper} {Q : Exit → Act → World → Prop} {S : World → Prop} {bad rest : List Nat} {a : Act} {w : World} {i : Nat} {o : Oper} {v : Value} (ho : ops[i]? = some o) (hb : bad.contains i = false) (hy : YieldsIf P ops.toArray S o v a) (hS : S w)
    (h : wpT P ops.toArray Q bad rest S (a.put o.dst v) w) : wpT P ops.toArray Q bad (i :: rest) S a w := by
  unfold wpT
  rw [if_neg (by rw [hb]; decide)]
  exact ⟨o, v, by simpa using ho, hy, hS, h⟩
/-- what Chain's last statement reads -/
def ChS (B g b o : Nat) (pv : List Value) (t : Int) (ys : List Value) (x : World) : Prop := Mem x [(B, pv)] ∧ (g < x.heap.size ∧ x.cell? ⟨g, 65, none⟩ = some (.int .u32 t)) ∧ (b < x.heap.size ∧ x.rangeAt b o ys)
theorem ChS.later {B g b o : Nat} {pv : List Value} {t : Int} {ys : List Value} {x y : World} (h : ChS B g b o pv t ys x) (hb : Below x.heap.size x y) : ChS B g b o pv t ys y :=
  ⟨Mem.later hb h.1, ⟨Nat.lt_of_lt_of_le h.2.1.1 hb.size, (hb.cell (p := ⟨g, 65, none⟩) h.2.1.1).trans h.2.1.2⟩, ⟨Nat.lt_of_lt_of_le h.2.2.1 hb.size, fun k v hk => (hb.cell (p := ⟨b, o + k, none⟩) h.2.2.1).trans (h.2.2.2 k v hk)⟩⟩
theorem first_le (m : Nat) (iv : Int) : ∃ j : Nat, firstV ((m : Int) + 1) iv = (j : Int) ∧ j ≤ m := by
  refine ⟨(firstV ((m : Int) + 1) iv).toNat, ?_, ?_⟩ <;> unfold firstV <;> split <;> omega

set_option maxRecDepth 100000 in
set_option maxHeartbeats 1000000 in
theorem chain_zero (lim iv sp fu ix orp : Int) (ao : Option Addr) (n cp : Nat) (lo : Option Addr) (lc : Nat) (w : World) :
    Calls Try.prog 45 #[PV lim iv sp fu ix orp ao n cp, .slice lo 0 lc] w fun e w' => e = .returned (.int .u32 lim) ∧ Below w.heap.size w w' := by
  go_enter Try.func45, Try.ntmps45
  go_wp2
  go_ret
  exact ⟨rfl, by (repeat (first | exact Below.refl _ _ | refine Below.drew ?_ | refine bl_drewN ?_ _ | (refine Below.alloc ?_ (by first | exact Nat.le_refl _ | (simp; done) | (simp; omega)) _)))⟩

set_option maxRecDepth 100000 in
set_option maxHeartbeats 2000000 in
theorem chain_any (lim iv sp fu ix orp : Int) (ao : Option Addr) (n cp : Nat) (hlim : 0 ≤ lim ∧ lim < 4294967296) (lo : Option Addr) (m lc : Nat) (hm : m ≤ 1000000) (X : Nat → List Value) (τ β : Nat → Int) (w : World) (hr : SRow w lo (m + 1) lc 68 X) (hX : Heads2 X (m + 1) τ β)
    (j : Nat) (hj : firstV ((m : Int) + 1) iv = (j : Int)) (hjm : j ≤ m) :
    Calls Try.prog 45 #[PV lim iv sp fu ix orp ao n cp, .slice lo (m + 1) lc] w fun e w' => e = .returned (.int .u32 (nextV lim iv sp fu ix orp n ((m : Int) + 1) (τ m) (β m) (τ j))) ∧ Below w.heap.size w w' := by
  obtain ⟨b, off, rfl⟩ := hr.addr (by decide) (by omega)
  have hblt := hr.lt (by decide) (by omega) _ rfl
  dsimp only at hblt
  obtain ⟨xs, hxs⟩ : ∃ xs, X j = xs := ⟨_, rfl⟩
  obtain ⟨ys, hys⟩ : ∃ ys, X m = ys := ⟨_, rfl⟩
  have hxl : xs.length = 68 := by rw [← hxs]; exact hr.len j (by omega)
  have hyl : ys.length = 68 := by rw [← hys]; exact hr.len m (by omega)
  obtain ⟨x65, x66, x1, xτ, xβ⟩ := hX j (by omega)
  obtain ⟨y65, y66, y1, yτ, yβ⟩ := hX m (by omega)
  rw [hxs] at x65 x66 x1
  rw [hys] at y65 y66 y1
  have hcx : w.rangeAt b (off + j * 68) xs := fun k v hk => by rw [Nat.add_assoc]; exact (hr.cells _ rfl j (by omega) k v (by rw [hxs]; exact hk)).2
  have hcy : w.rangeAt b (off + m * 68) ys := fun k v hk => by rw [Nat.add_assoc]; exact (hr.cells _ rfl m (by omega) k v (by rw [hys]; exact hk)).2
  have rl : ∀ {o : Nat} {zs : List Value} {x : World}, w.rangeAt b o zs → Below w.heap.size w x → x.rangeAt b o zs := fun h hb k v hk => (hb.cell (p := ⟨b, _, none⟩) hblt).trans (h k v hk)
  have HFi := Lib.hid (fun w => hj ▸ first_any ((m : Int) + 1) iv (by omega) w)
  have HNx := Lib.hid (fun w => next_any lim iv sp fu ix orp ao n cp hlim ((m : Int) + 1) ys.toArray (by simpa using hyl) (τ m) (β m) (τ j) (by simpa using y65) (by simpa using y66) yτ yβ xτ w)
  have HX := Lib.hid (show xs.length = 68 ∧ ys.length = 68 ∧ (∀ u ∈ xs, u.oneCell' = true) ∧ xs[65]? = some (.int .u32 (τ j)) from ⟨hxl, hyl, x1, x65⟩)
  have HR := Lib.hid (show (∀ x, Below w.heap.size w x → x.rangeAt b (off + j * 68) xs) ∧ (∀ x, Below w.heap.size w x → x.rangeAt b (off + m * 68) ys) from ⟨fun x h => rl hcx h, fun x h => rl hcy h⟩)
  have hne : ((m : Int) + 1 == 0) = false := by simp; omega
  have hjm' : (j : Int) < (m : Int) + 1 := by omega
  have hmm' : (m : Int) < (m : Int) + 1 := by omega
  have hw1 : IntKind.i64.wrap (m : Int) = (m : Int) := wrap_small _ (by omega) (by omega)
  clear hr hX hcx hcy hyl x65 x66 x1 xβ y65 y66 y1 yτ yβ hj hxs hys rl xτ hlim
  have HBL := Lib.hid hblt
  clear hblt
  go_enter Try.func45, Try.ntmps45
  go_wp2_with (first | (go_at_call 49; (with_reducible refine (HFi.out _).mono ?_); rintro e w1 ⟨rfl, hb⟩; have hb1 := bl_then (below_alloc w _) hb; have hMp := Mem.later hb (Mem.al (mem_nil w) _ _); have hz := zero_hdr w1; have hst := store_hdr w1 xs HX.out.1 HX.out.2.2.1; have hC := Lib.hid (HR.out.1 w1 hb1)) | (refine Go.wpList_load_mid rfl 67 (.tmp 18) rfl b (off + j * 68) rfl xs _ hC.out Try.underlying67 rfl (by rw [HX.out.1]; kernel_rfl) ?_))
  have hB2 : Below w.heap.size w ((w1.alloc (.cells zH 67)).setRow w1.heap.size xs.toArray) := below_setRow (hb1.alloc hb1.size _) hb1.size _
  have hbW : Below w1.heap.size w1 ((w1.alloc (.cells zH 67)).setRow w1.heap.size xs.toArray) := below_setRow ((Below.refl w1.heap.size w1).alloc (Nat.le_refl _) _) (Nat.le_refl _) _
  have hcW : ((w1.alloc (.cells zH 67)).setRow w1.heap.size xs.toArray).cell? ⟨w1.heap.size, 65, none⟩ = some (.int .u32 (τ j)) := by
    rw [cell_setRow_same _ _ _ _ _ _ _ (heap_alloc_new w1 _)]
    simpa using HX.out.2.2.2
  have hlW : w1.heap.size < ((w1.alloc (.cells zH 67)).setRow w1.heap.size xs.toArray).heap.size := World.block_lt_of_cell? _ _ hcW
  have hCh := Lib.hid (show ChS w.heap.size w1.heap.size b (off + m * 68) [.int .u32 lim, .int .i64 iv, .int .i64 sp, .int .i64 fu, .int .i64 ix, .int .i64 orp, .slice ao n cp] (τ j) ys ((w1.alloc (.cells zH 67)).setRow w1.heap.size xs.toArray) from
    ⟨Mem.later hbW hMp, ⟨hlW, hcW⟩, ⟨Nat.lt_of_lt_of_le HBL.out hB2.size, HR.out.2 _ hB2⟩⟩)
  clear hst hz hMp hC hlW hbW hcW
  generalize (w1.alloc (.cells zH 67)).setRow w1.heap.size xs.toArray = W at *
  refine wp_plan (fun x => Mem x [(w.heap.size, [.int .u32 lim, .int .i64 iv, .int .i64 sp, .int .i64 fu, .int .i64 ix, .int .i64 orp, .slice ao n cp])] ∧ (w1.heap.size < x.heap.size ∧ x.cell? ⟨w1.heap.size, 65, none⟩ = some (.int .u32 (τ j))) ∧ (b < x.heap.size ∧ x.rangeAt b (off + m * 68) ys)) [9] [0, 1, 2, 3, 4, 5, 6, 7, 8, 9, 10] (by kernel_rfl) (by kernel_rfl) (hCh.out.later (Below.refl _ _).drew) (fun hHeld => ?_)
  iterate 6 (refine wpT_take rfl (by rfl) (by rfl) (by intro w' hSw; (try dsimp only [Mem, cellsAt] at hSw); go_simp; (try with_reducible rfl)) (by assumption) ?_; (try simp only [Act.put, List.setIfInBounds_toArray, List.set_cons_zero, List.set_cons_succ]))
  (refine wpT_yield rfl (by rfl) (Go.yieldsIf_load_mid (by rfl) 67 (.tmp 25) rfl b (off + m * 68) rfl ys _ (fun w' h => h.2.2.2) Try.underlying67 rfl (by rw [HX.out.2.1]; kernel_rfl)) (by assumption) ?_; (try simp only [Act.put, List.setIfInBounds_toArray, List.set_cons_zero, List.set_cons_succ]))
  iterate 2 (refine wpT_take rfl (by rfl) (by rfl) (by intro w' hSw; (try dsimp only [Mem, cellsAt] at hSw); go_simp; (try with_reducible rfl)) (by assumption) ?_; (try simp only [Act.put, List.setIfInBounds_toArray, List.set_cons_zero, List.set_cons_succ]))
  (refine wpT_step rfl (by rfl) (fun K hK => ?_); go_simp)
  (refine (HNx.out _).mono ?_; rintro e w2 ⟨rfl, hb2⟩; have hCh2 := Lib.hid ((hCh.out.later (Below.refl _ _).drew).later hb2); (refine hK.out _ _ _ (fun _ h => h) (hCh2.out) (fun hHeld => ?_); clear hK; clear K; (try simp only [Act.put, List.setIfInBounds_toArray, List.set_cons_zero, List.set_cons_succ])))
  iterate 1 (refine wpT_take rfl (by rfl) (by rfl) (by intro w' hSw; (try dsimp only [Mem, cellsAt] at hSw); go_simp; (try with_reducible rfl)) (by assumption) ?_; (try simp only [Act.put, List.setIfInBounds_toArray, List.set_cons_zero, List.set_cons_succ]))
  (refine wpT_nil ?_)
  go_wp2
  go_ret
  exact ⟨rfl, bl_then hB2.drew hb2⟩
end Go.Proofs.Ytkjlnloionbdbaa
