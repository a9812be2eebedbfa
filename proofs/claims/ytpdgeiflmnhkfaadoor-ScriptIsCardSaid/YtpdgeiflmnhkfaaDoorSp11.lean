/- florinref23: Get. (hM) -/
import Derived.Test.YtpdgeiflmnhkfaaDoorSp10
namespace Go.Proofs.YtpdgeiflmnhkfaaDoor
set_option linter.unusedVariables false
set_option linter.unusedSimpArgs false
open Go.RowKit

section
variable {P : Program} {ops : List Oper} {Q : Exit → Act → World → Prop} {S : World → Prop} {E : Act → Prop} {rest : List Nat} {a : Act} {w : World} {i : Nat} {o : Oper} {v : Value}
theorem wpG_callS {f : Nat} {args : Array Value} (hSb : ∀ w w', S w → Below w.heap.size w w' → S w') (hc : ∀ w, S w → Calls P f args w fun e w' => e = .returned v ∧ Below w.heap.size w w')
    (ho : ops[i]? = some o) (hw : Region.wanted o (yielded ops.toArray a.tmps) = true) (hy : ∀ w, S w → (execOp a.eval o).run P w = .ok (.enter f args) w)
    (h : wpG P ops.toArray S E rest (a.put o.dst v)) : wpG P ops.toArray S E (i :: rest) a :=
  ⟨o, v, by simpa using ho, .inl ⟨hw, fun w hS => by
    rw [hy w hS]
    exact (hc w hS).mono fun e w' h => ⟨h.1, hSb _ _ hS h.2, h.2⟩⟩, h⟩
end
section
variable {P : Program} {T E : TypeId} {z : Value} {sz wd : Nat}
/-- append onto a row of one's own: where the result lies, too -/
theorem run_appM (he : Elt P T E z sz wd) (w : World) (ty : TypeId) (B : Nat) (hB : B ≤ w.heap.size) (ao : Option Addr) (n c : Nat) (xs : List Value) (hr : OwnN B E sz w ao n c xs)
    (ax : Option Addr) (m cx : Nat) (ys : List Value) (hy : Row w ax m cx sz ys) (hm : 0 < m) (hb : (n + m) * wd ≤ 140737488355328) :
    ∃ g cap w' row, (Builtin.append_ #[T, T] ty #[.slice ao n c, .slice ax m cx]).run P w = .ok (.slice (some ⟨g, 0, none⟩) (n + m) cap) w' ∧
      w'.ownsRow B E sz (.slice (some ⟨g, 0, none⟩) (n + m) cap) (n + m) (xs ++ ys) ∧ w.grownBy w' row ∧ (∀ k, row = some k → ao = some ⟨k, 0, none⟩) ∧ (ao = some ⟨g, 0, none⟩ ∨ w.heap.size ≤ g) := by
  rcases hr with ⟨rfl, rfl, rfl, rfl⟩ | ⟨g, rfl, hr⟩
  · obtain ⟨g, cap, w', h1, h2, h3, h4, _⟩ := run_appF he w ty none 0 0 [] (row_nil w sz) ax m cx ys hy (by omega) hb
    exact ⟨g, cap, w', none, h1, ownsRow_base h2 hB, h3, (fun k h => by cases h), .inr h4⟩
  · obtain ⟨g', cap, w', h1, h2, h3, h4, _⟩ := run_appO he w ty B g n c xs hr ax m cx ys hy hb hB
    refine ⟨g', cap, w', some g, h1, h2, h3, (fun k h => by cases h; rfl), ?_⟩
    rcases h4 with rfl | rfl
    · exact .inl rfl
    · exact .inr (Nat.le_refl _)
theorem wpList_appM (he : Elt P T E z sz wd) (w : World) {ops : Array Oper} {rest : List Oper} {o : Oper} {a : Act} {Q : Exit → Act → World → Prop} (hgd : o.guard = none) (s x : Operand)
    (ho : o.op = .call { callee := .builtin .append, args := #[s, x], argTypes := #[T, T] })
    (B : Nat) (hB : B ≤ w.heap.size) (ao : Option Addr) (n c : Nat) (xs : List Value) (hs : a.eval s = .slice ao n c) (hr : OwnN B E sz w ao n c xs)
    (ax : Option Addr) (m cx : Nat) (ys : List Value) (hx : a.eval x = .slice ax m cx) (hy : Row w ax m cx sz ys) (hm : 0 < m) (hb : (n + m) * wd ≤ 140737488355328)
    (h : ∀ g cap w' row, w'.ownsRow B E sz (.slice (some ⟨g, 0, none⟩) (n + m) cap) (n + m) (xs ++ ys) → w.grownBy w' row → (∀ k, row = some k → ao = some ⟨k, 0, none⟩) → (ao = some ⟨g, 0, none⟩ ∨ w.heap.size ≤ g) →
      wpList P ops Q rest (a.put o.dst (.slice (some ⟨g, 0, none⟩) (n + m) cap)) w') : wpList P ops Q (o :: rest) a w := by
  refine wpList_plain hgd fun K hK => ?_
  obtain ⟨g, cap, w', row, hrun, h1, h2, h3, h4⟩ := run_appM he w o.type B hB ao n c xs hr ax m cx ys hy hm hb
  unfold Oper.wp
  simp [execOp, ho, resolve, invoke, builtin, hs, hx, hrun, Result.andThen]
  exact hK _ _ (h g cap w' row h1 h2 h3 h4)
end
theorem ownsRow_set23 {w : World} {B : Nat} {E : TypeId} {sz g n cap Bx k : Nat} {xs : List Value} {v : Value} (h : w.ownsRow B E sz (.slice (some ⟨g, 0, none⟩) n cap) n xs) (hne : Bx < B) : (w.setCell ⟨Bx, k, none⟩ v).ownsRow B E sz (.slice (some ⟨g, 0, none⟩) n cap) n xs := by
  refine ⟨h.1, ?_⟩
  rcases h.2 with h0 | ⟨g', cap', cur, hv, hB, hg, hrest⟩
  · exact .inl h0
  · refine .inr ⟨g', cap', cur, hv, hB, ?_, hrest⟩
    rw [← hg]
    exact Below.heap_setCell _ _ _ _ (by show g' ≠ Bx; omega)
theorem setCell_cell {w : World} {b i g k : Nat} {u v : Value} (h : w.cell? ⟨b, i, none⟩ = some u) (hne : b ≠ g) : (w.setCell ⟨g, k, none⟩ v).cell? ⟨b, i, none⟩ = some u := by
  rw [World.cell?_setCell_far _ _ _ _ (by exact Ne.symm hne)]
  exact h
theorem al_cell23 {w : World} {b i : Nat} {u : Value} (h : w.cell? ⟨b, i, none⟩ = some u) (o : Obj) : (w.alloc o).cell? ⟨b, i, none⟩ = some u :=
  ((below_alloc w o).cell (p := ⟨b, i, none⟩) (World.block_lt_of_cell? w ⟨b, i, none⟩ h)).trans h
theorem atP_drop (zs : List Int) (p i : Nat) : atP (zs.drop p) i = atP zs (p + i) := by
  unfold atP
  rw [List.getD_eq_getElem?_getD, List.getD_eq_getElem?_getD, List.getElem?_drop]
theorem Row.grown {w w' : World} {row : Option Nat} (hg : w.grownBy w' row) {ao : Option Addr} {n c sz : Nat} {xs : List Value} (h : Row w ao n c sz xs)
    (hne : ∀ ad, ao = some ad → xs ≠ [] → ∀ k, row = some k → ad.block ≠ k) : Row w' ao n c sz xs :=
  ⟨h.len, h.le, h.nil, fun ad ha i u hu => ⟨(h.cells ad ha i u hu).1, grown_cell hg (h.cells ad ha i u hu).2 (hne ad ha (by rintro rfl; simp at hu))⟩, h.one⟩
/-- the steps' bytes lie apart from where the steps lie -/
def Apart (lo : Option Addr) (L : List Stp) : Prop := ∀ s ∈ L, ∀ ad, s.ao = some ad → s.d ≠ [] → ∀ g, lo = some ⟨g, 0, none⟩ → ad.block ≠ g
def RInRel (wr w8 : World) (g q6 sz : Nat) (k0 p0 n0 : Int) (ys : List Int) (i k : Value) (wx : World) : Prop :=
  ∃ (q : Nat) (ao : Option Addr) (dc : Nat), q ≤ sz ∧ i = .int .i64 ((q6 + q : Nat) : Int) ∧ k = .int .i64 (q : Int) ∧ Mem wx [(g, [.int .i64 k0, .int .i64 p0, .int .i64 n0, .slice ao q dc])] ∧
    OwnN w8.heap.size 5 1 wx ao q dc ((ys.take q).map (Value.int .u8)) ∧ Below wr.heap.size wr wx ∧ w8.heap.size ≤ wx.heap.size
def RGetRel (w : World) (n : Nat) (zs : List Int) (l i : Value) (wr : World) : Prop :=
  ∃ (p : Nat) (lo : Option Addr) (cap : Nat) (L : List Stp), p ≤ n + 6 ∧ i = .int .i64 p ∧ l = .slice lo L.length cap ∧ L.length ≤ 400 ∧ L.map psOf ++ getP (400 - L.length) (zs.drop p) = getP 400 zs ∧
    OwnN w.heap.size 104 4 wr lo L.length cap (stsL L) ∧ (∀ s ∈ L, StOk wr s) ∧ Apart lo L ∧ Below w.heap.size w wr

set_option maxRecDepth 100000 in
set_option maxHeartbeats 4000000 in
theorem rget_any (ao : Option Addr) (n c : Nat) (zs : List Int) (w : World) (h : Row w ao n c 1 (zs.map (Value.int .u8))) (hz : bytesP zs) (hn : n ≤ 1000000000) :
    Calls Tryd.prog 100 #[.slice ao n c] w fun e w' => ∃ (lo : Option Addr) (cap : Nat) (L : List Stp), e = .returned (.slice lo L.length cap) ∧ Sts w' lo L.length cap L ∧ L.map psOf = getP 400 zs ∧ Below w.heap.size w w' := by
  have hB0 := Below.refl w.heap.size w
  have hzl : zs.length = n := by simpa using h.len
  have H := Lib.hid h
  have HZ := Lib.hid hz
  have HN := Lib.hid hn
  have HZL := Lib.hid hzl
  clear h hz hn hzl
  go_enter Tryd.func100, Tryd.ntmps100
  go_wp2
  go_loopw [3, 4] (fun l i wr => RGetRel w n zs l i wr) (fun l _ _ => 400 - sliceLen l)
  case atStart => exact ⟨0, none, 0, [], by omega, rfl, rfl, by decide, rfl, by simpa [stsL] using ownN_nil _ _ _ _, by simp, (fun s hs => by cases hs), hB0⟩
  case round =>
    rename World => wo
    obtain ⟨p, lo, cap, L, hp, rfl, rfl, hl4, hget, hown, hok, hap, hB⟩ := hrel
    obtain ⟨ln, hln⟩ : ∃ ln, L.length = ln := ⟨_, rfl⟩
    rw [hln] at hl4 hown hget ⊢
    have HO := Lib.hid hown
    have HOK := Lib.hid hok
    have HAP := Lib.hid hap
    have HG := Lib.hid hget
    have HLN := Lib.hid hln
    clear hown hok hap hget hln
    by_cases hpn : p < n
    · have hpi : (p : Int) < (n : Int) := by omega
      have hp0 : 0 ≤ (p : Int) := by omega
      by_cases h4 : ln < 400
      · have hlt : (ln : Int) < 400 := by omega
        obtain ⟨b, off, rfl⟩ := row_addr H.out (by intro e; have := congrArg List.length e; simp [HZL.out] at this; omega)
        obtain ⟨x0, hx0⟩ : ∃ z, atP zs p = z := ⟨_, rfl⟩
        obtain ⟨x1, hx1⟩ : ∃ z, atP zs (p + 1) = z := ⟨_, rfl⟩
        obtain ⟨x2, hx2⟩ : ∃ z, atP zs (p + 2) = z := ⟨_, rfl⟩
        obtain ⟨x3, hx3⟩ : ∃ z, atP zs (p + 3) = z := ⟨_, rfl⟩
        obtain ⟨x4, hx4⟩ : ∃ z, atP zs (p + 4) = z := ⟨_, rfl⟩
        obtain ⟨x5, hx5⟩ : ∃ z, atP zs (p + 5) = z := ⟨_, rfl⟩
        have HA1 := Lib.hid (fun (x : World) (h : Row x (some ⟨b, off, none⟩) n c 1 (zs.map (Value.int .u8))) => hx1 ▸ at23_any _ n c zs x h HZ.out (p + 1))
        have HA2 := Lib.hid (fun (x : World) (h : Row x (some ⟨b, off, none⟩) n c 1 (zs.map (Value.int .u8))) => hx2 ▸ at23_any _ n c zs x h HZ.out (p + 2))
        have HA3 := Lib.hid (fun (x : World) (h : Row x (some ⟨b, off, none⟩) n c 1 (zs.map (Value.int .u8))) => hx3 ▸ at23_any _ n c zs x h HZ.out (p + 3))
        have HA4 := Lib.hid (fun (x : World) (h : Row x (some ⟨b, off, none⟩) n c 1 (zs.map (Value.int .u8))) => (hx4 ▸ at23_any _ n c zs x h HZ.out (p + 4) : Calls Tryd.prog 139 #[.slice (some ⟨b, off, none⟩) n c, .int .i64 ((p : Int) + 4)] x fun e w' => e = .returned (.int .i64 x4) ∧ x = w'))
        have HA5 := Lib.hid (fun (x : World) (h : Row x (some ⟨b, off, none⟩) n c 1 (zs.map (Value.int .u8))) => (hx5 ▸ at23_any _ n c zs x h HZ.out (p + 5) : Calls Tryd.prog 139 #[.slice (some ⟨b, off, none⟩) n c, .int .i64 ((p : Int) + 5)] x fun e w' => e = .returned (.int .i64 x5) ∧ x = w'))
        have b0 := atP_b HZ.out p
        have b1 := atP_b HZ.out (p + 1)
        have b2 := atP_b HZ.out (p + 2)
        have b3 := atP_b HZ.out (p + 3)
        have b4 := atP_b HZ.out (p + 4)
        have b5 := atP_b HZ.out (p + 5)
        rw [hx0] at b0
        rw [hx1] at b1
        rw [hx2] at b2
        rw [hx3] at b3
        rw [hx4] at b4
        rw [hx5] at b5
        have hv : zs[p]? = some x0 := by
          rw [← hx0, List.getElem?_eq_getElem (by have := HZL.out; omega)]
          unfold atP
          rw [List.getD_eq_getElem?_getD, List.getElem?_eq_getElem (by have := HZL.out; omega)]
          rfl
        have hc := ((H.out.later hB).cells _ rfl p (.int .u8 x0) (by rw [List.getElem?_map, hv]; rfl)).2
        simp only at hc
        have w1 : IntKind.i64.wrap ((p : Int) + 1) = ((p + 1 : Nat) : Int) := by rw [IntKind.wrap_i64]; have := HN.out; omega
        have w2 : IntKind.i64.wrap ((p : Int) + 2) = ((p + 2 : Nat) : Int) := by rw [IntKind.wrap_i64]; have := HN.out; omega
        have w3 : IntKind.i64.wrap ((p : Int) + 3) = ((p + 3 : Nat) : Int) := by rw [IntKind.wrap_i64]; have := HN.out; omega
        have w4 : IntKind.i64.wrap ((p : Int) + 4) = ((p + 4 : Nat) : Int) := by rw [IntKind.wrap_i64]; have := HN.out; omega
        have w5 : IntKind.i64.wrap ((p : Int) + 5) = ((p + 5 : Nat) : Int) := by rw [IntKind.wrap_i64]; have := HN.out; omega
        have w6 : IntKind.i64.wrap ((p : Int) + 6) = ((p + 6 : Nat) : Int) := by rw [IntKind.wrap_i64]; have := HN.out; omega
        have v0 : IntKind.i64.wrap x0 = x0 := by rw [IntKind.wrap_i64]; omega
        have v3 : IntKind.i64.wrap (256 * x3) = 256 * x3 := by rw [IntKind.wrap_i64]; omega
        have v2 : IntKind.i64.wrap (x2 + 256 * x3) = x2 + 256 * x3 := by rw [IntKind.wrap_i64]; omega
        have v5 : IntKind.i64.wrap (256 * x5) = 256 * x5 := by rw [IntKind.wrap_i64]; omega
        have v4 : IntKind.i64.wrap (x4 + 256 * x5) = x4 + 256 * x5 := by rw [IntKind.wrap_i64]; omega
        have hrem : x0.tmod 10 = x0 % 10 := Int.tmod_eq_emod_of_nonneg b0.1
        obtain ⟨x6, hx6⟩ : ∃ z, x0 % 10 = z := ⟨_, rfl⟩
        rw [hx6] at hrem
        have HX := Lib.hid (And.intro hx0 (And.intro hx1 (And.intro hx2 (And.intro hx3 (And.intro hx4 (And.intro hx5 hx6))))))
        have HRw := Lib.hid (H.out.later hB)
        clear hx0 hx1 hx2 hx3 hx4 hx5 hx6 hv
        go_wp2
        have hSb : ∀ x y : World, (fun x => x.cell? ⟨b, off + p, none⟩ = some (.int .u8 x0) ∧ Row x (some ⟨b, off, none⟩) n c 1 (zs.map (Value.int .u8)) ∧ Below wo.heap.size wo x) x → Below x.heap.size x y → (fun x => x.cell? ⟨b, off + p, none⟩ = some (.int .u8 x0) ∧ Row x (some ⟨b, off, none⟩) n c 1 (zs.map (Value.int .u8)) ∧ Below wo.heap.size wo x) y := by
          intro x y hx hb
          exact ⟨(hb.cell (p := ⟨b, off + p, none⟩) (World.block_lt_of_cell? x ⟨b, off + p, none⟩ hx.1)).trans hx.1, hx.2.1.later hb, bl_then hx.2.2 hb⟩
        refine wp_float (fun x => x.cell? ⟨b, off + p, none⟩ = some (.int .u8 x0) ∧ Row x (some ⟨b, off, none⟩) n c 1 (zs.map (Value.int .u8)) ∧ Below wo.heap.size wo x) (fun _ => .cells #[.int .i64 0, .int .i64 0, .int .i64 0, .slice none 0 0] 104) [0, 1, 2, 3, 4, 5, 6, 7, 8, 9, 10, 11, 12, 13, 14, 15, 16, 17, 18, 19, 20] [21] [22] [] (by kernel_rfl) (by kernel_rfl) ?_ hSb ⟨hc, HRw.out, Below.refl _ _⟩ ?_
        · intro k hk
          simp only [List.mem_cons, List.not_mem_nil, or_false] at hk
          subst hk
          exact ⟨_, rfl, rfl, fun a w => by go_simp; rfl⟩
        iterate 9 (refine wpG_take rfl (by rfl) (by intro w' hSw; (try dsimp only [MB, Mem, cellsAt] at hSw); go_simp; (try with_reducible rfl)) ?_; (try simp only [Act.put, List.setIfInBounds_toArray, List.set_cons_zero, List.set_cons_succ]))
        (refine wpG_callS hSb (fun x hx => (HA1.out x hx.2.1).mono (fun e w' h => ⟨h.1, h.2 ▸ Below.refl _ _⟩)) rfl (by rfl) (by intro w' hSw; go_simp; (try with_reducible rfl)) ?_; (try simp only [Act.put, List.setIfInBounds_toArray, List.set_cons_zero, List.set_cons_succ]))
        iterate 3 (refine wpG_take rfl (by rfl) (by intro w' hSw; (try dsimp only [MB, Mem, cellsAt] at hSw); go_simp; (try with_reducible rfl)) ?_; (try simp only [Act.put, List.setIfInBounds_toArray, List.set_cons_zero, List.set_cons_succ]))
        (refine wpG_callS hSb (fun x hx => (HA2.out x hx.2.1).mono (fun e w' h => ⟨h.1, h.2 ▸ Below.refl _ _⟩)) rfl (by rfl) (by intro w' hSw; go_simp; (try with_reducible rfl)) ?_; (try simp only [Act.put, List.setIfInBounds_toArray, List.set_cons_zero, List.set_cons_succ]))
        iterate 3 (refine wpG_take rfl (by rfl) (by intro w' hSw; (try dsimp only [MB, Mem, cellsAt] at hSw); go_simp; (try with_reducible rfl)) ?_; (try simp only [Act.put, List.setIfInBounds_toArray, List.set_cons_zero, List.set_cons_succ]))
        (refine wpG_callS hSb (fun x hx => (HA3.out x hx.2.1).mono (fun e w' h => ⟨h.1, h.2 ▸ Below.refl _ _⟩)) rfl (by rfl) (by intro w' hSw; go_simp; (try with_reducible rfl)) ?_; (try simp only [Act.put, List.setIfInBounds_toArray, List.set_cons_zero, List.set_cons_succ]))
        iterate 3 (refine wpG_take rfl (by rfl) (by intro w' hSw; (try dsimp only [MB, Mem, cellsAt] at hSw); go_simp; (try with_reducible rfl)) ?_; (try simp only [Act.put, List.setIfInBounds_toArray, List.set_cons_zero, List.set_cons_succ]))
        (refine wpG_nil ?_)
        intro G w7 hG hSw hbx hsz
        obtain ⟨g, eg, hlg, hbm⟩ := box_one hG hbx 21 (by simp) (vs := [.int .i64 0, .int .i64 0, .int .i64 0, .slice none 0 0]) rfl
        simp only [putAll, eg, dstOf, ptrOf, List.getElem?_toArray, List.getElem?_cons_zero, List.getElem?_cons_succ, Option.bind_some, Act.put, List.setIfInBounds_toArray, List.set_cons_zero, List.set_cons_succ]
        clear hSb hbx hG eg hc
        have hF := hbm
        simp only [Mem, cellsAt, Nat.zero_add, Nat.reduceAdd, and_true] at hF
        (refine wpOps_go rfl ?_; go_simp)
        have m1 := Mem.set (k := 0) (v := .int .i64 x6) (fun p hp => by cases hp) hbm
        have m2 := Mem.set (k := 1) (v := .int .i64 x1) (fun p hp => by cases hp) m1
        have m3 := Mem.set (k := 2) (v := .int .i64 (x2 + 256 * x3)) (fun p hp => by cases hp) m2
        have m4 := Mem.set (k := 3) (v := .slice none 0 0) (fun p hp => by cases hp) m3
        simp only [List.set_cons_zero, List.set_cons_succ] at m4
        have hb8 := (((hSw.2.2.setCell (p := ⟨g, 0, none⟩) hlg (.int .i64 x6)).setCell (p := ⟨g, 1, none⟩) hlg (.int .i64 x1)).setCell (p := ⟨g, 2, none⟩) hlg (.int .i64 (x2 + 256 * x3))).setCell (p := ⟨g, 3, none⟩) hlg (.slice none 0 0)
        clear m1 m2 m3 hF hSw hbm hsz
        generalize (((w7.setCell ⟨g, 0, none⟩ (.int .i64 x6)).setCell ⟨g, 1, none⟩ (.int .i64 x1)).setCell ⟨g, 2, none⟩ (.int .i64 (x2 + 256 * x3))).setCell ⟨g, 3, none⟩ (.slice none 0 0) = w8 at m4 hb8 ⊢
        refine wpOps_none ?_
        have HM8 := Lib.hid m4
        have HB8 := Lib.hid hb8
        have HG8 : Hid (g < w8.heap.size) := m4.1.1
        have HLg : Hid (wo.heap.size ≤ g) := hlg
        have HR8 := Lib.hid (HRw.out.later hb8)
        obtain ⟨N0, hN0⟩ : ∃ N0 : Nat, x4 + 256 * x5 = (N0 : Int) := ⟨(x4 + 256 * x5).toNat, by omega⟩
        obtain ⟨ys, hys⟩ : ∃ ys, zs.drop (p + 6) = ys := ⟨_, rfl⟩
        have hyl : ys.length = n - (p + 6) := by rw [← hys, List.length_drop, HZL.out]
        obtain ⟨sz, hsz⟩ : ∃ sz, min N0 (n - (p + 6)) = sz := ⟨_, rfl⟩
        have HYS := Lib.hid (And.intro hys (And.intro hyl hsz))
        have HN0 := Lib.hid (And.intro hN0 (show N0 < 65536 by omega))
        clear m4 hb8 hlg hys hyl hsz b0 b1 b2 b3
        go_wp2_with (first |
          (go_at_call 139; (with_reducible refine (HA4.out _ HR8.out).mono ?_); rintro e w9 ⟨rfl, rfl⟩) |
          (go_at_call 139; (with_reducible refine (HA5.out _ HR8.out).mono ?_); rintro e w9 ⟨rfl, rfl⟩))
        go_loopw [4, 7] (fun i k wx => RInRel wo w8 g (p + 6) sz x6 x1 (x2 + 256 * x3) ys i k wx) (fun _ k _ => sz - (intOf k).toNat)
        case atStart => exact ⟨0, none, 0, Nat.zero_le _, by first | rfl | go_num, rfl, HM8.out, by simpa using ownN_nil _ _ _ _, HB8.out, Nat.le_refl _⟩
        case round =>
          rename World => wx
          obtain ⟨q, ao, dc, hq, rfl, rfl, hmx, hod, hbx, hsx⟩ := hrel
          have HOd := Lib.hid hod
          have HMx := Lib.hid hmx
          have hF := hmx
          simp only [Mem, cellsAt, Nat.zero_add, Nat.reduceAdd, and_true] at hF
          clear hod hmx
          obtain ⟨pq, hpq⟩ : ∃ pq, p + 6 + q = pq := ⟨_, rfl⟩
          rw [hpq] at ⊢
          by_cases hqs : q < sz
          · have i1 : (q : Int) < (N0 : Int) := by have := HYS.out.2.2; omega
            have i2 : (pq : Int) < (n : Int) := by have := HYS.out.2.2; omega
            have i3 : 0 ≤ (pq : Int) := by omega
            obtain ⟨y, hy⟩ : ∃ y, ys[q]? = some y := ⟨_, List.getElem?_eq_getElem (by have := HYS.out.2.1; have := HYS.out.2.2; omega)⟩
            have hcy := ((H.out.later hB).later hbx).cells _ rfl pq (.int .u8 y) (by rw [List.getElem?_map, ← hpq, ← List.getElem?_drop, HYS.out.1, hy]; rfl)
            have hcy2 := hcy.2
            simp only at hcy2
            have w8' : IntKind.i64.wrap ((pq : Int) + 1) = ((pq + 1 : Nat) : Int) := by rw [IntKind.wrap_i64]; have := HN.out; omega
            have w9' : IntKind.i64.wrap ((q : Int) + 1) = ((q + 1 : Nat) : Int) := by rw [IntKind.wrap_i64]; have := HN0.out.2; have := HYS.out.2.2; omega
            have HY := Lib.hid hy
            have HQ := Lib.hid (And.intro HN0.out.2 (show q < 65536 by have := HYS.out.2.2; have := HN0.out.2; omega))
            have hbb : b < wo.heap.size := World.block_lt_of_cell? wo ⟨b, off + pq, none⟩ (((H.out.later hB).cells _ rfl pq (.int .u8 y) (by rw [List.getElem?_map, ← hpq, ← List.getElem?_drop, HYS.out.1, hy]; rfl)).2)
            have HBQ : Hid (Below wx.heap.size wx (wx.alloc (.cells #[.int .u8 y] 5)).drew) := (below_alloc wx _).drew
            have HXr := Lib.hid (row_new wx.drew #[.int .u8 y] 5 1 1 1 rfl (Nat.le_refl _) (by intro u hu; simp at hu; subst hu; rfl))
            have HMq := Lib.hid (Mem.later HBQ.out HMx.out)
            have HBw := Lib.hid (bl_then hbx HBQ.out)
            have HPQ := Lib.hid hpq
            clear hcy hy hpq
            go_wp2
            refine wp_fork (fun x => x.cell? ⟨b, off + pq, none⟩ = some (.int .u8 y)) [1, 6, 7, 9] (nodes [0, 2, 3, 4, 5] (.fork 1 6 (nodes [6, 7, 8, 9] .leaf) (nodes [1, 7, 8, 9] .leaf))) (by kernel_rfl) (by kernel_rfl) hcy2 (fun hHeld => ?_)
            iterate 5 (refine wpF_take rfl (by rfl) (by rfl) (by intro w' hSw; (try dsimp only [Mem, cellsAt] at hSw); go_simp; (try with_reducible rfl)) (by assumption) ?_; (try simp only [Act.put, List.setIfInBounds_toArray, List.set_cons_zero, List.set_cons_succ]))
            (refine wpF_fork rfl rfl (fun K hK => ?_) (fun K hK => ?_) <;> go_simp)
            · (refine hK.out _ _ _ (fun _ h => h) (hHeld) (fun hHeld => ?_); clear hK; clear K; (try simp only [Act.put, List.setIfInBounds_toArray, List.set_cons_zero, List.set_cons_succ]))
              (refine wpF_step rfl (by rfl) (fun K hK => ?_); go_simp)
              (refine hK.out _ _ _ (fun _ h => h) (al_cell23 hHeld _) (fun hHeld => ?_); clear hK; clear K; (try simp only [Act.put, List.setIfInBounds_toArray, List.set_cons_zero, List.set_cons_succ]))
              (refine wpF_step rfl (by rfl) (fun K hK => ?_))
              refine step_appN eltU8 _ rfl _ _ rfl w8.heap.size (by simp; omega) ao q dc _ rfl (HOd.out.later HBQ.out) _ 1 1 _ rfl HXr.out (fun _ => by decide) (by have := HN.out; have := HQ.out.1; have := HQ.out.2; omega) ?_
              intro g2 cp2 w10 row hown10 hgrow10 hrow10
              have hlt10 := own_row_lt HOd.out hrow10
              have hm10 := Mem.grown hgrow10 (fun p hp k hk => by simp at hp; subst hp; have := (hlt10 k hk).1; have := HG8.out; simp; omega) HMq.out
              have hB10 := below_grown HBw.out hgrow10 (fun k hk => by have := (hlt10 k hk).1; have := HG8.out; have := HLg.out; omega)
              have hsz10 := hgrow10.size
              have hO10 := ownsRow_set23 (k := 3) (v := .slice (some ⟨g2, 0, none⟩) (q + 1) cp2) hown10 HG8.out
              have hM10 := Mem.set (k := 3) (v := .slice (some ⟨g2, 0, none⟩) (q + 1) cp2) (fun p hp => by cases hp) hm10
              have hB11 := hB10.setCell (p := ⟨g, 3, none⟩) HLg.out (.slice (some ⟨g2, 0, none⟩) (q + 1) cp2)
              have HEnd := Lib.hid (And.intro hO10 (And.intro hM10 (And.intro hB11 hsz10)))
              have hF10 := hm10
              simp only [Mem, cellsAt, Nat.zero_add, Nat.reduceAdd, and_true] at hF10
              (refine hK.out _ _ _ (fun _ h => h) (grown_cell hgrow10 hHeld (fun k hk => by have := (hlt10 k hk).1; have := HG8.out; have := HLg.out; omega)) (fun hHeld => ?_); clear hK; clear K; (try simp only [Act.put, List.setIfInBounds_toArray, List.set_cons_zero, List.set_cons_succ]))
              clear hown10 hgrow10 hrow10 hlt10 hm10 hB10 hsz10 hO10 hM10 hB11
              iterate 1 (refine wpF_take rfl (by rfl) (by rfl) (by intro w' hSw; (try dsimp only [Mem, cellsAt] at hSw); go_simp; (try with_reducible rfl)) (by assumption) ?_; (try simp only [Act.put, List.setIfInBounds_toArray, List.set_cons_zero, List.set_cons_succ]))
              (refine wpF_step rfl (by rfl) (fun K hK => ?_); go_simp)
              (refine hK.out _ _ _ (fun _ h => h) (setCell_cell hHeld (by have := HLg.out; omega)) (fun hHeld => ?_); clear hK; clear K; (try simp only [Act.put, List.setIfInBounds_toArray, List.set_cons_zero, List.set_cons_succ]))
              (refine wpF_nil ?_)
              go_wp2
              refine ⟨⟨q + 1, some ⟨g2, 0, none⟩, cp2, by omega, by (have := HPQ.out; subst this; first | rfl | go_num | (congr 1)), by first | rfl | go_num, HEnd.out.2.1, ?_, HEnd.out.2.2.1, by have := HEnd.out.2.2.2; simp at this ⊢; omega⟩, by simp [intOf]; omega⟩
              have e : ys.take (q + 1) = ys.take q ++ [y] := by rw [List.take_add_one, HY.out]; rfl
              rw [e, List.map_append]
              exact .inr ⟨g2, rfl, HEnd.out.1⟩
            · (refine hK.out _ _ _ (fun _ h => h) (al_cell23 hHeld _) (fun hHeld => ?_); clear hK; clear K; (try simp only [Act.put, List.setIfInBounds_toArray, List.set_cons_zero, List.set_cons_succ]))
              (refine wpF_step rfl (by rfl) (fun K hK => ?_); go_simp)
              (refine hK.out _ _ _ (fun _ h => h) (hHeld) (fun hHeld => ?_); clear hK; clear K; (try simp only [Act.put, List.setIfInBounds_toArray, List.set_cons_zero, List.set_cons_succ]))
              (refine wpF_step rfl (by rfl) (fun K hK => ?_))
              refine step_appN eltU8 _ rfl _ _ rfl w8.heap.size (by simp; omega) ao q dc _ rfl (HOd.out.later HBQ.out) _ 1 1 _ rfl HXr.out (fun _ => by decide) (by have := HN.out; have := HQ.out.1; have := HQ.out.2; omega) ?_
              intro g2 cp2 w10 row hown10 hgrow10 hrow10
              have hlt10 := own_row_lt HOd.out hrow10
              have hm10 := Mem.grown hgrow10 (fun p hp k hk => by simp at hp; subst hp; have := (hlt10 k hk).1; have := HG8.out; simp; omega) HMq.out
              have hB10 := below_grown HBw.out hgrow10 (fun k hk => by have := (hlt10 k hk).1; have := HG8.out; have := HLg.out; omega)
              have hsz10 := hgrow10.size
              have hO10 := ownsRow_set23 (k := 3) (v := .slice (some ⟨g2, 0, none⟩) (q + 1) cp2) hown10 HG8.out
              have hM10 := Mem.set (k := 3) (v := .slice (some ⟨g2, 0, none⟩) (q + 1) cp2) (fun p hp => by cases hp) hm10
              have hB11 := hB10.setCell (p := ⟨g, 3, none⟩) HLg.out (.slice (some ⟨g2, 0, none⟩) (q + 1) cp2)
              have HEnd := Lib.hid (And.intro hO10 (And.intro hM10 (And.intro hB11 hsz10)))
              have hF10 := hm10
              simp only [Mem, cellsAt, Nat.zero_add, Nat.reduceAdd, and_true] at hF10
              (refine hK.out _ _ _ (fun _ h => h) (grown_cell hgrow10 hHeld (fun k hk => by have := (hlt10 k hk).1; have := HG8.out; have := HLg.out; omega)) (fun hHeld => ?_); clear hK; clear K; (try simp only [Act.put, List.setIfInBounds_toArray, List.set_cons_zero, List.set_cons_succ]))
              clear hown10 hgrow10 hrow10 hlt10 hm10 hB10 hsz10 hO10 hM10 hB11
              iterate 1 (refine wpF_take rfl (by rfl) (by rfl) (by intro w' hSw; (try dsimp only [Mem, cellsAt] at hSw); go_simp; (try with_reducible rfl)) (by assumption) ?_; (try simp only [Act.put, List.setIfInBounds_toArray, List.set_cons_zero, List.set_cons_succ]))
              (refine wpF_step rfl (by rfl) (fun K hK => ?_); go_simp)
              (refine hK.out _ _ _ (fun _ h => h) (setCell_cell hHeld (by have := HLg.out; omega)) (fun hHeld => ?_); clear hK; clear K; (try simp only [Act.put, List.setIfInBounds_toArray, List.set_cons_zero, List.set_cons_succ]))
              (refine wpF_nil ?_)
              go_wp2
              refine ⟨⟨q + 1, some ⟨g2, 0, none⟩, cp2, by omega, by (have := HPQ.out; subst this; first | rfl | go_num | (congr 1)), by first | rfl | go_num, HEnd.out.2.1, ?_, HEnd.out.2.2.1, by have := HEnd.out.2.2.2; simp at this ⊢; omega⟩, by simp [intOf]; omega⟩
              have e : ys.take (q + 1) = ys.take q ++ [y] := by rw [List.take_add_one, HY.out]; rfl
              rw [e, List.map_append]
              exact .inr ⟨g2, rfl, HEnd.out.1⟩
          · obtain rfl : q = sz := by omega
            obtain ⟨s, hs⟩ : ∃ s : Stp, s = ⟨x6, x1, x2 + 256 * x3, ao, q, dc, ys.take q⟩ := ⟨_, rfl⟩
            have hrs := row_stpR wx s
            have hso : StOk wx s := by
              have hb6 : 0 ≤ x6 ∧ x6 < 256 := by have := HX.out.2.2.2.2.2.2; have := atP_b HZ.out p; rw [HX.out.1] at this; omega
              have hb1 := atP_b HZ.out (p + 1)
              have hb2 := atP_b HZ.out (p + 2)
              have hb3 := atP_b HZ.out (p + 3)
              rw [HX.out.2.1] at hb1
              rw [HX.out.2.2.1] at hb2
              rw [HX.out.2.2.2.1] at hb3
              rw [hs]
              exact ⟨HOd.out.row (by intro u hu; obtain ⟨z, _, rfl⟩ := List.mem_map.1 hu; rfl), bytesP_take (HYS.out.1 ▸ bytesP_drop HZ.out _) _, by simp only; omega, by simp only; omega, by simp only; omega⟩
            have hps : psOf s = oneP (zs.drop p) := by
              have hsz : szP (zs.drop p) = q := by
                unfold szP
                rw [atP_drop, atP_drop, HX.out.2.2.2.2.1, HX.out.2.2.2.2.2.1, HN0.out.1, List.length_drop, HZL.out]
                have := HYS.out.2.2
                simp only [Int.toNat_natCast]
                omega
              rw [hs]
              unfold psOf oneP
              rw [hsz, atP_drop, atP_drop, atP_drop, atP_drop, Nat.add_zero, HX.out.1, HX.out.2.1, HX.out.2.2.1, HX.out.2.2.2.1, HX.out.2.2.2.2.2.2, List.drop_drop, HYS.out.1]
            have hget : (L ++ [s]).map psOf ++ getP (400 - (L ++ [s]).length) (zs.drop pq) = getP 400 zs := by
              have hsz : szP (zs.drop p) = q := by
                unfold szP
                rw [atP_drop, atP_drop, HX.out.2.2.2.2.1, HX.out.2.2.2.2.2.1, HN0.out.1, List.length_drop, HZL.out]
                have := HYS.out.2.2
                simp only [Int.toNat_natCast]
                omega
              rw [← HG.out, show 400 - ln = 400 - (ln + 1) + 1 by omega, getP_ne _ (zs.drop p) (by rw [List.length_drop, HZL.out]; omega), List.map_append, List.append_assoc, List.length_append, HLN.out, ← hps, hsz, List.drop_drop, ← hpq]
              rw [show p + 6 + q = p + (6 + q) by omega]
              rfl
            have HGET := Lib.hid hget
            have HSO := Lib.hid hso
            have HSD := Lib.hid (show s.ao = ao ∧ s.m = q by rw [hs]; exact ⟨rfl, rfl⟩)
            rw [show s.k = x6 by rw [hs], show s.p = x1 by rw [hs], show s.n = x2 + 256 * x3 by rw [hs], show s.ao = ao by rw [hs], show s.m = q by rw [hs], show s.c = dc by rw [hs]] at hrs
            have HRS := Lib.hid hrs
            have HGD := Lib.hid (show ∀ ad, ao = some ad → w8.heap.size ≤ ad.block from fun ad ha => by
              rcases HOd.out with ⟨h, _⟩ | ⟨gg, h1, h2⟩
              · rw [h] at ha; cases ha
              · rw [h1] at ha
                cases ha
                exact (h2.lt gg rfl).1)
            have HPQ := Lib.hid hpq
            have hBx := bl_then hB hbx
            clear hrs hso hps hget hs hpq
            by_cases hqN : q < N0
            · have i1 : (q : Int) < (N0 : Int) := by omega
              have i2 : ¬ (pq : Int) < (n : Int) := by have := HYS.out.2.2; have := HPQ.out; omega
              go_wp2_with (refine wpList_appM eltStpR _ rfl (.tmp 72) (.tmp 74) rfl w.heap.size (bl_al hBx _).size lo ln cap (stsL L) rfl (HO.out.later (bl_al hbx _)) (some ⟨wx.heap.size, 0, none⟩) 1 1 (stL s) rfl HRS.out (by decide) (by omega) ?_; intro g4 cap4 w10 row hown10 hgrow10 hrow10 hor10; have HE := Lib.hid (And.intro hown10 (And.intro hgrow10 (And.intro hrow10 hor10))); clear hown10 hgrow10 hrow10 hor10)
              refine ⟨⟨pq, some ⟨g4, 0, none⟩, cap4, L ++ [s], by have := HPQ.out; have := HYS.out.2.2; omega, rfl, by rw [List.length_append, HLN.out]; rfl, by rw [List.length_append, HLN.out]; simp; omega, HGET.out, ?_, ?_, ?_, ?_⟩, by simp only [sliceLen]; omega⟩
              · rw [List.length_append, HLN.out, stsL_app]
                have h7 := HE.out.1
                have e : stsL [s] = stL s := by simp [stsL]
                rw [e]
                exact .inr ⟨g4, rfl, h7⟩
              · have hlt10 := own_row_lt HO.out HE.out.2.2.1
                intro t ht
                rcases List.mem_append.1 ht with ht | ht
                · have h1 := (HOK.out t ht).later (bl_al hbx (.cells #[.int .i64 x6, .int .i64 x1, .int .i64 (x2 + 256 * x3), .slice ao q dc] 104))
                  exact ⟨h1.row.grown HE.out.2.1 (fun ad ha hne k hk => HAP.out t ht ad ha (by intro e; rw [e] at hne; exact hne rfl) k (HE.out.2.2.1 k hk)), h1.by_, h1.ik, h1.ip, h1.iN⟩
                · simp at ht
                  subst ht
                  have h1 := HSO.out.later (below_alloc wx (.cells #[.int .i64 x6, .int .i64 x1, .int .i64 (x2 + 256 * x3), .slice ao q dc] 104))
                  refine ⟨h1.row.grown HE.out.2.1 (fun ad ha hne k hk => ?_), h1.by_, h1.ik, h1.ip, h1.iN⟩
                  have h2 := (hlt10 k hk).2
                  have h3 := HGD.out ad (by rw [← HSD.out.1]; exact ha)
                  have h4 := HG8.out
                  have h5 := HLg.out
                  omega
              · intro t ht ad ha hd gg hgg
                simp only [Option.some.injEq, Addr.mk.injEq, and_true] at hgg
                subst hgg
                rcases List.mem_append.1 ht with ht | ht
                · rcases HE.out.2.2.2 with hor | hor
                  · exact HAP.out t ht ad ha hd g4 hor
                  · have h1 := (HOK.out t ht).row.lt ad ha (by intro e; exact hd (List.map_eq_nil_iff.1 e))
                    have h2 := hbx.size
                    simp at hor
                    omega
                · simp at ht
                  subst ht
                  have h3 := HGD.out ad (by rw [← HSD.out.1]; exact ha)
                  have h6 := HSO.out.row.lt ad ha (by intro e; exact hd (List.map_eq_nil_iff.1 e))
                  rcases HE.out.2.2.2 with hor | hor
                  · have h7 := HO.out
                    rw [hor] at h7
                    have h8 := h7.lt.2
                    have h4 := HG8.out
                    have h5 := HLg.out
                    omega
                  · simp at hor
                    omega
              · have hlt10 := own_row_lt HO.out HE.out.2.2.1
                exact below_grown (bl_al hBx _) HE.out.2.1 (fun k hk => (hlt10 k hk).1)
            · have i1 : ¬ (q : Int) < (N0 : Int) := by omega
              go_wp2_with (refine wpList_appM eltStpR _ rfl (.tmp 72) (.tmp 74) rfl w.heap.size (bl_al hBx _).size lo ln cap (stsL L) rfl (HO.out.later (bl_al hbx _)) (some ⟨wx.heap.size, 0, none⟩) 1 1 (stL s) rfl HRS.out (by decide) (by omega) ?_; intro g4 cap4 w10 row hown10 hgrow10 hrow10 hor10; have HE := Lib.hid (And.intro hown10 (And.intro hgrow10 (And.intro hrow10 hor10))); clear hown10 hgrow10 hrow10 hor10)
              refine ⟨⟨pq, some ⟨g4, 0, none⟩, cap4, L ++ [s], by have := HPQ.out; have := HYS.out.2.2; omega, rfl, by rw [List.length_append, HLN.out]; rfl, by rw [List.length_append, HLN.out]; simp; omega, HGET.out, ?_, ?_, ?_, ?_⟩, by simp only [sliceLen]; omega⟩
              · rw [List.length_append, HLN.out, stsL_app]
                have h7 := HE.out.1
                have e : stsL [s] = stL s := by simp [stsL]
                rw [e]
                exact .inr ⟨g4, rfl, h7⟩
              · have hlt10 := own_row_lt HO.out HE.out.2.2.1
                intro t ht
                rcases List.mem_append.1 ht with ht | ht
                · have h1 := (HOK.out t ht).later (bl_al hbx (.cells #[.int .i64 x6, .int .i64 x1, .int .i64 (x2 + 256 * x3), .slice ao q dc] 104))
                  exact ⟨h1.row.grown HE.out.2.1 (fun ad ha hne k hk => HAP.out t ht ad ha (by intro e; rw [e] at hne; exact hne rfl) k (HE.out.2.2.1 k hk)), h1.by_, h1.ik, h1.ip, h1.iN⟩
                · simp at ht
                  subst ht
                  have h1 := HSO.out.later (below_alloc wx (.cells #[.int .i64 x6, .int .i64 x1, .int .i64 (x2 + 256 * x3), .slice ao q dc] 104))
                  refine ⟨h1.row.grown HE.out.2.1 (fun ad ha hne k hk => ?_), h1.by_, h1.ik, h1.ip, h1.iN⟩
                  have h2 := (hlt10 k hk).2
                  have h3 := HGD.out ad (by rw [← HSD.out.1]; exact ha)
                  have h4 := HG8.out
                  have h5 := HLg.out
                  omega
              · intro t ht ad ha hd gg hgg
                simp only [Option.some.injEq, Addr.mk.injEq, and_true] at hgg
                subst hgg
                rcases List.mem_append.1 ht with ht | ht
                · rcases HE.out.2.2.2 with hor | hor
                  · exact HAP.out t ht ad ha hd g4 hor
                  · have h1 := (HOK.out t ht).row.lt ad ha (by intro e; exact hd (List.map_eq_nil_iff.1 e))
                    have h2 := hbx.size
                    simp at hor
                    omega
                · simp at ht
                  subst ht
                  have h3 := HGD.out ad (by rw [← HSD.out.1]; exact ha)
                  have h6 := HSO.out.row.lt ad ha (by intro e; exact hd (List.map_eq_nil_iff.1 e))
                  rcases HE.out.2.2.2 with hor | hor
                  · have h7 := HO.out
                    rw [hor] at h7
                    have h8 := h7.lt.2
                    have h4 := HG8.out
                    have h5 := HLg.out
                    omega
                  · simp at hor
                    omega
              · have hlt10 := own_row_lt HO.out HE.out.2.2.1
                exact below_grown (bl_al hBx _) HE.out.2.1 (fun k hk => (hlt10 k hk).1)
      · have hlt : ¬ (ln : Int) < 400 := by omega
        obtain rfl : ln = 400 := by omega
        have hg := HG.out
        have e0 : getP (400 - 400) (zs.drop p) = [] := rfl
        rw [e0, List.append_nil] at hg
        have hS : Sts wo lo 400 cap L := ⟨HO.out.row (stsL_one L), HOK.out⟩
        have HS := Lib.hid (And.intro hg hS)
        clear hg e0 hS
        go_wp2
        go_ret
        exact ⟨lo, cap, L, by (rw [HLN.out] <;> rfl), by rw [HLN.out]; exact HS.out.2, HS.out.1, hB⟩
    · have hpi : ¬ (p : Int) < (n : Int) := by omega
      have hg := HG.out
      rw [List.drop_of_length_le (by have := HZL.out; omega), getP_nil, List.append_nil] at hg
      have hS : Sts wo lo ln cap L := ⟨HO.out.row (stsL_one L), HOK.out⟩
      have HS := Lib.hid (And.intro hg hS)
      clear hg hS
      go_wp2
      go_ret
      exact ⟨lo, cap, L, by (rw [HLN.out] <;> rfl), by rw [HLN.out]; exact HS.out.2, HS.out.1, hB⟩
end Go.Proofs.YtpdgeiflmnhkfaaDoor
