/- Both: a region that draws its order: two operations of which either may come up first (a call, and a slice that is built), walked once. (hM) Merged: Both, Aw16, Ru5, Ru6, Ru7. -/
import Derived.Test.YtlhdfmaekbnhaaaGreatDoorFork
import Derived.Test.YtlhdfmaekbnhaaaGreatDoorHd4
import Derived.Test.YtlhdfmaekbnhaaaGreatDoorNq
import Derived.Test.YtlhdfmaekbnhaaaGreatDoorRu4
import Derived.Test.YtlhdfmaekbnhaaaGreatDoorAt
/- Both: a region that draws its order: two operations of which either may come up first (a call, and a slice that is built), walked once. -/
namespace Go.Proofs.YtlhdfmaekbnhaaaGreatDoor
set_option linter.unusedVariables false
set_option linter.unusedSimpArgs false
open Go.RowKit

/-- from every world that meets S the operation yields a value, and comes to a world, of which R tells -/
def RunsTo (P : Program) (ops : Array Oper) (Q : Exit → Act → World → Prop) (S : World → Prop) (o : Oper) (d : Tmp) (R : Value → World → Prop) (a : Act) : Prop :=
  ∀ x, S x → ∀ K : Act → World → Prop, (∀ v x', R v x' → Below x.heap.size x x' → K (a.put (some d) v) x') → if Region.wanted o (yielded ops a.tmps) = true then Oper.wp P o a x K Q else K (a.put o.dst undef) x
theorem bl_both {w x y : World} (h : Below w.heap.size w x) (k : Below x.heap.size x y) : Below w.heap.size w y := h.trans (k.mono h.size)
theorem put_swap (a : Act) (d e : Tmp) (u v : Value) (h : d ≠ e) : (a.put (some e) v).put (some d) u = (a.put (some d) u).put (some e) v := by
  simp only [Act.put]
  congr 1
  rw [Array.setIfInBounds_comm _ _ h.symm]

section
variable {P : Program} {ops : List Oper} {Q : Exit → Act → World → Prop} {S : World → Prop} {bad : List Nat} {rest : Tree} {a : Act} {w : World} {i j : Nat} {o o' : Oper}
theorem wpF_yield {v : Value} (ho : ops[i]? = some o) (hb : bad.contains i = false) (hy : YieldsIf P ops.toArray S o v a) (hS : S w) (h : wpF P ops.toArray Q bad rest S (a.put o.dst v) w) : wpF P ops.toArray Q bad (.node i rest) S a w := by
  unfold wpF
  rw [if_neg (by rw [hb]; decide)]
  exact ⟨o, v, by simpa using ho, hy, hS, h⟩
theorem wpF_pass (ho : ops[i]? = some o) (hb : bad.contains i = false) (hw : Region.wanted o (yielded ops.toArray a.tmps) = false) (hS : S w)
    (h : wpF P ops.toArray Q bad rest S (a.put o.dst undef) w) : wpF P ops.toArray Q bad (.node i rest) S a w := by
  unfold wpF
  rw [if_neg (by rw [hb]; decide)]
  exact ⟨o, undef, by simpa using ho, .inr ⟨hw, rfl⟩, hS, h⟩
theorem wpF_both (di dj : Tmp) (Ri Rj : Value → World → Prop) (ho : ops[i]? = some o) (ho' : ops[j]? = some o') (hbi : bad.contains i = true) (hbj : bad.contains j = true) (hne : di ≠ dj)
    (hRi : ∀ v x y, Ri v x → Below x.heap.size x y → Ri v y) (hRj : ∀ v x y, Rj v x → Below x.heap.size x y → Rj v y) (hS : ∀ x y, S x → Below x.heap.size x y → S y) (hSw : S w)
    (Yi : RunsTo P ops.toArray (QN Q) S o di Ri a) (Yi' : ∀ u, RunsTo P ops.toArray (QN Q) S o di Ri (a.put (some dj) u))
    (Yj : RunsTo P ops.toArray (QN Q) S o' dj Rj a) (Yj' : ∀ u, RunsTo P ops.toArray (QN Q) S o' dj Rj (a.put (some di) u))
    (hk : ∀ v u y, Ri v y → Rj u y → Below w.heap.size w y → S y → wpF P ops.toArray (QN Q) bad rest S ((a.put (some di) v).put (some dj) u) y) :
    wpF P ops.toArray (QN Q) bad (.fork i j (.node j rest) (.node i rest)) S a w := by
  refine wpF_fork ho ho' (fun K hK => (Yi w hSw K fun v x hv hb => hK.out _ _ _ (fun _ h => h) (hS _ _ hSw hb) fun hs => ?_)) (fun K hK => (Yj w hSw K fun u x hu hb => hK.out _ _ _ (fun _ h => h) (hS _ _ hSw hb) fun hs => ?_))
  · refine wpF_step ho' hbj fun K2 hK2 => (Yj' v x hs K2 fun u y hu hb2 => hK2.out _ _ _ (fun _ h => h) (hS _ _ hs hb2) fun hs2 => ?_)
    exact hk v u y (hRi _ _ _ hv hb2) hu (bl_both hb hb2) hs2
  · refine wpF_step ho hbi fun K2 hK2 => (Yi' u x hs K2 fun v y hv hb2 => hK2.out _ _ _ (fun _ h => h) (hS _ _ hs hb2) fun hs2 => ?_)
    rw [put_swap _ _ _ _ _ hne]
    exact hk v u y hv (hRj _ _ _ hu hb2) (bl_both hb hb2) hs2
end
end Go.Proofs.YtlhdfmaekbnhaaaGreatDoor

/- florinlaw16: the facts of its example's headers. -/
namespace Go.Proofs.YtlhdfmaekbnhaaaGreatDoor
set_option linter.unusedVariables false
set_option linter.unusedSimpArgs false
open Go.RowKit

def aw16a : Hd := ⟨0, fun _ => 0, fun _ => 0, 5, 545259519, 0⟩
def aw16I (i : Nat) : Int := [78, 243, 27, 23, 51, 202, 24, 211, 255, 228, 76, 87, 25, 69, 80, 98, 65, 253, 146, 186, 69, 231, 143, 35, 99, 89, 53, 22, 62, 55, 249, 92].getD i 0
def aw16h : Hd := ⟨0, aw16I, fun _ => 0, 6, 545259519, 0⟩
theorem aw16a_ok : HdOk aw16a := ⟨by decide, fun _ => (by decide : (0 : Int) ≤ 0 ∧ (0 : Int) < 256), fun _ => (by decide : (0 : Int) ≤ 0 ∧ (0 : Int) < 256), by decide, by decide, by decide⟩
theorem aw16I_b (i : Nat) : 0 ≤ aw16I i ∧ aw16I i < 256 := by
  by_cases h : i < 32
  · exact (by decide : ∀ i : Fin 32, 0 ≤ aw16I i ∧ aw16I i < 256) ⟨i, h⟩
  · unfold aw16I
    rw [List.getD_eq_getElem?_getD, List.getElem?_eq_none (by simp; omega)]
    simp
theorem aw16h_ok : HdOk aw16h := ⟨by decide, aw16I_b, fun _ => (by decide : (0 : Int) ≤ 0 ∧ (0 : Int) < 256), by decide, by decide, by decide⟩
set_option maxRecDepth 100000 in
theorem aw16_id : hl (idF aw16a) = hl aw16I := by decide +kernel
theorem aw16_arr : arr32 (idF aw16a) = arr32 aw16I := by
  unfold arr32
  rw [hl_cells, hl_cells, aw16_id]
set_option maxRecDepth 100000 in
theorem aw16_hit : mineB aw16h 545259519 0 = true := by decide +kernel
theorem aw16_try : tryH aw16h 0 = aw16h := tryH_zero aw16h_ok
theorem aw16_meets : meetsV (hashN (idF aw16h)) 545259519 545259519 = 0 := by
  have := aw16_hit
  unfold mineB at this
  rw [aw16_try] at this
  exact of_decide_eq_true this
/-- the example's header is mined at once -/
theorem aw16_mine (w : World) (hT : Tab w) : Calls Tryz.prog 23 #[hdV aw16h, .int .u32 545259519, .int .i64 200] w fun e w' => e = .returned (.tuple #[hdV aw16h, .bool true]) ∧ Below w.heap.size w w' := by
  refine (hmine_any aw16h aw16h_ok 545259519 (by omega) 200 200 rfl w hT).mono ?_
  rintro e w2 ⟨⟨k, hk, hno, hor⟩, hb⟩
  have hk0 : k = 0 := by
    rcases Nat.eq_zero_or_pos k with h | h
    · exact h
    · have := hno 0 h
      rw [aw16_hit] at this
      cases this
  subst hk0
  rcases hor with ⟨hk2, hyes, rfl⟩ | ⟨hk2, rfl⟩
  · exact ⟨by rw [aw16_try], hb⟩
  · omega
set_option maxRecDepth 100000 in
theorem build_aw16a (x : World) : (Instr.build 30 #[(3, .int .u32 5), (4, .int .u32 545259519)]).run Tryz.prog x = .ok (hdV aw16a) x := by kernel_rfl
set_option maxRecDepth 100000 in
theorem build_aw16h (x : World) : (Instr.build 30 #[(1, arr32 aw16I), (3, .int .u32 6), (4, .int .u32 545259519)]).run Tryz.prog x = .ok (hdV aw16h) x := by kernel_rfl
set_option maxRecDepth 100000 in
theorem bslice_hdr (h : Hd) (x : World) : (Instr.buildSlice 26 1 #[(0, hdV h)]).run Tryz.prog x = .ok (.slice (some ⟨x.heap.size, 0, none⟩) 1 1) (x.alloc (.cells (hdL h).toArray 30)) := by kernel_rfl
theorem srow_one (W : World) (h : Hd) : SRow (W.alloc (.cells (hdL h).toArray 30)) (some ⟨W.heap.size, 0, none⟩) 1 1 68 (fun _ => hdL h) := by
  refine ⟨fun _ _ => hdL_len h, Nat.le_refl _, fun e => (by cases e), ?_⟩
  intro ad ha i hi j u hu
  cases ha
  have h0 : i = 0 := by omega
  subst h0
  refine ⟨rfl, ?_⟩
  have hm := Mem.al (mem_nil W) (hdL h) 30
  simp only [Nat.zero_mul, Nat.zero_add]
  exact cellsAt_get (Mem.get hm (by simp)) hu
end Go.Proofs.YtlhdfmaekbnhaaaGreatDoor

/- Package rules: Check behind any chain, and of none. (hM) -/
namespace Go.Proofs.YtlhdfmaekbnhaaaGreatDoor
set_option linter.unusedVariables false
set_option linter.unusedSimpArgs false
open Go.RowKit

theorem rcheck_any (lim iv sp fu ix orp : Int) (ao : Option Addr) (n cp : Nat) (ht : Nat → Int) (ch : Nat → Nat → Int) (hlm : 0 ≤ lim ∧ lim < 4294967296) (hn : n ≤ 1000000) (h : Hd) (ho : HdOk h) (L : Nat → Hd) (hL : ∀ i, HdOk (L i)) (lo : Option Addr) (k lc : Nat) (hk : k + 1 ≤ 1000) (now : Int) (w : World) (hT : Tab w)
    (hp : SRow w ao n cp 33 (fun i => ckL (ht i) (ch i))) (hr : SRow w lo (k + 1) lc 68 (fun i => hdL (L i))) :
    Calls Tryz.prog 9 #[PV lim iv sp fu ix orp ao n cp, .slice lo (k + 1) lc, hdV h, .int .i64 now] w fun e w' => e = .returned (.int .i64 (checkV lim iv sp fu ix orp n ht ch L k h now)) ∧ Below w.heap.size w w' := by
  obtain ⟨b, off, rfl⟩ := hr.addr (by decide) (by omega)
  have hblt : b < w.heap.size := hr.lt (by decide) (by omega) _ rfl
  have key := check_of lim iv sp fu ix orp ao n cp ht ch h L b off k lc now w (saneV lim iv sp fu ix orp n) (hl h.p == hl (idF (L k))) (chainB lim iv sp fu ix orp n L k) (meetsV (hashN (idF h)) h.b lim)
    (checkN h.t (timesN (fun i => (L i).t) (k + 1)) now fu) (passV ht ch n ((k : Int) + 1) (idF h)) (idF h) (idF (L k)) (by omega)
    (Lib.hid fun x hb j v hv => (hb.cell (p := ⟨b, _, none⟩) hblt).trans (srow_at hr k (by omega) j v hv))
    (Lib.hid fun x => sane_any lim iv sp fu ix orp ao n cp hlm x)
    (Lib.hid fun x hb => hid_any (L k) (hL k) x (hT.later hb))
    (Lib.hid fun x hb => hid_any h ho x (hT.later hb))
    (neq_hash h.p (idF (L k)) _ rfl)
    (Lib.hid fun x hb => chainB_any lim iv sp fu ix orp ao n cp ht ch hlm L hL _ k lc (by omega) x (hr.later (by decide) hb))
    (Lib.hid fun x => meets_any (idF h) (idF_b h) h.b lim ho.b hlm x)
    (timesN (fun i => (L i).t) (k + 1))
    (Lib.hid fun x hb => times_any _ (k + 1) lc _ _ x (hr.later (by decide) hb) (heads_of L (k + 1)) (by omega))
    (Lib.hid fun x bo c' hrow => check_any h.t bo (k + 1) c' _ now fu x hrow (by omega) ho.t)
    (Lib.hid fun x hb => passes_any lim iv sp fu ix orp ao n cp ht ch _ (idF h) x (hp.later (by decide) hb) hn)
  unfold checkV
  exact key

set_option maxRecDepth 100000 in
set_option maxHeartbeats 4000000 in
/-- none stands on nothing -/
theorem check_nil (lim iv sp fu ix orp : Int) (ao : Option Addr) (n cp : Nat) (hlm : 0 ≤ lim ∧ lim < 4294967296) (h : Hd) (lo : Option Addr) (lc : Nat) (now : Int) (w : World) :
    Calls Tryz.prog 9 #[PV lim iv sp fu ix orp ao n cp, .slice lo 0 lc, hdV h, .int .i64 now] w fun e w' => e = .returned (.int .i64 15) ∧ Below w.heap.size w w' := by
  have HSa0 := fun (x : World) => sane_any lim iv sp fu ix orp ao n cp hlm x
  obtain ⟨S, hS⟩ : ∃ b, saneV lim iv sp fu ix orp n = b := ⟨_, rfl⟩
  rw [hS] at HSa0
  have HSa := Lib.hid HSa0
  have hM := Lib.hid (Mem.al (Mem.al (mem_nil w) [.int .u32 lim, .int .i64 iv, .int .i64 sp, .int .i64 fu, .int .i64 ix, .int .i64 orp, .slice ao n cp] 25) (hdL h) 30)
  have hB := bl_al (bl_al (Below.refl w.heap.size w) (.cells ([.int .u32 lim, .int .i64 iv, .int .i64 sp, .int .i64 fu, .int .i64 ix, .int .i64 orp, .slice ao n cp] : List Value).toArray 25)) (.cells (hdL h).toArray 30)
  simp only [World.size_alloc] at hM
  have hF : True := trivial
  clear HSa0 hS hlm
  cases S <;>
  (go_enter Tryz.func9, Tryz.ntmps9
   go_wp2_with (first |
      (refine Go.wpList_load_mid rfl 25 (.tmp 4) rfl w.heap.size 0 rfl [.int .u32 lim, .int .i64 iv, .int .i64 sp, .int .i64 fu, .int .i64 ix, .int .i64 orp, .slice ao n cp] _ (rangeAt_of (Mem.get hM.out (by simp))) Tryz.underlying25 rfl (by kernel_rfl) ?_) |
      (go_at_call 10; (with_reducible refine (HSa.out _).mono ?_); rintro e w1 ⟨rfl, hb⟩; have hB : Below w.heap.size w w1 := (by refine bl_then ?_ hb; (repeat (first | exact hB | refine bl_al ?_ _ | refine Below.setCell ?_ (by first | exact hgs | exact Nat.le_succ_of_le hgs | exact hgs2 | exact hgs3) _ | refine Below.drew ?_ | refine bl_drewN ?_ _))); (first | with_reducible have hM2 := Mem.later hb (hM.out) | with_reducible have hM2 := Mem.later hb (Mem.al (hM.out) _ _) | with_reducible have hM2 := Mem.later hb (Mem.al (Mem.al (hM.out) _ _) _ _) | with_reducible have hM2 := Mem.later hb (Mem.al (Mem.al (Mem.al (hM.out) _ _) _ _) _ _) | with_reducible have hM2 := Mem.later hb (Mem.al (Mem.al (Mem.al (Mem.al (hM.out) _ _) _ _) _ _) _ _) | with_reducible have hM2 := Mem.later hb (Mem.drew (hM.out)) | with_reducible have hM2 := Mem.later hb (Mem.drew (Mem.al (hM.out) _ _)) | with_reducible have hM2 := Mem.later hb (Mem.al (Mem.drew (hM.out)) _ _) | with_reducible have hM2 := Mem.later hb (Mem.al (Mem.drew (Mem.al (hM.out) _ _)) _ _) | with_reducible have hM2 := Mem.later hb (Mem.drew (Mem.al (Mem.al (hM.out) _ _) _ _)) | with_reducible have hM2 := Mem.later hb (Mem.al (Mem.al (Mem.drew (hM.out)) _ _) _ _) | with_reducible have hM2 := Mem.later hb (Mem.drew (Mem.drew (hM.out))) | with_reducible have hM2 := Mem.later hb (Mem.drew (Mem.al (Mem.drew (hM.out)) _ _)) | with_reducible have hM2 := Mem.later hb (Mem.drew (Mem.al (Mem.al (Mem.al (hM.out) _ _) _ _) _ _)) | with_reducible have hM2 := Mem.later hb (Mem.al (Mem.al (Mem.drew (Mem.al (hM.out) _ _)) _ _) _ _) | with_reducible have hM2 := Mem.later hb (Mem.drew (Mem.al (Mem.drew (Mem.al (hM.out) _ _)) _ _)) | with_reducible have hM2 := Mem.later hb (Mem.al (Mem.al (Mem.al (Mem.al (Mem.al (hM.out) _ _) _ _) _ _) _ _) _ _) | with_reducible have hM2 := Mem.later hb (Mem.al (Mem.al (Mem.al (Mem.al (Mem.al (Mem.al (hM.out) _ _) _ _) _ _) _ _) _ _) _ _) | with_reducible have hM2 := Mem.later hb (Mem.al (Mem.al (Mem.al (Mem.al (Mem.al (Mem.al (Mem.al (hM.out) _ _) _ _) _ _) _ _) _ _) _ _) _ _) | with_reducible have hM2 := Mem.later hb (Mem.al (Mem.al (Mem.al (Mem.al (Mem.al (Mem.al (Mem.al (Mem.al (hM.out) _ _) _ _) _ _) _ _) _ _) _ _) _ _) _ _)); (try simp only [World.size_alloc, size_drew] at hM2); clear hM; have hM := Lib.hid hM2; clear hF; have hF := hM2; (try simp only [Mem, cellsAt, World.size_alloc, Nat.zero_add, Nat.reduceAdd, and_true] at hF); clear hM2; clear hb; clear hF; have hF : True := trivial))
   go_ret
   exact ⟨rfl, hB⟩)
end Go.Proofs.YtlhdfmaekbnhaaaGreatDoor

/- Package rules: stands, Valid (made by gen_ru6.py). (hM) -/
namespace Go.Proofs.YtlhdfmaekbnhaaaGreatDoor
set_option linter.unusedVariables false
set_option linter.unusedSimpArgs false
open Go.RowKit

/-- what is told of a header on the first i of a chain -/
def stnd (lim iv sp fu ix orp : Int) (n : Nat) (ht : Nat → Int) (ch : Nat → Nat → Int) (L : Nat → Hd) (now : Int) (i : Nat) (h : Hd) : Int :=
  if i = 0 then beginsV lim iv sp fu ix orp n ht ch h else checkV lim iv sp fu ix orp n ht ch L (i - 1) h now

set_option maxRecDepth 100000 in
set_option maxHeartbeats 4000000 in
theorem stands_any (lim iv sp fu ix orp : Int) (ao : Option Addr) (n cp : Nat) (ht : Nat → Int) (ch : Nat → Nat → Int) (hlm : 0 ≤ lim ∧ lim < 4294967296) (hn : n ≤ 1000000) (hch : ∀ i j, 0 ≤ ch i j ∧ ch i j < 256) (h : Hd) (ho : HdOk h) (L : Nat → Hd) (hL : ∀ i, HdOk (L i)) (lo : Option Addr) (k lc : Nat) (hk : k ≤ 1000) (now : Int) (w : World) (hT : Tab w)
    (hp : SRow w ao n cp 33 (fun i => ckL (ht i) (ch i))) (hr : SRow w lo k lc 68 (fun i => hdL (L i))) :
    Calls Tryz.prog 35 #[PV lim iv sp fu ix orp ao n cp, .slice lo k lc, hdV h, .int .i64 now] w fun e w' => e = .returned (.int .i64 (stnd lim iv sp fu ix orp n ht ch L now k h)) ∧ Below w.heap.size w w' := by
  have hM := Lib.hid (Mem.al (Mem.al (mem_nil w) [.int .u32 lim, .int .i64 iv, .int .i64 sp, .int .i64 fu, .int .i64 ix, .int .i64 orp, .slice ao n cp] 25) (hdL h) 30)
  have hB := bl_al (bl_al (Below.refl w.heap.size w) (.cells ([.int .u32 lim, .int .i64 iv, .int .i64 sp, .int .i64 fu, .int .i64 ix, .int .i64 orp, .slice ao n cp] : List Value).toArray 25)) (.cells (hdL h).toArray 30)
  simp only [World.size_alloc] at hM
  have hF : True := trivial
  cases k with
  | zero =>
    have HBg0 := fun (x : World) (hb : Below w.heap.size w x) => begins_any lim iv sp fu ix orp ao n cp ht ch h ho x (hT.later hb) hlm (hp.later (by decide) hb) hch hn
    have hv : stnd lim iv sp fu ix orp n ht ch L now 0 h = beginsV lim iv sp fu ix orp n ht ch h := rfl
    rw [hv]
    obtain ⟨v, hv2⟩ : ∃ v, beginsV lim iv sp fu ix orp n ht ch h = v := ⟨_, rfl⟩
    rw [hv2] at HBg0 ⊢
    have HBg := Lib.hid HBg0
    clear HBg0 hv hv2 hp hr hch hT ho hL
    go_enter Tryz.func35, Tryz.ntmps35
    go_wp2_with (first |
      (refine Go.wpList_load_mid rfl 25 (.tmp 4) rfl w.heap.size 0 rfl [.int .u32 lim, .int .i64 iv, .int .i64 sp, .int .i64 fu, .int .i64 ix, .int .i64 orp, .slice ao n cp] _ (rangeAt_of (Mem.get hM.out (by simp))) Tryz.underlying25 rfl (by kernel_rfl) ?_) |
      (refine Go.wpList_load_mid rfl 30 (.tmp 6) rfl (w.heap.size + 1) 0 rfl (hdL h) _ (rangeAt_of (Mem.get hM.out (by simp))) Tryz.underlying30 rfl (by rw [hdL_len]; kernel_rfl) ?_) |
      (go_at_call 22; (with_reducible refine (HBg.out _ (by (repeat (first | exact hB | refine bl_al ?_ _ | refine Below.setCell ?_ (by first | exact hgs | exact Nat.le_succ_of_le hgs | exact hgs2 | exact hgs3) _ | refine Below.drew ?_ | refine bl_drewN ?_ _)))).mono ?_); rintro e w1 ⟨rfl, hb⟩; have hB : Below w.heap.size w w1 := (by refine bl_then ?_ hb; (repeat (first | exact hB | refine bl_al ?_ _ | refine Below.setCell ?_ (by first | exact hgs | exact Nat.le_succ_of_le hgs | exact hgs2 | exact hgs3) _ | refine Below.drew ?_ | refine bl_drewN ?_ _))); (first | with_reducible have hM2 := Mem.later hb (hM.out) | with_reducible have hM2 := Mem.later hb (Mem.al (hM.out) _ _) | with_reducible have hM2 := Mem.later hb (Mem.al (Mem.al (hM.out) _ _) _ _) | with_reducible have hM2 := Mem.later hb (Mem.al (Mem.al (Mem.al (hM.out) _ _) _ _) _ _) | with_reducible have hM2 := Mem.later hb (Mem.al (Mem.al (Mem.al (Mem.al (hM.out) _ _) _ _) _ _) _ _) | with_reducible have hM2 := Mem.later hb (Mem.drew (hM.out)) | with_reducible have hM2 := Mem.later hb (Mem.drew (Mem.al (hM.out) _ _)) | with_reducible have hM2 := Mem.later hb (Mem.al (Mem.drew (hM.out)) _ _) | with_reducible have hM2 := Mem.later hb (Mem.al (Mem.drew (Mem.al (hM.out) _ _)) _ _) | with_reducible have hM2 := Mem.later hb (Mem.drew (Mem.al (Mem.al (hM.out) _ _) _ _)) | with_reducible have hM2 := Mem.later hb (Mem.al (Mem.al (Mem.drew (hM.out)) _ _) _ _) | with_reducible have hM2 := Mem.later hb (Mem.drew (Mem.drew (hM.out))) | with_reducible have hM2 := Mem.later hb (Mem.drew (Mem.al (Mem.drew (hM.out)) _ _)) | with_reducible have hM2 := Mem.later hb (Mem.drew (Mem.al (Mem.al (Mem.al (hM.out) _ _) _ _) _ _)) | with_reducible have hM2 := Mem.later hb (Mem.al (Mem.al (Mem.drew (Mem.al (hM.out) _ _)) _ _) _ _) | with_reducible have hM2 := Mem.later hb (Mem.drew (Mem.al (Mem.drew (Mem.al (hM.out) _ _)) _ _)) | with_reducible have hM2 := Mem.later hb (Mem.al (Mem.al (Mem.al (Mem.al (Mem.al (hM.out) _ _) _ _) _ _) _ _) _ _) | with_reducible have hM2 := Mem.later hb (Mem.al (Mem.al (Mem.al (Mem.al (Mem.al (Mem.al (hM.out) _ _) _ _) _ _) _ _) _ _) _ _) | with_reducible have hM2 := Mem.later hb (Mem.al (Mem.al (Mem.al (Mem.al (Mem.al (Mem.al (Mem.al (hM.out) _ _) _ _) _ _) _ _) _ _) _ _) _ _) | with_reducible have hM2 := Mem.later hb (Mem.al (Mem.al (Mem.al (Mem.al (Mem.al (Mem.al (Mem.al (Mem.al (hM.out) _ _) _ _) _ _) _ _) _ _) _ _) _ _) _ _)); (try simp only [World.size_alloc, size_drew] at hM2); clear hM; have hM := Lib.hid hM2; clear hF; have hF := hM2; (try simp only [Mem, cellsAt, World.size_alloc, Nat.zero_add, Nat.reduceAdd, and_true] at hF); clear hM2; clear hb; clear hF; have hF : True := trivial))
    go_ret
    exact ⟨rfl, hB⟩
  | succ k =>
    have HCk0 := fun (x : World) (hb : Below w.heap.size w x) => rcheck_any lim iv sp fu ix orp ao n cp ht ch hlm hn h ho L hL lo k lc hk now x (hT.later hb) (hp.later (by decide) hb) (hr.later (by decide) hb)
    have hv : stnd lim iv sp fu ix orp n ht ch L now (k + 1) h = checkV lim iv sp fu ix orp n ht ch L k h now := rfl
    rw [hv]
    obtain ⟨v, hv2⟩ : ∃ v, checkV lim iv sp fu ix orp n ht ch L k h now = v := ⟨_, rfl⟩
    rw [hv2] at HCk0 ⊢
    have HCk := Lib.hid HCk0
    have g3 : (((k : Int) + 1) == 0) = false := by simp; omega
    clear HCk0 hv hv2 hp hr hch hT ho hL hk
    go_enter Tryz.func35, Tryz.ntmps35
    go_wp2_with (first |
      (refine Go.wpList_load_mid rfl 25 (.tmp 4) rfl w.heap.size 0 rfl [.int .u32 lim, .int .i64 iv, .int .i64 sp, .int .i64 fu, .int .i64 ix, .int .i64 orp, .slice ao n cp] _ (rangeAt_of (Mem.get hM.out (by simp))) Tryz.underlying25 rfl (by kernel_rfl) ?_) |
      (refine Go.wpList_load_mid rfl 30 (.tmp 6) rfl (w.heap.size + 1) 0 rfl (hdL h) _ (rangeAt_of (Mem.get hM.out (by simp))) Tryz.underlying30 rfl (by rw [hdL_len]; kernel_rfl) ?_) |
      (go_at_call 9; (with_reducible refine (HCk.out _ (by (repeat (first | exact hB | refine bl_al ?_ _ | refine Below.setCell ?_ (by first | exact hgs | exact Nat.le_succ_of_le hgs | exact hgs2 | exact hgs3) _ | refine Below.drew ?_ | refine bl_drewN ?_ _)))).mono ?_); rintro e w1 ⟨rfl, hb⟩; have hB : Below w.heap.size w w1 := (by refine bl_then ?_ hb; (repeat (first | exact hB | refine bl_al ?_ _ | refine Below.setCell ?_ (by first | exact hgs | exact Nat.le_succ_of_le hgs | exact hgs2 | exact hgs3) _ | refine Below.drew ?_ | refine bl_drewN ?_ _))); (first | with_reducible have hM2 := Mem.later hb (hM.out) | with_reducible have hM2 := Mem.later hb (Mem.al (hM.out) _ _) | with_reducible have hM2 := Mem.later hb (Mem.al (Mem.al (hM.out) _ _) _ _) | with_reducible have hM2 := Mem.later hb (Mem.al (Mem.al (Mem.al (hM.out) _ _) _ _) _ _) | with_reducible have hM2 := Mem.later hb (Mem.al (Mem.al (Mem.al (Mem.al (hM.out) _ _) _ _) _ _) _ _) | with_reducible have hM2 := Mem.later hb (Mem.drew (hM.out)) | with_reducible have hM2 := Mem.later hb (Mem.drew (Mem.al (hM.out) _ _)) | with_reducible have hM2 := Mem.later hb (Mem.al (Mem.drew (hM.out)) _ _) | with_reducible have hM2 := Mem.later hb (Mem.al (Mem.drew (Mem.al (hM.out) _ _)) _ _) | with_reducible have hM2 := Mem.later hb (Mem.drew (Mem.al (Mem.al (hM.out) _ _) _ _)) | with_reducible have hM2 := Mem.later hb (Mem.al (Mem.al (Mem.drew (hM.out)) _ _) _ _) | with_reducible have hM2 := Mem.later hb (Mem.drew (Mem.drew (hM.out))) | with_reducible have hM2 := Mem.later hb (Mem.drew (Mem.al (Mem.drew (hM.out)) _ _)) | with_reducible have hM2 := Mem.later hb (Mem.drew (Mem.al (Mem.al (Mem.al (hM.out) _ _) _ _) _ _)) | with_reducible have hM2 := Mem.later hb (Mem.al (Mem.al (Mem.drew (Mem.al (hM.out) _ _)) _ _) _ _) | with_reducible have hM2 := Mem.later hb (Mem.drew (Mem.al (Mem.drew (Mem.al (hM.out) _ _)) _ _)) | with_reducible have hM2 := Mem.later hb (Mem.al (Mem.al (Mem.al (Mem.al (Mem.al (hM.out) _ _) _ _) _ _) _ _) _ _) | with_reducible have hM2 := Mem.later hb (Mem.al (Mem.al (Mem.al (Mem.al (Mem.al (Mem.al (hM.out) _ _) _ _) _ _) _ _) _ _) _ _) | with_reducible have hM2 := Mem.later hb (Mem.al (Mem.al (Mem.al (Mem.al (Mem.al (Mem.al (Mem.al (hM.out) _ _) _ _) _ _) _ _) _ _) _ _) _ _) | with_reducible have hM2 := Mem.later hb (Mem.al (Mem.al (Mem.al (Mem.al (Mem.al (Mem.al (Mem.al (Mem.al (hM.out) _ _) _ _) _ _) _ _) _ _) _ _) _ _) _ _)); (try simp only [World.size_alloc, size_drew] at hM2); clear hM; have hM := Lib.hid hM2; clear hF; have hF := hM2; (try simp only [Mem, cellsAt, World.size_alloc, Nat.zero_add, Nat.reduceAdd, and_true] at hF); clear hM2; clear hb; clear hF; have hF : True := trivial))
    go_ret
    exact ⟨rfl, hB⟩

/-- the first m of n stand, and what is told of the next one -/
structure Vld (st : Nat → Int) (n m : Nat) (e : Int) : Prop where
  le : m ≤ n
  yes : ∀ i, i < m → st i = 0
  no : m < n → st m ≠ 0 ∧ e = st m
  all : m = n → e = 0
def VdRel (w : World) (P : List Value) (st : Nat → Int) (n : Nat) (i : Value) (wr : World) : Prop :=
  ∃ j : Nat, j ≤ n ∧ i = .int .i64 j ∧ (∀ i, i < j → st i = 0) ∧ Below w.heap.size w wr ∧ Mem wr [(w.heap.size, P)]

set_option maxRecDepth 100000 in
set_option maxHeartbeats 4000000 in
theorem valid_any (lim iv sp fu ix orp : Int) (ao : Option Addr) (n cp : Nat) (ht : Nat → Int) (ch : Nat → Nat → Int) (hlm : 0 ≤ lim ∧ lim < 4294967296) (hn : n ≤ 1000000) (hch : ∀ i j, 0 ≤ ch i j ∧ ch i j < 256) (L : Nat → Hd) (hL : ∀ i, HdOk (L i)) (lo : Option Addr) (k lc : Nat) (hk : k ≤ 1000) (now : Int) (w : World) (hT : Tab w)
    (hp : SRow w ao n cp 33 (fun i => ckL (ht i) (ch i))) (hr : SRow w lo k lc 68 (fun i => hdL (L i))) :
    Calls Tryz.prog 17 #[PV lim iv sp fu ix orp ao n cp, .slice lo k lc, .int .i64 now] w fun e w' => ∃ (m : Nat) (er : Int), e = .returned (.tuple #[.int .i64 m, .int .i64 er]) ∧ Vld (fun i => stnd lim iv sp fu ix orp n ht ch L now i (L i)) k m er ∧ Below w.heap.size w w' := by
  have HR := Lib.hid hr
  have HSt0 := Lib.hid (fun (x : World) (hb : Below w.heap.size w x) (j : Nat) (hj : j ≤ k) => stands_any lim iv sp fu ix orp ao n cp ht ch hlm hn hch (L j) (hL j) L hL lo j lc (by omega) now x (hT.later hb) (hp.later (by decide) hb) (srow_pre (hr.later (by decide) hb) j hj))
  have hM0 := Mem.al (mem_nil w) [.int .u32 lim, .int .i64 iv, .int .i64 sp, .int .i64 fu, .int .i64 ix, .int .i64 orp, .slice ao n cp] 25
  have HM00 := Lib.hid hM0
  have HB00 := Lib.hid (bl_al (Below.refl w.heap.size w) (.cells ([.int .u32 lim, .int .i64 iv, .int .i64 sp, .int .i64 fu, .int .i64 ix, .int .i64 orp, .slice ao n cp] : List Value).toArray 25))
  have HK := Lib.hid hk
  clear hr hM0 hp hT hk
  go_enter Tryz.func17, Tryz.ntmps17
  go_wp2
  go_loopw [13] (fun i wr => VdRel w [.int .u32 lim, .int .i64 iv, .int .i64 sp, .int .i64 fu, .int .i64 ix, .int .i64 orp, .slice ao n cp] (fun i => stnd lim iv sp fu ix orp n ht ch L now i (L i)) k i wr) (fun i _ => k - (intOf i).toNat)
  case atStart => exact ⟨0, Nat.zero_le _, rfl, fun i hi => by omega, HB00.out, HM00.out⟩
  case round =>
    obtain ⟨j, hj, rfl, hno, hB, hmm⟩ := hrel
    clear HM00 HB00
    have HNO := Lib.hid hno
    have hM := Lib.hid hmm
    have hF : True := trivial
    clear hno hmm
    by_cases hlt : j < k
    · obtain ⟨b, off, rfl⟩ := HR.out.addr (by decide) (by omega)
      have hblt : b < w.heap.size := HR.out.lt (by decide) (by omega) _ rfl
      have hjn : (j : Int) < (k : Int) := by omega
      have hw1 : IntKind.i64.wrap ((j : Int) + 1) = ((j + 1 : Nat) : Int) := by rw [IntKind.wrap_i64]; have := HK.out; omega
      have HC0 : Hid (wr.rangeAt b (off + j * 68) (hdL (L j))) := fun q v hq => (hB.cell (p := ⟨b, _, none⟩) hblt).trans (srow_at HR.out j hlt q v hq)
      have hjc : (j : Int) ≤ (lc : Int) := by have := HR.out.le; omega
      have hjc2 : j ≤ lc := by omega
      have HLt := Lib.hid hlt
      have hst : ∃ v, stnd lim iv sp fu ix orp n ht ch L now j (L j) = v := ⟨_, rfl⟩
      obtain ⟨v, hv⟩ := hst
      have HSt := Lib.hid (fun (x : World) (hb : Below w.heap.size w x) => hv ▸ HSt0.out x hb j (by omega))
      have HV := Lib.hid hv
      clear hblt hv HSt0
      by_cases hz : v = 0
      · subst hz
        go_wp2_with (first |
          (refine Go.wpList_load_mid rfl 30 (.tmp 16) rfl b (off + j * 68) rfl (hdL (L j)) _ HC0.out Tryz.underlying30 rfl (by rw [hdL_len]; kernel_rfl) ?_) |
          ((with_reducible_and_instances refine at_store 9 ?_); refine wpList_store_newV rfl (.tmp 9) (.tmp 17) 30 rfl _ (hdL (L j)) _ Tryz.underlying30 rfl (by rw [hdL_len]; kernel_rfl) (by rw [hdL_len]; rfl) (hdL_one _) rfl (rfl) hM.out ?_; intro W hMW hbW; have hBW := bl_then hB hbW; obtain ⟨g9, hg9⟩ : ∃ b, wr.heap.size = b := ⟨_, rfl⟩; rw [hg9] at hMW; simp only [hg9]; clear hg9; clear hM hF hB; have hM := Lib.hid hMW; have hB := hBW; have hF : True := trivial; clear hMW hbW hBW))
        refine wp_plan (fun x => Mem x _) [6] [0, 1, 2, 3, 4, 5, 6, 7] (by kernel_rfl) (by kernel_rfl) (Mem.drew hM.out) (fun hHeld => ?_)
        (refine wpT_yield rfl (by rfl) (Go.yieldsIf_load_mid (by rfl) 25 (.tmp 3) rfl w.heap.size (0) rfl ([.int .u32 lim, .int .i64 iv, .int .i64 sp, .int .i64 fu, .int .i64 ix, .int .i64 orp, .slice ao n cp]) _ (fun w' h' => rangeAt_of (Mem.get h' (by simp))) Tryz.underlying25 rfl (by kernel_rfl)) (by assumption) ?_; (try simp only [Act.put, List.setIfInBounds_toArray, List.set_cons_zero, List.set_cons_succ]))
        iterate 3 (refine wpT_take rfl (by rfl) (by rfl) (by intro w' hSw; (try dsimp only [Mem, cellsAt] at hSw); go_simp; (try with_reducible rfl)) (by assumption) ?_; (try simp only [Act.put, List.setIfInBounds_toArray, List.set_cons_zero, List.set_cons_succ]))
        (refine wpT_yield rfl (by rfl) (Go.yieldsIf_load_mid (by rfl) 30 (.tmp 9) rfl g9 (0) rfl (hdL (L j)) _ (fun w' h' => rangeAt_of (Mem.get h' (by simp))) Tryz.underlying30 rfl (by rw [hdL_len]; kernel_rfl)) (by assumption) ?_; (try simp only [Act.put, List.setIfInBounds_toArray, List.set_cons_zero, List.set_cons_succ]))
        iterate 1 (refine wpT_take rfl (by rfl) (by rfl) (by intro w' hSw; (try dsimp only [Mem, cellsAt] at hSw); go_simp; (try with_reducible rfl)) (by assumption) ?_; (try simp only [Act.put, List.setIfInBounds_toArray, List.set_cons_zero, List.set_cons_succ]))
        (refine wpT_step rfl (by rfl) (fun K hK => ?_); go_simp)
        ((with_reducible refine (HSt.out _ (by (repeat (first | exact hB | refine bl_al ?_ _ | refine Below.setCell ?_ (by first | exact hgs | exact Nat.le_succ_of_le hgs | exact hgs2 | exact hgs3) _ | refine Below.drew ?_ | refine bl_drewN ?_ _)))).mono ?_); rintro e w2 ⟨rfl, hb⟩; have hB : Below w.heap.size w w2 := (by refine bl_then ?_ hb; (repeat (first | exact hB | refine bl_al ?_ _ | refine Below.setCell ?_ (by first | exact hgs | exact Nat.le_succ_of_le hgs | exact hgs2 | exact hgs3) _ | refine Below.drew ?_ | refine bl_drewN ?_ _))); (first | with_reducible have hM2 := Mem.later hb (hM.out) | with_reducible have hM2 := Mem.later hb (Mem.al (hM.out) _ _) | with_reducible have hM2 := Mem.later hb (Mem.al (Mem.al (hM.out) _ _) _ _) | with_reducible have hM2 := Mem.later hb (Mem.al (Mem.al (Mem.al (hM.out) _ _) _ _) _ _) | with_reducible have hM2 := Mem.later hb (Mem.al (Mem.al (Mem.al (Mem.al (hM.out) _ _) _ _) _ _) _ _) | with_reducible have hM2 := Mem.later hb (Mem.drew (hM.out)) | with_reducible have hM2 := Mem.later hb (Mem.drew (Mem.al (hM.out) _ _)) | with_reducible have hM2 := Mem.later hb (Mem.al (Mem.drew (hM.out)) _ _) | with_reducible have hM2 := Mem.later hb (Mem.al (Mem.drew (Mem.al (hM.out) _ _)) _ _) | with_reducible have hM2 := Mem.later hb (Mem.drew (Mem.al (Mem.al (hM.out) _ _) _ _)) | with_reducible have hM2 := Mem.later hb (Mem.al (Mem.al (Mem.drew (hM.out)) _ _) _ _) | with_reducible have hM2 := Mem.later hb (Mem.drew (Mem.drew (hM.out))) | with_reducible have hM2 := Mem.later hb (Mem.drew (Mem.al (Mem.drew (hM.out)) _ _)) | with_reducible have hM2 := Mem.later hb (Mem.drew (Mem.al (Mem.al (Mem.al (hM.out) _ _) _ _) _ _)) | with_reducible have hM2 := Mem.later hb (Mem.al (Mem.al (Mem.drew (Mem.al (hM.out) _ _)) _ _) _ _) | with_reducible have hM2 := Mem.later hb (Mem.drew (Mem.al (Mem.drew (Mem.al (hM.out) _ _)) _ _)) | with_reducible have hM2 := Mem.later hb (Mem.al (Mem.al (Mem.al (Mem.al (Mem.al (hM.out) _ _) _ _) _ _) _ _) _ _) | with_reducible have hM2 := Mem.later hb (Mem.al (Mem.al (Mem.al (Mem.al (Mem.al (Mem.al (hM.out) _ _) _ _) _ _) _ _) _ _) _ _) | with_reducible have hM2 := Mem.later hb (Mem.al (Mem.al (Mem.al (Mem.al (Mem.al (Mem.al (Mem.al (hM.out) _ _) _ _) _ _) _ _) _ _) _ _) _ _) | with_reducible have hM2 := Mem.later hb (Mem.al (Mem.al (Mem.al (Mem.al (Mem.al (Mem.al (Mem.al (Mem.al (hM.out) _ _) _ _) _ _) _ _) _ _) _ _) _ _) _ _)); (try simp only [World.size_alloc, size_drew] at hM2); clear hM; have hM := Lib.hid hM2; clear hF; have hF := hM2; (try simp only [Mem, cellsAt, World.size_alloc, Nat.zero_add, Nat.reduceAdd, and_true] at hF); clear hM2; clear hb; clear hF; have hF : True := trivial; (refine hK.out _ _ _ (fun _ h => h) (hM.out) (fun hHeld => ?_); clear hK; clear K; (try simp only [Act.put, List.setIfInBounds_toArray, List.set_cons_zero, List.set_cons_succ])))
        iterate 1 (refine wpT_take rfl (by rfl) (by rfl) (by intro w' hSw; (try dsimp only [Mem, cellsAt] at hSw); go_simp; (try with_reducible rfl)) (by assumption) ?_; (try simp only [Act.put, List.setIfInBounds_toArray, List.set_cons_zero, List.set_cons_succ]))
        (refine wpT_nil ?_)
        go_wp2_with (go_at_call 25; (with_reducible refine (wrong_any _ _).mono ?_); rintro e w4 ⟨rfl, hb⟩; have hB : Below w.heap.size w w4 := (by refine bl_then ?_ hb; (repeat (first | exact hB | refine bl_al ?_ _ | refine Below.setCell ?_ (by first | exact hgs | exact Nat.le_succ_of_le hgs | exact hgs2 | exact hgs3) _ | refine Below.drew ?_ | refine bl_drewN ?_ _))); (first | with_reducible have hM2 := Mem.later hb (hM.out) | with_reducible have hM2 := Mem.later hb (Mem.al (hM.out) _ _) | with_reducible have hM2 := Mem.later hb (Mem.al (Mem.al (hM.out) _ _) _ _) | with_reducible have hM2 := Mem.later hb (Mem.al (Mem.al (Mem.al (hM.out) _ _) _ _) _ _) | with_reducible have hM2 := Mem.later hb (Mem.al (Mem.al (Mem.al (Mem.al (hM.out) _ _) _ _) _ _) _ _) | with_reducible have hM2 := Mem.later hb (Mem.drew (hM.out)) | with_reducible have hM2 := Mem.later hb (Mem.drew (Mem.al (hM.out) _ _)) | with_reducible have hM2 := Mem.later hb (Mem.al (Mem.drew (hM.out)) _ _) | with_reducible have hM2 := Mem.later hb (Mem.al (Mem.drew (Mem.al (hM.out) _ _)) _ _) | with_reducible have hM2 := Mem.later hb (Mem.drew (Mem.al (Mem.al (hM.out) _ _) _ _)) | with_reducible have hM2 := Mem.later hb (Mem.al (Mem.al (Mem.drew (hM.out)) _ _) _ _) | with_reducible have hM2 := Mem.later hb (Mem.drew (Mem.drew (hM.out))) | with_reducible have hM2 := Mem.later hb (Mem.drew (Mem.al (Mem.drew (hM.out)) _ _)) | with_reducible have hM2 := Mem.later hb (Mem.drew (Mem.al (Mem.al (Mem.al (hM.out) _ _) _ _) _ _)) | with_reducible have hM2 := Mem.later hb (Mem.al (Mem.al (Mem.drew (Mem.al (hM.out) _ _)) _ _) _ _) | with_reducible have hM2 := Mem.later hb (Mem.drew (Mem.al (Mem.drew (Mem.al (hM.out) _ _)) _ _)) | with_reducible have hM2 := Mem.later hb (Mem.al (Mem.al (Mem.al (Mem.al (Mem.al (hM.out) _ _) _ _) _ _) _ _) _ _) | with_reducible have hM2 := Mem.later hb (Mem.al (Mem.al (Mem.al (Mem.al (Mem.al (Mem.al (hM.out) _ _) _ _) _ _) _ _) _ _) _ _) | with_reducible have hM2 := Mem.later hb (Mem.al (Mem.al (Mem.al (Mem.al (Mem.al (Mem.al (Mem.al (hM.out) _ _) _ _) _ _) _ _) _ _) _ _) _ _) | with_reducible have hM2 := Mem.later hb (Mem.al (Mem.al (Mem.al (Mem.al (Mem.al (Mem.al (Mem.al (Mem.al (hM.out) _ _) _ _) _ _) _ _) _ _) _ _) _ _) _ _)); (try simp only [World.size_alloc, size_drew] at hM2); clear hM; have hM := Lib.hid hM2; clear hF; have hF := hM2; (try simp only [Mem, cellsAt, World.size_alloc, Nat.zero_add, Nat.reduceAdd, and_true] at hF); clear hM2; clear hb; clear hF; have hF : True := trivial)
        refine ⟨⟨j + 1, by omega, by go_num, fun i hi => ?_, hB, hM.out.2⟩, by simp [intOf]; omega⟩
        by_cases hij : i = j
        · rw [hij]; exact HV.out
        · exact HNO.out i (by omega)
      · have hz2 : (v == 0) = false := by simpa using hz
        have HZ := Lib.hid hz
        clear hz
        go_wp2_with (first |
          (refine Go.wpList_load_mid rfl 30 (.tmp 16) rfl b (off + j * 68) rfl (hdL (L j)) _ HC0.out Tryz.underlying30 rfl (by rw [hdL_len]; kernel_rfl) ?_) |
          ((with_reducible_and_instances refine at_store 9 ?_); refine wpList_store_newV rfl (.tmp 9) (.tmp 17) 30 rfl _ (hdL (L j)) _ Tryz.underlying30 rfl (by rw [hdL_len]; kernel_rfl) (by rw [hdL_len]; rfl) (hdL_one _) rfl (rfl) hM.out ?_; intro W hMW hbW; have hBW := bl_then hB hbW; obtain ⟨g9, hg9⟩ : ∃ b, wr.heap.size = b := ⟨_, rfl⟩; rw [hg9] at hMW; simp only [hg9]; clear hg9; clear hM hF hB; have hM := Lib.hid hMW; have hB := hBW; have hF : True := trivial; clear hMW hbW hBW))
        refine wp_plan (fun x => Mem x _) [6] [0, 1, 2, 3, 4, 5, 6, 7] (by kernel_rfl) (by kernel_rfl) (Mem.drew hM.out) (fun hHeld => ?_)
        (refine wpT_yield rfl (by rfl) (Go.yieldsIf_load_mid (by rfl) 25 (.tmp 3) rfl w.heap.size (0) rfl ([.int .u32 lim, .int .i64 iv, .int .i64 sp, .int .i64 fu, .int .i64 ix, .int .i64 orp, .slice ao n cp]) _ (fun w' h' => rangeAt_of (Mem.get h' (by simp))) Tryz.underlying25 rfl (by kernel_rfl)) (by assumption) ?_; (try simp only [Act.put, List.setIfInBounds_toArray, List.set_cons_zero, List.set_cons_succ]))
        iterate 3 (refine wpT_take rfl (by rfl) (by rfl) (by intro w' hSw; (try dsimp only [Mem, cellsAt] at hSw); go_simp; (try with_reducible rfl)) (by assumption) ?_; (try simp only [Act.put, List.setIfInBounds_toArray, List.set_cons_zero, List.set_cons_succ]))
        (refine wpT_yield rfl (by rfl) (Go.yieldsIf_load_mid (by rfl) 30 (.tmp 9) rfl g9 (0) rfl (hdL (L j)) _ (fun w' h' => rangeAt_of (Mem.get h' (by simp))) Tryz.underlying30 rfl (by rw [hdL_len]; kernel_rfl)) (by assumption) ?_; (try simp only [Act.put, List.setIfInBounds_toArray, List.set_cons_zero, List.set_cons_succ]))
        iterate 1 (refine wpT_take rfl (by rfl) (by rfl) (by intro w' hSw; (try dsimp only [Mem, cellsAt] at hSw); go_simp; (try with_reducible rfl)) (by assumption) ?_; (try simp only [Act.put, List.setIfInBounds_toArray, List.set_cons_zero, List.set_cons_succ]))
        (refine wpT_step rfl (by rfl) (fun K hK => ?_); go_simp)
        ((with_reducible refine (HSt.out _ (by (repeat (first | exact hB | refine bl_al ?_ _ | refine Below.setCell ?_ (by first | exact hgs | exact Nat.le_succ_of_le hgs | exact hgs2 | exact hgs3) _ | refine Below.drew ?_ | refine bl_drewN ?_ _)))).mono ?_); rintro e w2 ⟨rfl, hb⟩; have hB : Below w.heap.size w w2 := (by refine bl_then ?_ hb; (repeat (first | exact hB | refine bl_al ?_ _ | refine Below.setCell ?_ (by first | exact hgs | exact Nat.le_succ_of_le hgs | exact hgs2 | exact hgs3) _ | refine Below.drew ?_ | refine bl_drewN ?_ _))); (first | with_reducible have hM2 := Mem.later hb (hM.out) | with_reducible have hM2 := Mem.later hb (Mem.al (hM.out) _ _) | with_reducible have hM2 := Mem.later hb (Mem.al (Mem.al (hM.out) _ _) _ _) | with_reducible have hM2 := Mem.later hb (Mem.al (Mem.al (Mem.al (hM.out) _ _) _ _) _ _) | with_reducible have hM2 := Mem.later hb (Mem.al (Mem.al (Mem.al (Mem.al (hM.out) _ _) _ _) _ _) _ _) | with_reducible have hM2 := Mem.later hb (Mem.drew (hM.out)) | with_reducible have hM2 := Mem.later hb (Mem.drew (Mem.al (hM.out) _ _)) | with_reducible have hM2 := Mem.later hb (Mem.al (Mem.drew (hM.out)) _ _) | with_reducible have hM2 := Mem.later hb (Mem.al (Mem.drew (Mem.al (hM.out) _ _)) _ _) | with_reducible have hM2 := Mem.later hb (Mem.drew (Mem.al (Mem.al (hM.out) _ _) _ _)) | with_reducible have hM2 := Mem.later hb (Mem.al (Mem.al (Mem.drew (hM.out)) _ _) _ _) | with_reducible have hM2 := Mem.later hb (Mem.drew (Mem.drew (hM.out))) | with_reducible have hM2 := Mem.later hb (Mem.drew (Mem.al (Mem.drew (hM.out)) _ _)) | with_reducible have hM2 := Mem.later hb (Mem.drew (Mem.al (Mem.al (Mem.al (hM.out) _ _) _ _) _ _)) | with_reducible have hM2 := Mem.later hb (Mem.al (Mem.al (Mem.drew (Mem.al (hM.out) _ _)) _ _) _ _) | with_reducible have hM2 := Mem.later hb (Mem.drew (Mem.al (Mem.drew (Mem.al (hM.out) _ _)) _ _)) | with_reducible have hM2 := Mem.later hb (Mem.al (Mem.al (Mem.al (Mem.al (Mem.al (hM.out) _ _) _ _) _ _) _ _) _ _) | with_reducible have hM2 := Mem.later hb (Mem.al (Mem.al (Mem.al (Mem.al (Mem.al (Mem.al (hM.out) _ _) _ _) _ _) _ _) _ _) _ _) | with_reducible have hM2 := Mem.later hb (Mem.al (Mem.al (Mem.al (Mem.al (Mem.al (Mem.al (Mem.al (hM.out) _ _) _ _) _ _) _ _) _ _) _ _) _ _) | with_reducible have hM2 := Mem.later hb (Mem.al (Mem.al (Mem.al (Mem.al (Mem.al (Mem.al (Mem.al (Mem.al (hM.out) _ _) _ _) _ _) _ _) _ _) _ _) _ _) _ _)); (try simp only [World.size_alloc, size_drew] at hM2); clear hM; have hM := Lib.hid hM2; clear hF; have hF := hM2; (try simp only [Mem, cellsAt, World.size_alloc, Nat.zero_add, Nat.reduceAdd, and_true] at hF); clear hM2; clear hb; clear hF; have hF : True := trivial; (refine hK.out _ _ _ (fun _ h => h) (hM.out) (fun hHeld => ?_); clear hK; clear K; (try simp only [Act.put, List.setIfInBounds_toArray, List.set_cons_zero, List.set_cons_succ])))
        iterate 1 (refine wpT_take rfl (by rfl) (by rfl) (by intro w' hSw; (try dsimp only [Mem, cellsAt] at hSw); go_simp; (try with_reducible rfl)) (by assumption) ?_; (try simp only [Act.put, List.setIfInBounds_toArray, List.set_cons_zero, List.set_cons_succ]))
        (refine wpT_nil ?_)
        go_wp2_with (go_at_call 25; (with_reducible refine (wrong_any _ _).mono ?_); rintro e w4 ⟨rfl, hb⟩; have hB : Below w.heap.size w w4 := (by refine bl_then ?_ hb; (repeat (first | exact hB | refine bl_al ?_ _ | refine Below.setCell ?_ (by first | exact hgs | exact Nat.le_succ_of_le hgs | exact hgs2 | exact hgs3) _ | refine Below.drew ?_ | refine bl_drewN ?_ _))); (first | with_reducible have hM2 := Mem.later hb (hM.out) | with_reducible have hM2 := Mem.later hb (Mem.al (hM.out) _ _) | with_reducible have hM2 := Mem.later hb (Mem.al (Mem.al (hM.out) _ _) _ _) | with_reducible have hM2 := Mem.later hb (Mem.al (Mem.al (Mem.al (hM.out) _ _) _ _) _ _) | with_reducible have hM2 := Mem.later hb (Mem.al (Mem.al (Mem.al (Mem.al (hM.out) _ _) _ _) _ _) _ _) | with_reducible have hM2 := Mem.later hb (Mem.drew (hM.out)) | with_reducible have hM2 := Mem.later hb (Mem.drew (Mem.al (hM.out) _ _)) | with_reducible have hM2 := Mem.later hb (Mem.al (Mem.drew (hM.out)) _ _) | with_reducible have hM2 := Mem.later hb (Mem.al (Mem.drew (Mem.al (hM.out) _ _)) _ _) | with_reducible have hM2 := Mem.later hb (Mem.drew (Mem.al (Mem.al (hM.out) _ _) _ _)) | with_reducible have hM2 := Mem.later hb (Mem.al (Mem.al (Mem.drew (hM.out)) _ _) _ _) | with_reducible have hM2 := Mem.later hb (Mem.drew (Mem.drew (hM.out))) | with_reducible have hM2 := Mem.later hb (Mem.drew (Mem.al (Mem.drew (hM.out)) _ _)) | with_reducible have hM2 := Mem.later hb (Mem.drew (Mem.al (Mem.al (Mem.al (hM.out) _ _) _ _) _ _)) | with_reducible have hM2 := Mem.later hb (Mem.al (Mem.al (Mem.drew (Mem.al (hM.out) _ _)) _ _) _ _) | with_reducible have hM2 := Mem.later hb (Mem.drew (Mem.al (Mem.drew (Mem.al (hM.out) _ _)) _ _)) | with_reducible have hM2 := Mem.later hb (Mem.al (Mem.al (Mem.al (Mem.al (Mem.al (hM.out) _ _) _ _) _ _) _ _) _ _) | with_reducible have hM2 := Mem.later hb (Mem.al (Mem.al (Mem.al (Mem.al (Mem.al (Mem.al (hM.out) _ _) _ _) _ _) _ _) _ _) _ _) | with_reducible have hM2 := Mem.later hb (Mem.al (Mem.al (Mem.al (Mem.al (Mem.al (Mem.al (Mem.al (hM.out) _ _) _ _) _ _) _ _) _ _) _ _) _ _) | with_reducible have hM2 := Mem.later hb (Mem.al (Mem.al (Mem.al (Mem.al (Mem.al (Mem.al (Mem.al (Mem.al (hM.out) _ _) _ _) _ _) _ _) _ _) _ _) _ _) _ _)); (try simp only [World.size_alloc, size_drew] at hM2); clear hM; have hM := Lib.hid hM2; clear hF; have hF := hM2; (try simp only [Mem, cellsAt, World.size_alloc, Nat.zero_add, Nat.reduceAdd, and_true] at hF); clear hM2; clear hb; clear hF; have hF : True := trivial)
        go_ret2
        exact ⟨j, v, rfl, ⟨by omega, HNO.out, fun _ => ⟨by rw [HV.out]; exact HZ.out, HV.out.symm⟩, fun h => by omega⟩, hB⟩
    · have hje : j = k := by omega
      subst hje
      have hjn : ¬ (j : Int) < (j : Int) := by omega
      go_wp2
      go_ret2
      exact ⟨j, 0, rfl, ⟨Nat.le_refl _, HNO.out, fun h => absurd h (Nat.lt_irrefl _), fun _ => rfl⟩, hB⟩
end Go.Proofs.YtlhdfmaekbnhaaaGreatDoor

/- florinlaw16: rule, awake (made by gen_ru7.py). (hM) -/
namespace Go.Proofs.YtlhdfmaekbnhaaaGreatDoor
set_option linter.unusedVariables false
set_option linter.unusedSimpArgs false
open Go.RowKit

theorem wpList_buildX {P : Program} {w : World} {ops : Array Oper} {rest : List Oper} {o : Oper} {a : Act} {Q : Exit → Act → World → Prop} (hgd : o.guard = none) (T : TypeId) (xs : Array (Nat × Operand))
    (ho : o.op = .build T xs) (v : Value) {ys : Array (Nat × Value)} (hb : ∀ x, (Instr.build T ys).run P x = .ok v x) (hy : (xs.map fun p => (p.1, a.eval p.2)) = ys) (hk : wpList P ops Q rest (a.put o.dst v) w) : wpList P ops Q (o :: rest) a w := by
  refine wpList_plain hgd fun K hK => ?_
  have hb := hb w
  unfold Oper.wp execOp
  rw [ho]
  simp only [hy]
  rw [Sem.run_bind]
  simp only [hb, Result.andThen_ok]
  exact hK _ _ hk
theorem step_bsHd {w : World} {ops : Array Oper} {o : Oper} {a : Act} {K : Act → World → Prop} {Q : Exit → Act → World → Prop} {E' : Prop} (hgd : Region.wanted o (yielded ops a.tmps) = true) (x : Operand) (h : Hd)
    (ho : o.op = .buildSlice 26 1 #[(0, x)]) (hx : a.eval x = hdV h)
    (hk : K (a.put o.dst (.slice (some ⟨w.heap.size, 0, none⟩) 1 1)) (w.alloc (.cells (hdL h).toArray 30))) :
    if Region.wanted o (yielded ops a.tmps) = true then Oper.wp Tryz.prog o a w K Q else E' := by
  rw [if_pos hgd]
  have hb := bslice_hdr h w
  unfold Oper.wp execOp
  rw [ho]
  simp only [List.map_toArray, List.map_cons, List.map_nil, hx]
  rw [Sem.run_bind]
  simp only [hb, Result.andThen_ok]
  exact hk

set_option maxRecDepth 100000 in
theorem rule_any (w : World) : Calls Tryz.prog 24 #[] w fun e w' => e = .returned (PV 545259519 9 90 10 0 0 none 0 0) ∧ Below w.heap.size w w' := by
  go_enter Tryz.func24, Tryz.ntmps24
  go_wp2
  have hl := Go.run_loadVar_mid (P := Tryz.prog) (w.alloc (.cells ([.int .u32 545259519, .int .i64 9, .int .i64 90, .int .i64 10, .int .i64 0, .int .i64 0, .slice none 0 0] : List Value).toArray 25)) w.heap.size 0 25 [.int .u32 545259519, .int .i64 9, .int .i64 90, .int .i64 10, .int .i64 0, .int .i64 0, .slice none 0 0] _ (rangeAt_of (Mem.get (Mem.al (mem_nil w) _ _) (by simp))) Tryz.underlying25 rfl (by kernel_rfl)
  refine bodyPost_ret (v := PV 545259519 9 90 10 0 0 none 0 0) (by simp [results, Tryz.results24, asAddr, hl, PV]) rfl ⟨rfl, by (repeat (first | exact Below.refl _ _ | refine Below.drew ?_ | refine bl_drewN ?_ _ | (refine Below.alloc ?_ (by first | exact Nat.le_refl _ | (simp; done) | (simp; omega)) _)))⟩

theorem aw16_sane : saneV 545259519 9 90 10 0 0 0 = true := by decide +kernel
theorem aw16_chain (ht : Nat → Int) (ch : Nat → Nat → Int) : chainB 545259519 9 90 10 0 0 0 (fun _ => aw16a) 0 = 545259519 := by
  unfold chainB nextV
  rw [if_pos aw16_sane, if_pos (by decide)]
  rfl
theorem aw16_clock (now : Int) (h : now = 6 ∨ now = -5) : checkN 6 (timesN (fun _ => 5) (0 + 1)) now 10 = 0 := by
  have e : timesN (fun _ => 5) (0 + 1) = [5] := rfl
  have m : med [5] = 5 := by
    unfold med srt
    rw [ms_short _ (by simp [tl])]
    rfl
  rw [e]
  unfold checkN
  rw [m]
  rcases h with rfl | rfl <;> decide
theorem aw16_check (ht : Nat → Int) (ch : Nat → Nat → Int) (now : Int) (h : now = 6 ∨ now = -5) : checkV 545259519 9 90 10 0 0 0 ht ch (fun _ => aw16a) 0 aw16h now = 0 := by
  unfold checkV
  have e1 : (hl aw16h.p == hl (idF aw16a)) = true := by rw [aw16_id]; simp [aw16h]
  have e2 : aw16h.b = chainB 545259519 9 90 10 0 0 0 (fun _ => aw16a) 0 := (aw16_chain ht ch).symm
  have e3 : meetsV (hashN (idF aw16h)) aw16h.b 545259519 = 0 := aw16_meets
  have e4 : checkN aw16h.t (timesN (fun i => ((fun _ => aw16a) i : Hd).t) (0 + 1)) now 10 = 0 := aw16_clock now h
  rw [if_pos aw16_sane, if_pos e1, if_pos e2, if_pos e3, if_pos e4]
  rfl

set_option maxRecDepth 100000 in
set_option maxHeartbeats 8000000 in
theorem awake16_any (w : World) (hT : Tab w) : Calls Tryz.prog 8 #[] w fun e w' => e = .returned (.bool true) ∧ Below w.heap.size w w' := by
  have HId := Lib.hid (show ∀ (x : World), Below w.heap.size w x → Calls Tryz.prog 11 #[hdV aw16a] x fun e w' => e = .returned (arr32 aw16I) ∧ Below x.heap.size x w' from fun x hb => aw16_arr ▸ hid_any aw16a aw16a_ok x (hT.later hb))
  have HMi := Lib.hid (fun (x : World) (hb : Below w.heap.size w x) => aw16_mine x (hT.later hb))
  have nl : ∀ x : World, SRow x none 0 0 33 (fun i => ckL ((fun _ => 0) i) ((fun _ _ => 0) i)) := fun x => ⟨fun _ h => absurd h (Nat.not_lt_zero _), Nat.le_refl _, fun _ => rfl, fun _ h => by cases h⟩
  have HC1 := Lib.hid (fun (x : World) (g : Nat) (hb : Below w.heap.size w x) (hr : SRow x (some ⟨g, 0, none⟩) 1 1 68 (fun _ => hdL aw16a)) => (aw16_check (fun _ => 0) (fun _ _ => 0) 6 (.inl rfl) ▸ rcheck_any 545259519 9 90 10 0 0 none 0 0 (fun _ => 0) (fun _ _ => 0) (by omega) (by omega) aw16h aw16h_ok (fun _ => aw16a) (fun _ => aw16a_ok) (some ⟨g, 0, none⟩) 0 1 (by omega) 6 x (hT.later hb) (nl x) hr))
  have HC2 := Lib.hid (fun (x : World) (g : Nat) (hb : Below w.heap.size w x) (hr : SRow x (some ⟨g, 0, none⟩) 1 1 68 (fun _ => hdL aw16a)) => (aw16_check (fun _ => 0) (fun _ _ => 0) (-5) (.inr rfl) ▸ rcheck_any 545259519 9 90 10 0 0 none 0 0 (fun _ => 0) (fun _ _ => 0) (by omega) (by omega) aw16h aw16h_ok (fun _ => aw16a) (fun _ => aw16a_ok) (some ⟨g, 0, none⟩) 0 1 (by omega) (-5) x (hT.later hb) (nl x) hr))
  have HC3 := Lib.hid (fun (x : World) => check_nil 545259519 9 90 10 0 0 none 0 0 (by omega) aw16h none 0 6 x)
  have hbg : beginsV 545259519 9 90 10 0 0 0 (fun _ => 0) (fun _ _ => 0) aw16a = 0 := by unfold beginsV; rw [if_pos aw16_sane]; rfl
  have HC4 := Lib.hid (fun (x : World) (hb : Below w.heap.size w x) => hbg ▸ begins_any 545259519 9 90 10 0 0 none 0 0 (fun _ => 0) (fun _ _ => 0) aw16a aw16a_ok x (hT.later hb) (by omega) (nl x) (by intro i j; simp) (by omega))
  have hB := Below.refl w.heap.size w
  have hM := Lib.hid (mem_nil w)
  have hF : True := trivial
  clear hT nl hbg
  go_enter Tryz.func8, Tryz.ntmps8
  go_wp2_with (first |
    ((with_reducible_and_instances refine at_build ?_); refine wpList_buildX rfl _ _ rfl _ build_aw16a ?_ ?_; (focus (simp only [List.map_toArray, List.map_cons, List.map_nil, Act.eval]; done))) |
    ((with_reducible_and_instances refine at_store 1 ?_); refine wpList_store_newV rfl (.tmp 1) (.tmp 5) 30 rfl _ (hdL aw16a) _ Tryz.underlying30 rfl (by rw [hdL_len]; kernel_rfl) (by rw [hdL_len]; rfl) (hdL_one _) rfl (rfl) hM.out ?_; intro W1 hMW hbW; have hBW := bl_then hB hbW; clear hM hF hB; have hM := Lib.hid hMW; have hB := hBW; have hF : True := trivial; clear hMW hbW hBW) |
    ((with_reducible_and_instances refine at_load 1 ?_); refine Go.wpList_load_mid rfl 30 (.tmp 1) rfl w.heap.size 0 rfl (hdL aw16a) _ (rangeAt_of (Mem.get hM.out (by simp))) Tryz.underlying30 rfl (by rw [hdL_len]; kernel_rfl) ?_) |
    (go_at_call 11; (with_reducible refine (HId.out _ hB).mono ?_); rintro e w1 ⟨rfl, hb⟩; have hB : Below w.heap.size w w1 := (by refine bl_then ?_ hb; (repeat (first | exact hB | refine bl_al ?_ _ | refine Below.setCell ?_ (by first | exact hgs | exact Nat.le_succ_of_le hgs | exact hgs2 | exact hgs3) _ | refine Below.drew ?_ | refine bl_drewN ?_ _))); (first | with_reducible have hM2 := Mem.later hb (hM.out) | with_reducible have hM2 := Mem.later hb (Mem.al (hM.out) _ _) | with_reducible have hM2 := Mem.later hb (Mem.al (Mem.al (hM.out) _ _) _ _) | with_reducible have hM2 := Mem.later hb (Mem.al (Mem.al (Mem.al (hM.out) _ _) _ _) _ _) | with_reducible have hM2 := Mem.later hb (Mem.al (Mem.al (Mem.al (Mem.al (hM.out) _ _) _ _) _ _) _ _) | with_reducible have hM2 := Mem.later hb (Mem.drew (hM.out)) | with_reducible have hM2 := Mem.later hb (Mem.drew (Mem.al (hM.out) _ _)) | with_reducible have hM2 := Mem.later hb (Mem.al (Mem.drew (hM.out)) _ _) | with_reducible have hM2 := Mem.later hb (Mem.al (Mem.drew (Mem.al (hM.out) _ _)) _ _) | with_reducible have hM2 := Mem.later hb (Mem.drew (Mem.al (Mem.al (hM.out) _ _) _ _)) | with_reducible have hM2 := Mem.later hb (Mem.al (Mem.al (Mem.drew (hM.out)) _ _) _ _) | with_reducible have hM2 := Mem.later hb (Mem.drew (Mem.drew (hM.out))) | with_reducible have hM2 := Mem.later hb (Mem.drew (Mem.al (Mem.drew (hM.out)) _ _)) | with_reducible have hM2 := Mem.later hb (Mem.drew (Mem.al (Mem.al (Mem.al (hM.out) _ _) _ _) _ _)) | with_reducible have hM2 := Mem.later hb (Mem.al (Mem.al (Mem.drew (Mem.al (hM.out) _ _)) _ _) _ _) | with_reducible have hM2 := Mem.later hb (Mem.drew (Mem.al (Mem.drew (Mem.al (hM.out) _ _)) _ _)) | with_reducible have hM2 := Mem.later hb (Mem.al (Mem.al (Mem.al (Mem.al (Mem.al (hM.out) _ _) _ _) _ _) _ _) _ _) | with_reducible have hM2 := Mem.later hb (Mem.al (Mem.al (Mem.al (Mem.al (Mem.al (Mem.al (hM.out) _ _) _ _) _ _) _ _) _ _) _ _) | with_reducible have hM2 := Mem.later hb (Mem.al (Mem.al (Mem.al (Mem.al (Mem.al (Mem.al (Mem.al (hM.out) _ _) _ _) _ _) _ _) _ _) _ _) _ _) | with_reducible have hM2 := Mem.later hb (Mem.al (Mem.al (Mem.al (Mem.al (Mem.al (Mem.al (Mem.al (Mem.al (hM.out) _ _) _ _) _ _) _ _) _ _) _ _) _ _) _ _)); (try simp only [World.size_alloc, size_drew] at hM2); clear hM; have hM := Lib.hid hM2; clear hF; have hF := hM2; (try simp only [Mem, cellsAt, World.size_alloc, Nat.zero_add, Nat.reduceAdd, and_true] at hF); clear hM2; clear hb) |
    ((with_reducible_and_instances refine at_build ?_); refine wpList_buildX rfl _ _ rfl _ build_aw16h ?_ ?_; (focus ((try simp only [List.map_toArray, List.map_cons, List.map_nil, Act.eval]); first | done | rfl))) |
    (go_at_call 23; (with_reducible refine (HMi.out _ hB).mono ?_); rintro e w2 ⟨rfl, hb⟩; have hB : Below w.heap.size w w2 := (by refine bl_then ?_ hb; (repeat (first | exact hB | refine bl_al ?_ _ | refine Below.setCell ?_ (by first | exact hgs | exact Nat.le_succ_of_le hgs | exact hgs2 | exact hgs3) _ | refine Below.drew ?_ | refine bl_drewN ?_ _))); (first | with_reducible have hM2 := Mem.later hb (hM.out) | with_reducible have hM2 := Mem.later hb (Mem.al (hM.out) _ _) | with_reducible have hM2 := Mem.later hb (Mem.al (Mem.al (hM.out) _ _) _ _) | with_reducible have hM2 := Mem.later hb (Mem.al (Mem.al (Mem.al (hM.out) _ _) _ _) _ _) | with_reducible have hM2 := Mem.later hb (Mem.al (Mem.al (Mem.al (Mem.al (hM.out) _ _) _ _) _ _) _ _) | with_reducible have hM2 := Mem.later hb (Mem.drew (hM.out)) | with_reducible have hM2 := Mem.later hb (Mem.drew (Mem.al (hM.out) _ _)) | with_reducible have hM2 := Mem.later hb (Mem.al (Mem.drew (hM.out)) _ _) | with_reducible have hM2 := Mem.later hb (Mem.al (Mem.drew (Mem.al (hM.out) _ _)) _ _) | with_reducible have hM2 := Mem.later hb (Mem.drew (Mem.al (Mem.al (hM.out) _ _) _ _)) | with_reducible have hM2 := Mem.later hb (Mem.al (Mem.al (Mem.drew (hM.out)) _ _) _ _) | with_reducible have hM2 := Mem.later hb (Mem.drew (Mem.drew (hM.out))) | with_reducible have hM2 := Mem.later hb (Mem.drew (Mem.al (Mem.drew (hM.out)) _ _)) | with_reducible have hM2 := Mem.later hb (Mem.drew (Mem.al (Mem.al (Mem.al (hM.out) _ _) _ _) _ _)) | with_reducible have hM2 := Mem.later hb (Mem.al (Mem.al (Mem.drew (Mem.al (hM.out) _ _)) _ _) _ _) | with_reducible have hM2 := Mem.later hb (Mem.drew (Mem.al (Mem.drew (Mem.al (hM.out) _ _)) _ _)) | with_reducible have hM2 := Mem.later hb (Mem.al (Mem.al (Mem.al (Mem.al (Mem.al (hM.out) _ _) _ _) _ _) _ _) _ _) | with_reducible have hM2 := Mem.later hb (Mem.al (Mem.al (Mem.al (Mem.al (Mem.al (Mem.al (hM.out) _ _) _ _) _ _) _ _) _ _) _ _) | with_reducible have hM2 := Mem.later hb (Mem.al (Mem.al (Mem.al (Mem.al (Mem.al (Mem.al (Mem.al (hM.out) _ _) _ _) _ _) _ _) _ _) _ _) _ _) | with_reducible have hM2 := Mem.later hb (Mem.al (Mem.al (Mem.al (Mem.al (Mem.al (Mem.al (Mem.al (Mem.al (hM.out) _ _) _ _) _ _) _ _) _ _) _ _) _ _) _ _)); (try simp only [World.size_alloc, size_drew] at hM2); clear hM; have hM := Lib.hid hM2; clear hF; have hF := hM2; (try simp only [Mem, cellsAt, World.size_alloc, Nat.zero_add, Nat.reduceAdd, and_true] at hF); clear hM2; clear hb) |
    ((with_reducible_and_instances refine at_store 2 ?_); refine wpList_store_newV rfl (.tmp 2) (.tmp 11) 30 rfl _ (hdL aw16h) _ Tryz.underlying30 rfl (by rw [hdL_len]; kernel_rfl) (by rw [hdL_len]; rfl) (hdL_one _) rfl (rfl) hM.out ?_; intro W3 hMW hbW; have hBW := bl_then hB hbW; obtain ⟨g2, hg2⟩ : ∃ b, w2.heap.size = b := ⟨_, rfl⟩; rw [hg2] at hMW; simp only [hg2]; clear hg2; clear hM hF hB; have hM := Lib.hid hMW; have hB := hBW; have hF : True := trivial; clear hMW hbW hBW) |
    ((with_reducible_and_instances refine at_load 2 ?_); refine Go.wpList_load_mid rfl 30 (.tmp 2) rfl g2 0 rfl (hdL aw16h) _ (rangeAt_of (Mem.get hM.out (by simp))) Tryz.underlying30 rfl (by rw [hdL_len]; kernel_rfl) ?_) |
    ((with_reducible_and_instances refine at_store 4 ?_); refine wpList_store_newV rfl (.tmp 4) (.tmp 13) 30 rfl _ (hdL aw16h) _ Tryz.underlying30 rfl (by rw [hdL_len]; kernel_rfl) (by rw [hdL_len]; rfl) (hdL_one _) rfl (rfl) hM.out ?_; intro W4 hMW hbW; have hlt := Lib.hid (Mem.lt hM.out); have hgs := Lib.hid hB.size; have hBW := bl_then hB hbW; obtain ⟨g4, hg4⟩ : ∃ b, W3.heap.size = b := ⟨_, rfl⟩; rw [hg4] at hMW hlt hgs; simp only [hg4]; clear hg4; clear hM hF hB; have hM := Lib.hid hMW; have hB := hBW; have c65 := cellsAt_get (Mem.get hMW (List.mem_cons_self)) (hdL_t aw16h); have fz := hMW.1.2.1 65; have hF : True := trivial; clear hMW hbW hBW))
  have hMD := Mem.drew (Mem.far (fun p hp => Nat.ne_of_lt (hlt.out p hp)) hM.out.2 : Mem (W4.setCell ⟨g4, 65, none⟩ (.int .u32 17)) [(g2, hdL aw16h), (w.heap.size, hdL aw16a)])
  have HB := (hB.setCell (p := ⟨g4, 65, none⟩) hgs.out (.int .u32 17)).drew
  refine wp_fork (fun x => Mem x [(g2, hdL aw16h), (w.heap.size, hdL aw16a)]) [2, 4, 6, 10, 12, 14, 18, 20, 24, 26] (.node 0 (.node 1 (.node 3 (.node 5 (.fork 2 4 (.node 4 (.node 6 (.node 7 (.node 8 (.node 9 (.node 11 (.node 13 (.fork 10 12 (.node 12 (.node 14 (.node 15 (.node 16 (.node 17 (.node 19 (.node 18 (.node 20 (.node 21 (.node 22 (.node 23 (.node 25 (.node 24 (.node 26 (.node 27 (.node 28 (.node 29 .leaf))))))))))))))))) (.node 10 (.node 14 (.node 15 (.node 16 (.node 17 (.node 19 (.node 18 (.node 20 (.node 21 (.node 22 (.node 23 (.node 25 (.node 24 (.node 26 (.node 27 (.node 28 (.node 29 .leaf))))))))))))))))))))))))) (.node 2 (.node 6 (.node 7 (.node 8 (.node 9 (.node 11 (.node 13 (.fork 10 12 (.node 12 (.node 14 (.node 15 (.node 16 (.node 17 (.node 19 (.node 18 (.node 20 (.node 21 (.node 22 (.node 23 (.node 25 (.node 24 (.node 26 (.node 27 (.node 28 (.node 29 .leaf))))))))))))))))) (.node 10 (.node 14 (.node 15 (.node 16 (.node 17 (.node 19 (.node 18 (.node 20 (.node 21 (.node 22 (.node 23 (.node 25 (.node 24 (.node 26 (.node 27 (.node 28 (.node 29 .leaf)))))))))))))))))))))))))))))) (by kernel_rfl) (by kernel_rfl) hMD (fun hHeld => ?_)
  iterate 2 (refine wpF_take rfl (by rfl) (by rfl) (by intro w' hSw; (try dsimp only [Mem, cellsAt] at hSw); go_simp; (try with_reducible rfl)) (by assumption) ?_; (try simp only [Act.put, List.setIfInBounds_toArray, List.set_cons_zero, List.set_cons_succ]))
  (refine wpF_yield rfl (by rfl) (Go.yieldsIf_load_mid (by rfl) 30 (.tmp 1) rfl w.heap.size 0 rfl (hdL aw16a) _ (fun w' h => rangeAt_of (Mem.get h (by simp))) Tryz.underlying30 rfl (by rw [hdL_len]; kernel_rfl)) (by assumption) ?_; (try simp only [Act.put, List.setIfInBounds_toArray, List.set_cons_zero, List.set_cons_succ]))
  (refine wpF_yield rfl (by rfl) (Go.yieldsIf_load_mid (by rfl) 30 (.tmp 2) rfl g2 0 rfl (hdL aw16h) _ (fun w' h => rangeAt_of (Mem.get h (by simp))) Tryz.underlying30 rfl (by rw [hdL_len]; kernel_rfl)) (by assumption) ?_; (try simp only [Act.put, List.setIfInBounds_toArray, List.set_cons_zero, List.set_cons_succ]))
  (refine wpF_both 17 19 (fun v _ => v = PV 545259519 9 90 10 0 0 none 0 0) (fun v x => ∃ g, v = .slice (some ⟨g, 0, none⟩) 1 1 ∧ SRow x (some ⟨g, 0, none⟩) 1 1 68 (fun _ => hdL aw16a)) rfl rfl (by rfl) (by rfl) (by decide) (fun v x y h _ => h) (by rintro v x y ⟨g, h1, h2⟩ hb; exact ⟨g, h1, h2.later (by decide) hb⟩) (fun x y h hb => Mem.later hb h) hHeld ?_ ?_ ?_ ?_ ?_)
  · intro x hx K hK
    go_simp
    (with_reducible refine (rule_any _).mono ?_)
    rintro e x1 ⟨rfl, hb⟩
    exact hK _ _ rfl hb
  · intro u x hx K hK
    go_simp
    (with_reducible refine (rule_any _).mono ?_)
    rintro e x1 ⟨rfl, hb⟩
    exact hK _ _ rfl hb
  · intro x hx K hK
    exact step_bsHd (by rfl) (.tmp 18) aw16a rfl rfl (hK _ _ ⟨_, rfl, srow_one x aw16a⟩ (below_alloc _ _))
  · intro u x hx K hK
    exact step_bsHd (by rfl) (.tmp 18) aw16a rfl rfl (hK _ _ ⟨_, rfl, srow_one x aw16a⟩ (below_alloc _ _))
  intro v u w5 hv ⟨g5, hu, hrow5⟩ hb hHeld2
  subst hv
  subst hu
  have HB2 := bl_both HB hb
  clear HB hHeld hb
  have HB := HB2
  have hHeld := hHeld2
  have HRow5 := Lib.hid hrow5
  clear HB2 hHeld2 hrow5
  (try simp only [Act.put, List.setIfInBounds_toArray, List.set_cons_zero, List.set_cons_succ])
  ((refine wpF_step rfl (by rfl) (fun K hK => ?_); go_simp); (with_reducible refine (HC1.out _ _ HB HRow5.out).mono ?_); rintro e y6 ⟨rfl, hb⟩; have hBy6 := bl_both HB hb; clear HB; have HB := hBy6; clear hBy6; have hH2 := Mem.later hb hHeld; clear hHeld; (refine hK.out _ _ _ (fun _ h => h) (hH2) (fun hHeld => ?_); clear hK; clear K; (try simp only [Act.put, List.setIfInBounds_toArray, List.set_cons_zero, List.set_cons_succ])))
  iterate 3 (refine wpF_take rfl (by rfl) (by rfl) (by intro w' hSw; (try dsimp only [Mem, cellsAt] at hSw); go_simp; (try with_reducible rfl)) (by assumption) ?_; (try simp only [Act.put, List.setIfInBounds_toArray, List.set_cons_zero, List.set_cons_succ]))
  (refine wpF_yield rfl (by rfl) (Go.yieldsIf_load_mid (by rfl) 30 (.tmp 1) rfl w.heap.size 0 rfl (hdL aw16a) _ (fun w' h => rangeAt_of (Mem.get h (by simp))) Tryz.underlying30 rfl (by rw [hdL_len]; kernel_rfl)) (by assumption) ?_; (try simp only [Act.put, List.setIfInBounds_toArray, List.set_cons_zero, List.set_cons_succ]))
  (refine wpF_yield rfl (by rfl) (Go.yieldsIf_load_mid (by rfl) 30 (.tmp 2) rfl g2 0 rfl (hdL aw16h) _ (fun w' h => rangeAt_of (Mem.get h (by simp))) Tryz.underlying30 rfl (by rw [hdL_len]; kernel_rfl)) (by assumption) ?_; (try simp only [Act.put, List.setIfInBounds_toArray, List.set_cons_zero, List.set_cons_succ]))
  (refine wpF_both 25 27 (fun v _ => v = PV 545259519 9 90 10 0 0 none 0 0) (fun v x => ∃ g, v = .slice (some ⟨g, 0, none⟩) 1 1 ∧ SRow x (some ⟨g, 0, none⟩) 1 1 68 (fun _ => hdL aw16a)) rfl rfl (by rfl) (by rfl) (by decide) (fun v x y h _ => h) (by rintro v x y ⟨g, h1, h2⟩ hb; exact ⟨g, h1, h2.later (by decide) hb⟩) (fun x y h hb => Mem.later hb h) hHeld ?_ ?_ ?_ ?_ ?_)
  · intro x hx K hK
    go_simp
    (with_reducible refine (rule_any _).mono ?_)
    rintro e x1 ⟨rfl, hb⟩
    exact hK _ _ rfl hb
  · intro u x hx K hK
    go_simp
    (with_reducible refine (rule_any _).mono ?_)
    rintro e x1 ⟨rfl, hb⟩
    exact hK _ _ rfl hb
  · intro x hx K hK
    exact step_bsHd (by rfl) (.tmp 26) aw16a rfl rfl (hK _ _ ⟨_, rfl, srow_one x aw16a⟩ (below_alloc _ _))
  · intro u x hx K hK
    exact step_bsHd (by rfl) (.tmp 26) aw16a rfl rfl (hK _ _ ⟨_, rfl, srow_one x aw16a⟩ (below_alloc _ _))
  intro v u w7 hv ⟨g7, hu, hrow7⟩ hb hHeld2
  subst hv
  subst hu
  have HB2 := bl_both HB hb
  clear HB hHeld hb
  have HB := HB2
  have hHeld := hHeld2
  have HRow7 := Lib.hid hrow7
  clear HB2 hHeld2 hrow7
  (try simp only [Act.put, List.setIfInBounds_toArray, List.set_cons_zero, List.set_cons_succ])
  ((refine wpF_step rfl (by rfl) (fun K hK => ?_); go_simp); (with_reducible refine (HC2.out _ _ HB HRow7.out).mono ?_); rintro e y8 ⟨rfl, hb⟩; have hBy8 := bl_both HB hb; clear HB; have HB := hBy8; clear hBy8; have hH2 := Mem.later hb hHeld; clear hHeld; (refine hK.out _ _ _ (fun _ h => h) (hH2) (fun hHeld => ?_); clear hK; clear K; (try simp only [Act.put, List.setIfInBounds_toArray, List.set_cons_zero, List.set_cons_succ])))
  iterate 3 (refine wpF_take rfl (by rfl) (by rfl) (by intro w' hSw; (try dsimp only [Mem, cellsAt] at hSw); go_simp; (try with_reducible rfl)) (by assumption) ?_; (try simp only [Act.put, List.setIfInBounds_toArray, List.set_cons_zero, List.set_cons_succ]))
  (refine wpF_yield rfl (by rfl) (Go.yieldsIf_load_mid (by rfl) 30 (.tmp 2) rfl g2 0 rfl (hdL aw16h) _ (fun w' h => rangeAt_of (Mem.get h (by simp))) Tryz.underlying30 rfl (by rw [hdL_len]; kernel_rfl)) (by assumption) ?_; (try simp only [Act.put, List.setIfInBounds_toArray, List.set_cons_zero, List.set_cons_succ]))
  ((refine wpF_step rfl (by rfl) (fun K hK => ?_); go_simp); (with_reducible refine (rule_any _).mono ?_); rintro e y9 ⟨rfl, hb⟩; have hBy9 := bl_both HB hb; clear HB; have HB := hBy9; clear hBy9; have hH2 := Mem.later hb hHeld; clear hHeld; (refine hK.out _ _ _ (fun _ h => h) (hH2) (fun hHeld => ?_); clear hK; clear K; (try simp only [Act.put, List.setIfInBounds_toArray, List.set_cons_zero, List.set_cons_succ])))
  ((refine wpF_step rfl (by rfl) (fun K hK => ?_); go_simp); (with_reducible refine (HC3.out _).mono ?_); rintro e y10 ⟨rfl, hb⟩; have hBy10 := bl_both HB hb; clear HB; have HB := hBy10; clear hBy10; have hH2 := Mem.later hb hHeld; clear hHeld; (refine hK.out _ _ _ (fun _ h => h) (hH2) (fun hHeld => ?_); clear hK; clear K; (try simp only [Act.put, List.setIfInBounds_toArray, List.set_cons_zero, List.set_cons_succ])))
  iterate 3 (refine wpF_take rfl (by rfl) (by rfl) (by intro w' hSw; (try dsimp only [Mem, cellsAt] at hSw); go_simp; (try with_reducible rfl)) (by assumption) ?_; (try simp only [Act.put, List.setIfInBounds_toArray, List.set_cons_zero, List.set_cons_succ]))
  (refine wpF_yield rfl (by rfl) (Go.yieldsIf_load_mid (by rfl) 30 (.tmp 1) rfl w.heap.size 0 rfl (hdL aw16a) _ (fun w' h => rangeAt_of (Mem.get h (by simp))) Tryz.underlying30 rfl (by rw [hdL_len]; kernel_rfl)) (by assumption) ?_; (try simp only [Act.put, List.setIfInBounds_toArray, List.set_cons_zero, List.set_cons_succ]))
  ((refine wpF_step rfl (by rfl) (fun K hK => ?_); go_simp); (with_reducible refine (rule_any _).mono ?_); rintro e y11 ⟨rfl, hb⟩; have hBy11 := bl_both HB hb; clear HB; have HB := hBy11; clear hBy11; have hH2 := Mem.later hb hHeld; clear hHeld; (refine hK.out _ _ _ (fun _ h => h) (hH2) (fun hHeld => ?_); clear hK; clear K; (try simp only [Act.put, List.setIfInBounds_toArray, List.set_cons_zero, List.set_cons_succ])))
  ((refine wpF_step rfl (by rfl) (fun K hK => ?_); go_simp); (with_reducible refine (HC4.out _ HB).mono ?_); rintro e y12 ⟨rfl, hb⟩; have hBy12 := bl_both HB hb; clear HB; have HB := hBy12; clear hBy12; have hH2 := Mem.later hb hHeld; clear hHeld; (refine hK.out _ _ _ (fun _ h => h) (hH2) (fun hHeld => ?_); clear hK; clear K; (try simp only [Act.put, List.setIfInBounds_toArray, List.set_cons_zero, List.set_cons_succ])))
  iterate 3 (refine wpF_take rfl (by rfl) (by rfl) (by intro w' hSw; (try dsimp only [Mem, cellsAt] at hSw); go_simp; (try with_reducible rfl)) (by assumption) ?_; (try simp only [Act.put, List.setIfInBounds_toArray, List.set_cons_zero, List.set_cons_succ]))
  (refine wpF_nil ?_)
  go_wp2
  go_ret
  exact ⟨rfl, HB⟩
end Go.Proofs.YtlhdfmaekbnhaaaGreatDoor
