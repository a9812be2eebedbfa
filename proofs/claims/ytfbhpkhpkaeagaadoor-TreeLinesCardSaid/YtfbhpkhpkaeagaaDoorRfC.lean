/- A range over a function whose rounds know what they are handed: the iterator's word of each value (V, Fr) reaches the round; no round leaves the loop. (hM) Merged: RfA, RfB, RfC. -/
import Derived.RangeFuncFrom
import Derived.RangeFuncCalls
import Derived.RangeFuncLeaves
import Derived.Test.YtfbhpkhpkaeagaaDoorUnd
import Derived.TacticsIn
import Derived.Test.YtfbhpkhpkaeagaaDoorAppG
import Derived.Test.YtfbhpkhpkaeagaaDoorVz
import Derived.Deep.MidRow
/- A range over a function whose rounds know what they are handed: the iterator's word of each value (V, Fr) reaches the round; no round leaves the loop. -/
namespace Go.Proofs.YtfbhpkhpkaeagaaDoor
set_option linter.unusedVariables false
set_option linter.unusedSimpArgs false
open Go.RowKit

/-- What lies below B, and whatever is cells, lies as it lay. -/
structure Book (B : Nat) (W W' : World) : Prop where
  os : W'.os = W.os
  tape : W'.tape = W.tape
  output : W'.output = W.output
  size : W.heap.size ≤ W'.heap.size
  low : ∀ k, k < B → W'.heap[k]? = W.heap[k]?
  cells : ∀ (k : Nat) (o : Obj), W.heap[k]? = some o → o.isCells = true → W'.heap[k]? = some o
theorem Book.refl (B : Nat) (W : World) : Book B W W := ⟨rfl, rfl, rfl, Nat.le_refl _, fun _ _ => rfl, fun _ _ h _ => h⟩
theorem Book.trans {B : Nat} {X Y Z : World} (h : Book B X Y) (k : Book B Y Z) : Book B X Z :=
  ⟨k.os.trans h.os, k.tape.trans h.tape, k.output.trans h.output, Nat.le_trans h.size k.size, fun i hi => (k.low i hi).trans (h.low i hi), fun i o hi ho => k.cells i o (h.cells i o hi ho) ho⟩
theorem Book.of_below {B : Nat} {X Y : World} (h : Below X.heap.size X Y) (hB : B ≤ X.heap.size) : Book B X Y :=
  ⟨h.os, h.tape, h.output, h.size, fun i hi => h.block i (by omega), fun i _ hi _ => (h.block i (Array.getElem?_eq_some_iff.1 hi).1).trans hi⟩
theorem Book.putObj {B r : Nat} {X : World} {o : Obj} (o' : Obj) (hr : B ≤ r) (h : X.heap[r]? = some o) (hc : o.isCells = false) : Book B X (X.putObj r o') :=
  ⟨rfl, rfl, rfl, by simp, fun i hi => World.putObj_heap_other (by omega), fun i o2 hi ho => by
    refine (World.putObj_heap_other ?_).trans hi
    rintro rfl
    rw [h] at hi
    cases hi
    rw [hc] at ho
    cases ho⟩
theorem Book.below {B : Nat} {X Y : World} (h : Book B X Y) : Below B X Y := ⟨h.os, h.tape, h.output, h.size, h.low⟩
theorem Book.at {B : Nat} {X Y : World} (h : Book B X Y) {p : Addr} {v : Value} (hc : X.cell? p = some v) : Y.heap[p.block]? = X.heap[p.block]? := by
  obtain ⟨o, ho, hk⟩ := cells_of_cell hc
  exact (h.cells _ o ho hk).trans ho.symm
theorem Book.cell {B : Nat} {X Y : World} (h : Book B X Y) {p : Addr} {v : Value} (hc : X.cell? p = some v) : Y.cell? p = some v := (World.cell?_of_block (h.at hc)).trans hc
theorem Book.frozen {B : Nat} {X Y : World} (h : Book B X Y) {p : Addr} {v : Value} (hc : X.cell? p = some v) : Y.frozen? p = X.frozen? p := World.frozen?_of_block (h.at hc)
theorem ko_of_below {X Y : World} (h : Below X.heap.size X Y) : KeepsOthers X Y := ⟨h.size, fun i _ hi _ => (h.block i (Array.getElem?_eq_some_iff.1 hi).1).trans hi⟩

/-- AN ITERATOR's WORD: N rounds; the k-th is handed a v of which V k holds, and Fr k against the heap's size when the round before it ended. -/
def Rounds (n : Nat) (P : Program) (gf : Nat) (lb : Array Value) (lo N : Nat) (V : Nat → Value → World → Prop) (Fr : Nat → Value → Nat → Prop) (E : World → World → Prop) (w : World) : Prop :=
  ∀ (l : Nat) (J : Nat → World → Prop) (W : World), Below w.heap.size w W →
    (∀ k v W0 W1, k < N → J k W0 → Below W0.heap.size W0 W1 → V k v W1 → Fr k v W0.heap.size →
      YieldAt Fence.wide (n - 1) P l #[v] W1 fun e W' => e = .returned (.bool true) ∧ J (k + 1) W' ∧ V k v W' ∧ Below lo W1 W') →
    J 0 W → CallsIn Fence.wide n P gf (#[.func (.yield l) #[] #[]] ++ lb) W fun e W' => (∃ v, e = .returned v) ∧ ∃ W0, J N W0 ∧ E W0 W'

variable {P : Program}
theorem wpIn_rounds {n : Nat} {g : Operand} {ps : Array Tmp} {assign body : Code} {Q : Exit → Act → World → Prop} {a : Act} {w : World} {gf : Nat} {lb : Array Value}
    (hg : a.eval g = .func (.func gf) #[] lb) (eg : ∀ args w, (callFunc gf args).run P w = .ok (.enter gf args) w)
    {lo N : Nat} {V : Nat → Value → World → Prop} {Fr : Nat → Value → Nat → Prop} {E : World → World → Prop} {w0 : World} (hseq : Rounds (n - 1) P gf lb lo N V Fr E w0)
    (hb0 : Below w0.heap.size w0 w) (hlo : lo ≤ w.heap.size) (hps : ps.size = 1) (J : Nat → World → Prop)
    (hJ : ∀ k X Y, J k X → Book w.heap.size X Y → J k Y) (hV : ∀ k v X Y, V k v X → Book w.heap.size X Y → V k v Y) (hE : ∀ X Y, E X Y → KeepsOthers X Y) (h0 : J 0 w)
    (A : Value → Act → World → Prop) (hA : ∀ v a' X Y, A v a' X → Book w.heap.size X Y → A v a' Y)
    (hassign : ∀ (l k : Nat) (v : Value) (W0 W : World) (K : Act → World → Prop), k < N → J k W0 → Book w.heap.size W0 W → V k v W → (∀ a' W', Below W.heap.size W W' → A v a' W' → K a' W') →
      assign.wpIn (Fence.wide.inRound l) (n - 1 - 1) P (Exit.then K (fun _ _ _ => False)) { tmps := (ps.zip #[v]).foldl (fun t (p, v) => t.setIfInBounds p v) a.tmps, defers := [] } W)
    (hbody : ∀ (l k : Nat) (v : Value) (W0 W : World) (a' : Act), k < N → J k W0 → Book w.heap.size W0 W → V k v W → Fr k v W0.heap.size → A v a' W →
      body.wpIn (Fence.wide.inRound l) (n - 1 - 1) P (fun e _ W' => e = .normal ∧ KeepsOthers W W' ∧ J (k + 1) W' ∧ V k v W' ∧ Below lo W W') a' W)
    (hdone : ∀ (W0 W2 W : World), J N W0 → E W0 W2 → Book w.heap.size W2 W → W.heap[w.heap.size]? = some (.deferred (some [])) →
      Q .normal { a with defers := { target := .collected w.heap.size, args := #[] } :: a.defers } W) :
    (Code.rangeFunc g ps assign body).wpIn Fence.wide n P Q a w := by
  refine wpIn_rangeFunc fun fn hfn => ?_
  obtain ⟨mk, hmk⟩ : ∃ mk : LoopState → Option Code → Loop, mk = fun st pe => { state := st, pending := pe, fn, tmps := a.tmps, params := ps, assign, body, defers := w.heap.size } := ⟨_, rfl⟩
  obtain ⟨D, hD⟩ : ∃ D, w.heap.size = D := ⟨_, rfl⟩
  obtain ⟨X, hX⟩ : ∃ X, (w.alloc (.deferred (some []))).alloc (.loop (mk .ready none)) = X := ⟨_, rfl⟩
  have hbX : Below w.heap.size w X := by rw [← hX]; exact ((Below.refl _ w).alloc (Nat.le_refl _) _).alloc (by simp) _
  have hR : X.heap[D + 1]? = some (.loop (mk .ready none)) := by
    rw [← hX, ← hD]; have := World.alloc_heap_new (w.alloc (.deferred (some []))) (.loop (mk .ready none)); rwa [World.size_alloc] at this
  have hDf : X.heap[D]? = some (.deferred (some [])) := by
    rw [← hX, ← hD]; exact (Below.heap_alloc _ _ _ (by simp)).trans (World.alloc_heap_new w _)
  rw [hD] at hJ hV hA hassign hbody hdone
  have hloD : lo ≤ D := by omega
  refine ⟨D + 1, [{ target := .collected D, args := #[] }], X, { target := .fn (.func gf) lb, args := #[.func (.yield (D + 1)) #[] #[]] }, X, gf, #[.func (.yield (D + 1)) #[] #[]] ++ lb, X, ?_, ?_, ?_, ?_, ?_, ?_⟩
  · rw [← hX, hmk, ← hD]; exact run_enterLoop_outer _ _ _ _ _
  · simp only [resolve, hg]; simp [go_sem]
  · intro f' _; trivial
  · simp [invoke, go_sem, eg]
  · intro h; cases h
  · refine (hseq (D + 1) (fun k Y => J k Y ∧ Y.heap[D + 1]? = some (.loop (mk .ready none)) ∧ Y.heap[D]? = some (.deferred (some []))) X (hb0.trans (hbX.mono hb0.size)) ?_
      ⟨hJ 0 w X h0 (Book.of_below hbX (by omega)), hR, hDf⟩).mono ?_
    · rintro k v W0 W1 hk ⟨hj, hl0, hd0⟩ hb hv hf
      have sz0 : D + 1 < W0.heap.size := (Array.getElem?_eq_some_iff.1 hl0).1
      have hl1 := (hb.block (D + 1) sz0).trans hl0
      have hd1 := (hb.block D (by omega)).trans hd0
      have hy := run_yield (P := P) (args := #[v]) hl1 (by rw [hmk]; exact hps.symm)
      rw [hmk] at hy
      refine ⟨fn, _, assign, body, hy, roundIn_of_wpIn hfn (hassign _ k v W0 W1 _ hk hj (Book.of_below hb (by omega)) hv ?_)⟩
      intro a' Wa hba ha
      have sz1 : D + 1 < W1.heap.size := Nat.lt_of_lt_of_le sz0 hb.size
      have hla := (hba.block (D + 1) sz1).trans hl1
      have hda := (hba.block D (by omega)).trans hd1
      have sza : D + 1 < Wa.heap.size := Nat.lt_of_lt_of_le sz1 hba.size
      refine ⟨_, run_beginRound hla (by rw [hmk]), ?_⟩
      obtain ⟨Wb, hWb⟩ : ∃ Wb, Wa.putObj (D + 1) (.loop { mk .ready none with state := .busy }) = Wb := ⟨_, rfl⟩
      have bkb : Book D Wa Wb := by rw [← hWb]; exact Book.putObj _ (by omega) hla rfl
      have hlb : Wb.heap[D + 1]? = some (.loop { mk .ready none with state := .busy }) := by rw [← hWb]; exact World.putObj_heap_same sza
      have hdb : Wb.heap[D]? = some (.deferred (some [])) := by rw [← hWb]; exact (World.putObj_heap_other (by omega)).trans hda
      have bk1a : Book D W1 Wa := Book.of_below hba (by omega)
      have hbody' := hbody (D + 1) k v W0 Wb a' hk hj ((Book.of_below hb (by omega)).trans (bk1a.trans bkb)) (hV k v W1 Wb hv (bk1a.trans bkb)) hf (hA v a' Wa Wb ha bkb)
      rw [hWb]
      refine wpIn_mono hbody' ?_
      rintro e a3 W3 ⟨rfl, ko, hj3, hv3, hb3⟩
      have hl3 := ko.same _ _ hlb rfl
      have hd3 := ko.same _ _ hdb rfl
      have he := run_endRound (P := P) none hl3
      refine ⟨_, _, he, rfl, ?_, ?_, ?_⟩
      · have bk3 : Book D W3 (W3.putObj (D + 1) (.loop { { mk .ready none with state := LoopState.busy } with state := if (none : Option Code).isNone then .ready else .done, pending := none })) := Book.putObj _ (by omega) hl3 rfl
        refine ⟨hJ _ _ _ hj3 bk3, ?_, (World.putObj_heap_other (by omega)).trans hd3⟩
        rw [World.putObj_heap_same (Array.getElem?_eq_some_iff.1 hl3).1, hmk]
        rfl
      · exact hV _ _ _ _ hv3 (Book.putObj _ (by omega) hl3 rfl)
      · have b1 : Below lo W1 Wa := hba.mono (by omega)
        have b2 : Below lo Wa Wb := (bkb.below).mono hloD
        have b4 : Below lo W3 (W3.putObj (D + 1) (.loop { { mk .ready none with state := LoopState.busy } with state := if (none : Option Code).isNone then .ready else .done, pending := none })) := (Book.putObj (B := D) _ (by omega) hl3 rfl).below.mono hloD
        exact ((b1.trans b2).trans hb3).trans b4
    · rintro e W2 ⟨⟨v, rfl⟩, W0, ⟨hj, hl0, hd0⟩, he⟩
      have ko := hE _ _ he
      have hl2 := ko.same _ _ hl0 rfl
      have hd2 := ko.same _ _ hd0 rfl
      have hend := run_endLoop (P := P) hl2 (by rw [hmk]; simp)
      refine ⟨_, _, hend, ?_⟩
      have hp : (mk .ready none).pending = none := by rw [hmk]
      rw [hp]
      exact hdone W0 W2 _ hj he (Book.putObj _ (by omega) hl2 rfl) ((World.putObj_heap_other (by omega)).trans hd2)

/-- a function that has held such a loop comes to its end -/
theorem leaves_mark {n : Nat} {fn : Func} {tmps : Array Value} {R : Ending → World → Prop} {D : Nat} {W : World} {v : Value} (hd : W.heap[D]? = some (.deferred (some [])))
    (hv : (results fn tmps).run P (W.putObj D (.deferred none)) = .ok v (W.putObj D (.deferred none))) (hR : R (.returned v) (W.putObj D (.deferred none))) :
    LeavesInM Fence.wide n P fn tmps R [{ target := .collected D, args := #[] }] .returning W := by
  refine ⟨by simp, .inl ⟨_, _, rfl, run_takeDeferred hd, ?_⟩⟩
  exact ⟨_, hv, hR⟩
end Go.Proofs.YtfbhpkhpkaeagaaDoor

/- A region of a round's body, walked as everywhere: what holds of it in the open holds in a round, if it defers nothing. -/
namespace Go.Proofs.YtfbhpkhpkaeagaaDoor
set_option linter.unusedVariables false
set_option linter.unusedSimpArgs false
open Go.RowKit

/-- nothing is let out but by the end -/
def QR (Q : Exit → Act → World → Prop) : Exit → Act → World → Prop
  | .panic _, _, _ => False
  | .outgrown, _, _ => False
  | e, a, w => Q e a w
def noDefer (ops : List Oper) : Bool := ops.all fun o => match o.op with | .defer _ => false | _ => true
theorem noDefer_spec {ops : List Oper} (h : noDefer ops = true) {o : Oper} (ho : o ∈ ops) : ∀ c, o.op ≠ .defer c := fun c hc => by
  have := List.all_eq_true.1 h o ho
  rw [hc] at this
  cases this
section
variable {P : Program} {ops : Array Oper} {Q : Exit → Act → World → Prop} {r n : Nat}
theorem op_round {o : Oper} (hnd : ∀ c, o.op ≠ .defer c) {a : Act} {w : World} {K : Act → World → Prop} (h : o.wp P a w K Q) : o.wpIn (Fence.wide.inRound r) n P a w K Q := by
  unfold Oper.wp at h
  refine ⟨fun _ _ => trivial, ?_⟩
  rw [Fence.inRound_round, Oper.semAt_some r _ _ hnd]
  generalize (execOp a.eval o).run P w = x at *
  cases x with
  | ok nx w' =>
    cases nx with
    | value v => exact h
    | skip => exact h
    | defer d => exact h
    | enter f args => exact ⟨fun hd => (by cases hd), CallsIn.inRound r ((callsIn_wide.2 h).mono fun e w2 he => by cases e <;> exact he)⟩
    | row row args =>
      refine ⟨fun hd => (by cases hd), fun c cs _ => ?_⟩
      obtain ⟨v, w2, hR, hs⟩ := h c cs
      exact ⟨v, w2, hR, stepsIn_wide.2 hs⟩
    | _ => exact absurd h id
  | halt e w' => cases e <;> exact h
theorem ops_round (hnd : ∀ o ∈ ops.toList, ∀ c, o.op ≠ .defer c) (hQ : ∀ a w, ¬ Q .outgrown a w) : ∀ (l : List Nat) (a : Act) (w : World), wpOps P ops Q l a w → wpOpsIn (Fence.wide.inRound r) n P ops Q l a w
  | [], _, _, h => h
  | i :: rest, a, w, h => by
    unfold wpOps at h
    unfold wpOpsIn
    cases ho : ops[i]? with
    | none => rw [ho] at h; exact ops_round hnd hQ rest a w h
    | some o =>
      rw [ho] at h
      simp only at h ⊢
      split
      · rename_i hw
        rw [if_pos hw] at h
        rcases h with h | ⟨_, a0, w0, h⟩
        · exact op_round (hnd o (Array.mem_toList_iff.2 (Array.mem_of_getElem? ho))) (Oper.wp_mono (fun a w hh => ops_round hnd hQ rest a w hh) h)
        · exact absurd h (hQ _ _)
      · rename_i hw
        rw [if_neg hw] at h
        exact ⟨fun _ _ => trivial, ops_round hnd hQ rest _ _ h⟩
/-- a region that draws nothing -/
theorem reg_round {l : List Oper} {id : Nat} {a : Act} {w : World} (hnd : noDefer l = true) (h : wpList P l.toArray (QR Q) l a w) : (Code.region id l.toArray false).wpIn (Fence.wide.inRound r) n P Q a w := by
  refine wpIn_mono (Q := QR Q) (wpIn_region (ops_round (by simpa using fun o ho => noDefer_spec hnd ho) (fun _ _ h => h) _ _ _ ?_)) ?_
  · rw [List.range_eq_range', ← Array.length_toList, wpOps_eq_wpList l.toArray.toList 0 (by simp)]
    simpa using h
  · intro e a w h
    cases e <;> first | exact h | exact False.elim h
/-- one that does, by a plan -/
theorem plan_round {l : List Oper} {id : Nat} {a : Act} {w : World} (S : World → Prop) (bad plan : List Nat) (hm : P.follows .mixedOrders = true)
    (hok : (noDefer l && Region.noSelect l.toArray && planOk l.toArray bad plan (Array.replicate l.toArray.size false) && (plan.length == l.toArray.size)) = true)
    (hS : S w.drew) (h : S w.drew → wpT P l.toArray (QN (QR Q)) bad plan S a w.drew) : (Code.region id l.toArray true).wpIn (Fence.wide.inRound r) n P Q a w := by
  simp only [Bool.and_eq_true, beq_iff_eq] at hok
  have h1 := wpT_any hok.1.1.2 plan S l.toArray.size (Array.replicate l.toArray.size false) a w.drew (by omega) hok.1.2 (h hS)
  have h2 := wpAny_of_held _ _ _ _ h1
  refine wpIn_mono (Q := QN (QR Q)) (wpIn_region_draw fun t => ops_round (by simpa using fun o ho => noDefer_spec hok.1.1.1 ho) (fun _ _ h => h) _ _ _ ?_) ?_
  · simp only [Region.schedule, hm, Bool.true_or, if_true]
    exact wpAny_sound l.toArray.size t _ a _ h2
  · intro e a w h
    cases e <;> first | exact h | exact False.elim h
end
end Go.Proofs.YtfbhpkhpkaeagaaDoor

/- What a walk carries through a range over a function: boxes, rows. (hM) -/
namespace Go.Proofs.YtfbhpkhpkaeagaaDoor
set_option linter.unusedVariables false
set_option linter.unusedSimpArgs false
open Go.RowKit

theorem Row.book {B : Nat} {X Y : World} {ao : Option Addr} {n c sz : Nat} {xs : List Value} (h : Row X ao n c sz xs) (k : Book B X Y) : Row Y ao n c sz xs :=
  ⟨h.len, h.le, h.nil, fun ad ha i u hu => ⟨(h.cells ad ha i u hu).1, k.cell (h.cells ad ha i u hu).2⟩, h.one⟩
theorem Mem.book {B : Nat} {X Y : World} (k : Book B X Y) : ∀ {l : List (Nat × List Value)}, (∀ p ∈ l, p.1 < B) → Mem X l → Mem Y l
  | [], _, _ => trivial
  | (b, vs) :: l, hd, h => by
    have hb : b < B := hd (b, vs) (by simp)
    have he := k.low b hb
    refine ⟨⟨Nat.lt_of_lt_of_le h.1.1 k.size, fun i => (World.frozen?_of_block (w := X) (a := ⟨b, i, none⟩) he).trans (h.1.2.1 i), cellsAt.map (fun i u hu => (World.cell?_of_block (w := X) (a := ⟨b, i, none⟩) he).trans hu) vs 0 h.1.2.2⟩, Mem.book k (fun p hp => hd p (by simp [hp])) h.2⟩
theorem OwnN.book {B C : Nat} {E : TypeId} {sz : Nat} {X Y : World} {ao : Option Addr} {n c : Nat} {xs : List Value} (h : OwnN C E sz X ao n c xs) (k : Book B X Y) : OwnN C E sz Y ao n c xs := by
  rcases h with h | ⟨g, h1, h2⟩
  · exact .inl h
  · refine .inr ⟨g, h1, h2.1, ?_⟩
    rcases h2.2 with h3 | ⟨g', cap, cur, e1, e2, e3, e4⟩
    · exact .inl h3
    · exact .inr ⟨g', cap, cur, e1, e2, k.cells _ _ e3 rfl, e4⟩
/-- a row lies as it lay when a cell of another block is written -/
theorem Row.setFar {w : World} {ao : Option Addr} {n c sz : Nat} {xs : List Value} (h : Row w ao n c sz xs) (p : Addr) (v : Value) (hne : ∀ ad, ao = some ad → xs ≠ [] → ad.block ≠ p.block) : Row (w.setCell p v) ao n c sz xs :=
  ⟨h.len, h.le, h.nil, fun ad ha i u hu => ⟨(h.cells ad ha i u hu).1, by
    have hx : xs ≠ [] := by rintro rfl; simp at hu
    exact (World.cell?_of_block (a := ⟨ad.block, ad.off + i, none⟩) (Below.heap_setCell w p v ad.block (hne ad ha hx))).trans (h.cells ad ha i u hu).2⟩, h.one⟩
theorem Row.setFars {ao : Option Addr} {n c sz : Nat} {xs : List Value} {b : Nat} (hne : ∀ ad, ao = some ad → xs ≠ [] → ad.block ≠ b) : ∀ (vs : List Value) (o : Nat) (w : World), Row w ao n c sz xs → Row (w.setCells b o vs) ao n c sz xs
  | [], _, _, h => h
  | v :: r, o, w, h => by
    rw [World.setCells]
    exact Row.setFars hne r (o + 1) _ (h.setFar ⟨b, o, none⟩ v hne)
theorem Row.grown {w w' : World} {ao : Option Addr} {n c sz : Nat} {xs : List Value} {row : Option Nat} (h : Row w ao n c sz xs) (hg : w.grownBy w' row) (hne : ∀ k, row = some k → ∀ ad, ao = some ad → xs ≠ [] → ad.block ≠ k) : Row w' ao n c sz xs :=
  ⟨h.len, h.le, h.nil, fun ad ha i u hu => ⟨(h.cells ad ha i u hu).1, by
    have hx : xs ≠ [] := by rintro rfl; simp at hu
    exact grown_cell hg (h.cells ad ha i u hu).2 (fun k hk => hne k hk ad ha hx)⟩, h.one⟩
theorem ko_setCells (b : Nat) : ∀ (vs : List Value) (o : Nat) (w : World), KeepsOthers w (w.setCells b o vs)
  | [], _, w => KeepsOthers.refl w
  | v :: r, o, w => by rw [World.setCells]; exact (KeepsOthers.setCell w ⟨b, o, none⟩ v).trans (ko_setCells b r (o + 1) _)
theorem ko_drew (w : World) : KeepsOthers w w.drew := ⟨Nat.le_refl _, fun _ _ h _ => h⟩
section
variable {P : Program} {ops : Array Oper} {rest : List Oper} {op : Oper} {a : Act} {w : World} {Q : Exit → Act → World → Prop} {r n : Nat}
/-- in a round: a load, and a store, of many cells -/
theorem wpListR_load (hgd : op.guard = none) (ty : TypeId) (x : Operand) (ho : op.op = .load ty x) (b o : Nat) (hx : a.eval x = .pointer (some ⟨b, o, none⟩)) (cs : List Value) (d : TypeDesc) (hc : w.rangeAt b o cs)
    (hu : P.underlying ty = some d) (hd : d.isRow = true) (hi : (P.info? ty).map (·.size) = some cs.length)
    (h : wpListIn (Fence.wide.inRound r) n P ops Q rest (a.put op.dst (.agg cs.toArray)) w) : wpListIn (Fence.wide.inRound r) n P ops Q (op :: rest) a w :=
  wpListIn_plain hgd fun _ hK => op_round (by rw [ho]; intro c h; cases h) (Go.wp_load_mid ty x ho b o hx cs d hc hu hd hi (hK _ _ h))
theorem wpListR_store (hgd : op.guard = none) (ty : TypeId) (x y : Operand) (ho : op.op = .store ty x y) (b off : Nat) (cells : Array Value) (hx : a.eval x = .pointer (some ⟨b, off, none⟩)) (hy : a.eval y = .agg cells) (ht : w.there b off cells.size)
    (hi : (P.info? ty).map (·.size) = some cells.size) (h1 : cells.all (·.oneCell') = true)
    (h : wpListIn (Fence.wide.inRound r) n P ops Q rest (a.put op.dst undef) (w.setCells b off cells.toList)) : wpListIn (Fence.wide.inRound r) n P ops Q (op :: rest) a w :=
  wpListIn_plain hgd fun _ hK => op_round (by rw [ho]; intro c h; cases h) (Go.wp_store_mid ty x y ho b off cells hx hy ht hi h1 (hK _ _ h))
/-- a plain region's operation of whatever make -/
theorem wpListR_op (hgd : op.guard = none) (hnd : ∀ c, op.op ≠ .defer c) (h : ∀ K : Act → World → Prop, (∀ a w, wpListIn (Fence.wide.inRound r) n P ops Q rest a w → K a w) → op.wp P a w K Q) : wpListIn (Fence.wide.inRound r) n P ops Q (op :: rest) a w :=
  wpListIn_plain hgd fun K hK => op_round hnd (h K hK)
theorem rangeAt_putObj {b o D : Nat} {X : World} {ob : Obj} {cs : List Value} (h : X.rangeAt b o cs) (hne : b ≠ D) : (X.putObj D ob).rangeAt b o cs := fun j v hj =>
  (World.cell?_of_block (w := X) (a := ⟨b, o + j, none⟩) (World.putObj_heap_other hne)).trans (h j v hj)
theorem bl_putObj {B D : Nat} {X Y : World} (h : Below B X Y) (hD : B ≤ D) (ob : Obj) : Below B X (Y.putObj D ob) :=
  ⟨h.os, h.tape, h.output, by simpa using h.size, fun k hk => (World.putObj_heap_other (by omega)).trans (h.block k hk)⟩
end
end Go.Proofs.YtfbhpkhpkaeagaaDoor
