/- Float: its words. -/
import Derived.Test.YtfbhpkhpkaeagaaDoorFloat5
import Derived.Test.YtfbhpkhpkaeagaaDoorUDiv
namespace Go.Proofs.YtfbhpkhpkaeagaaDoor
set_option linter.unusedVariables false
set_option linter.unusedSimpArgs false
open Go.RowKit

theorem boxMem {w : World} {g : Nat} {vs : List Value} {t : TypeId} (hg : g < w.heap.size) (h : w.heap[g]? = some (.cells vs.toArray t)) : Mem w [(g, vs)] := by
  refine ⟨⟨hg, fun i => by simp [World.frozen?, h], ?_⟩, trivial⟩
  have key : ∀ (us : List Value) (i : Nat), vs.drop i = us → cellsAt w g i us := by
    intro us
    induction us with
    | nil => intro i _; exact trivial
    | cons u r ih =>
      intro i hi
      have hl : i < vs.length := by
        rcases Nat.lt_or_ge i vs.length with h1 | h1
        · exact h1
        · rw [List.drop_of_length_le h1] at hi; cases hi
      rw [List.drop_eq_getElem_cons hl] at hi
      simp only [List.cons.injEq] at hi
      exact ⟨by simp [World.cell?, h, hl, hi.1], ih (i + 1) hi.2⟩
  exact key vs 0 rfl

section
variable {P : Program} {ops : List Oper} {Q : Exit → Act → World → Prop} {S : World → Prop} {E : Act → Prop} {rest : List Nat} {a : Act} {w : World} {i : Nat} {o : Oper} {v : Value}
theorem wpG_nil (h : E a) : wpG P ops.toArray S E [] a := h
theorem wpG_take (ho : ops[i]? = some o) (hw : Region.wanted o (yielded ops.toArray a.tmps) = true) (hy : ∀ w, S w → (execOp a.eval o).run P w = .ok (.value v) w)
    (h : wpG P ops.toArray S E rest (a.put o.dst v)) : wpG P ops.toArray S E (i :: rest) a :=
  ⟨o, v, by simpa using ho, .inl ⟨hw, fun w hS => by rw [hy w hS]; exact ⟨rfl, hS, Below.refl _ _⟩⟩, h⟩
theorem wpG_pass (ho : ops[i]? = some o) (hw : Region.wanted o (yielded ops.toArray a.tmps) = false)
    (h : wpG P ops.toArray S E rest (a.put o.dst undef)) : wpG P ops.toArray S E (i :: rest) a :=
  ⟨o, undef, by simpa using ho, .inr ⟨hw, rfl⟩, h⟩
theorem wpG_call {f : Nat} {args : Array Value} (hSb : ∀ w w', S w → Below w.heap.size w w' → S w') (hc : ∀ w, Calls P f args w fun e w' => e = .returned v ∧ Below w.heap.size w w')
    (ho : ops[i]? = some o) (hw : Region.wanted o (yielded ops.toArray a.tmps) = true) (hy : ∀ w, S w → (execOp a.eval o).run P w = .ok (.enter f args) w)
    (h : wpG P ops.toArray S E rest (a.put o.dst v)) : wpG P ops.toArray S E (i :: rest) a :=
  ⟨o, v, by simpa using ho, .inl ⟨hw, fun w hS => by
    rw [hy w hS]
    exact (hc w).mono fun e w' h => ⟨h.1, hSb _ _ hS h.2, h.2⟩⟩, h⟩
theorem wpOps_go (ho : ops[i]? = some o)
    (h : if Region.wanted o (yielded ops.toArray a.tmps) = true then Oper.wp P o a w (fun a' w' => wpOps P ops.toArray Q rest a' w') Q else wpOps P ops.toArray Q rest (a.put o.dst undef) w) : wpOps P ops.toArray Q (i :: rest) a w := by
  rw [wpOps_cons]
  have ho' : ops.toArray[i]? = some o := by simpa using ho
  unfold wpOp
  simp only [ho']
  split
  · rename_i hw; rw [if_pos hw] at h; exact .inl h
  · rename_i hw; rw [if_neg hw] at h; exact h
end

theorem box_one {Z : Nat → Obj} {base : Nat} {al : List Nat} {G : Nat → Option Nat} {w : World} (hG : ∀ k ∈ al, G k ≠ none) (hb : Boxes Z base al G w) (k : Nat) (hk : k ∈ al) {vs : List Value} {t : TypeId} (hz : Z k = .cells vs.toArray t) :
    ∃ g, G k = some g ∧ base ≤ g ∧ Mem w [(g, vs)] := by
  obtain ⟨g, e⟩ := Option.ne_none_iff_exists'.1 (hG k hk)
  obtain ⟨h1, h2, h3⟩ := hb.at_ k hk g e
  exact ⟨g, e, h1, boxMem h2 (h3.trans (congrArg some hz))⟩
theorem box_two {Z : Nat → Obj} {base : Nat} {i j : Nat} {G : Nat → Option Nat} {w : World} (hG : ∀ k ∈ [i, j], G k ≠ none) (hb : Boxes Z base [i, j] G w) (hij : i ≠ j) {vs us : List Value} {t u : TypeId} (hz : Z i = .cells vs.toArray t) (hy : Z j = .cells us.toArray u) :
    ∃ g g', G i = some g ∧ G j = some g' ∧ base ≤ g ∧ base ≤ g' ∧ g ≠ g' ∧ Mem w [(g', us), (g, vs)] := by
  obtain ⟨g, e, h1, m⟩ := box_one hG hb i (by simp) hz
  obtain ⟨g', e', h1', m'⟩ := box_one hG hb j (by simp) hy
  exact ⟨g, g', e, e', h1, h1', fun h => hb.unlike i (by simp) j (by simp) hij g e (h ▸ e'), m'.1, m.1, trivial⟩

theorem wpOps_none {P : Program} {ops : List Oper} {Q : Exit → Act → World → Prop} {a : Act} {w : World} (h : Q .normal a w) : wpOps P ops.toArray (QN Q) [] a w := h
theorem set_one {w : World} {base g : Nat} {L : List (Nat × List Value)} {y0 y1 y2 y3 : Int} (hL : ∀ p ∈ L, p.1 < base) (hg : base ≤ g) (h : Mem w [(g, [.int .u64 y0, .int .u64 y1, .int .u64 y2, .int .u64 y3])]) (hm : Mem w L) (q0 q1 q2 q3 : Int) :
    Mem (wset4 w g q0 q1 q2 q3) ((g, [.int .u64 q0, .int .u64 q1, .int .u64 q2, .int .u64 q3]) :: L) :=
  Mem.set4 q0 q1 q2 q3 (fun p hp => by have := hL p hp; omega) ⟨h.1, hm⟩
theorem set_two {w : World} {base g g' : Nat} {L : List (Nat × List Value)} {y0 y1 y2 y3 z0 z1 z2 z3 : Int} (hL : ∀ p ∈ L, p.1 < base) (hg : base ≤ g) (hg' : base ≤ g') (hne : g ≠ g')
    (h : Mem w [(g', [.int .u64 z0, .int .u64 z1, .int .u64 z2, .int .u64 z3]), (g, [.int .u64 y0, .int .u64 y1, .int .u64 y2, .int .u64 y3])]) (hm : Mem w L) (q0 q1 q2 q3 r0 r1 r2 r3 : Int) :
    Mem (wset4 w g q0 q1 q2 q3) [(g', [.int .u64 z0, .int .u64 z1, .int .u64 z2, .int .u64 z3])] ∧ Mem (wset4 (wset4 w g q0 q1 q2 q3) g' r0 r1 r2 r3) ((g', [.int .u64 r0, .int .u64 r1, .int .u64 r2, .int .u64 r3]) :: (g, [.int .u64 q0, .int .u64 q1, .int .u64 q2, .int .u64 q3]) :: L) := by
  have h1 : Mem (wset4 w g q0 q1 q2 q3) ((g, [.int .u64 q0, .int .u64 q1, .int .u64 q2, .int .u64 q3]) :: (g', [.int .u64 z0, .int .u64 z1, .int .u64 z2, .int .u64 z3]) :: L) :=
    Mem.set4 q0 q1 q2 q3 (fun p hp => by
      rcases List.mem_cons.1 hp with rfl | hp
      · exact fun e => hne e.symm
      · have := hL p hp; omega) ⟨h.2.1, h.1, hm⟩
  have h2 := Mem.set4 r0 r1 r2 r3 (fun p hp => by
      rcases List.mem_cons.1 hp with rfl | hp
      · exact hne
      · have := hL p hp; omega) (Mem.swap h1)
  exact ⟨⟨h1.2.1, trivial⟩, h2⟩

/-- what stands, and where the call began -/
def MB (w : World) (L : List (Nat × List Value)) (x : World) : Prop := Mem x L ∧ Below w.heap.size w x
theorem MB.later {w : World} {L : List (Nat × List Value)} (x y : World) (h : MB w L x) (hb : Below x.heap.size x y) : MB w L y := ⟨Mem.later hb h.1, bl_then h.2 hb⟩
end Go.Proofs.YtfbhpkhpkaeagaaDoor
