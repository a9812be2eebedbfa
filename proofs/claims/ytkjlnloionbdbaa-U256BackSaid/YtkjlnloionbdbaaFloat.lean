/- Float: a region that draws its order and holds calls: the operations that yield the same value in every world that meets S, calls among them, walked once in a planned order. (Part one: the values.) -/
import Derived.Test.YtkjlnloionbdbaaUnd
namespace Go.Proofs.Ytkjlnloionbdbaa
set_option linter.unusedVariables false
set_option linter.unusedSimpArgs false
open Go.RowKit

/-- the run yields v, and T holds of the world behind it -/
def GivesV (P : Program) (r : Result Next) (v : Value) (T : World → Prop) : Prop :=
  match r with
  | .ok (.value u) w' => u = v ∧ T w'
  | .ok (.enter f args) w' => Calls P f args w' fun e w'' => e = .returned v ∧ T w''
  | _ => False

theorem GivesV.wp {P : Program} {o : Oper} {a : Act} {w : World} {K : Act → World → Prop} {Q : Exit → Act → World → Prop} {v : Value} {T : World → Prop}
    (h : GivesV P ((execOp a.eval o).run P w) v T) (hK : ∀ w', T w' → K (a.put o.dst v) w') : Oper.wp P o a w K Q := by
  unfold Oper.wp
  generalize ((execOp a.eval o).run P w) = r at *
  cases r with
  | ok n w' =>
    cases n <;> simp only [GivesV] at h <;> simp only [Oper.upon]
    case value u => obtain ⟨rfl, h⟩ := h; exact hK _ h
    case enter f args =>
      refine Calls.mono h fun e w'' he => ?_
      obtain ⟨rfl, h⟩ := he
      exact hK _ h
  | halt x w' => exact h.elim

/-- In state a, in every world that meets S, o yields v (or is passed over), keeps S, and only makes memory. -/
def YG (P : Program) (ops : Array Oper) (S : World → Prop) (o : Oper) (v : Value) (a : Act) : Prop :=
  (Region.wanted o (yielded ops a.tmps) = true ∧ ∀ w, S w → GivesV P ((execOp a.eval o).run P w) v (fun w' => S w' ∧ Below w.heap.size w w')) ∨
  (Region.wanted o (yielded ops a.tmps) = false ∧ v = undef)

section
variable {P : Program} {ops : Array Oper} {S : World → Prop}
theorem YG.put_iff {o : Oper} {v : Value} {a : Act} (hs : ∀ cs b, o.op ≠ .select cs b) {dst : Option Tmp} {u : Value} (h : ∀ d, dst = some d → d ∉ o.looksAt ops) :
    YG P ops S o v (a.put dst u) ↔ YG P ops S o v a := by
  unfold YG
  rw [execOp_put o hs a dst u h, wanted_put o a dst u h]

/-- the plan's walk over values alone -/
def wpG (P : Program) (ops : Array Oper) (S : World → Prop) (E : Act → Prop) : List Nat → Act → Prop
  | [], a => E a
  | i :: rest, a => ∃ o v, ops[i]? = some o ∧ YG P ops S o v a ∧ wpG P ops S E rest (a.put o.dst v)

/-- j waits for i -/
def Waits (ops : Array Oper) (j i : Nat) : Prop := ∃ oj, ops[j]? = some oj ∧ ∃ e ∈ oj.after, Region.binds .any e = true ∧ e.on = i
/-- i stands ahead of j in the plan: j waits for i, or the two are apart -/
def Fits (ops : Array Oper) (i j : Nat) : Prop := Waits ops j i ∨ ∀ oi oj, ops[i]? = some oi → ops[j]? = some oj → oi.apart ops oj = true

theorem wpG_pull (hsel : ∀ (j : Nat) (o : Oper) cs b, ops[j]? = some o → o.op ≠ .select cs b) {E : Act → Prop} (j : Nat) :
    ∀ (rem : List Nat) (a : Act), j ∈ rem → rem.Pairwise (Fits ops) → (∀ i, i ∈ rem → i ≠ j → ¬ Waits ops j i) → wpG P ops S E rem a →
      ∃ o v, ops[j]? = some o ∧ YG P ops S o v a ∧ wpG P ops S E (rem.erase j) (a.put o.dst v) := by
  intro rem
  induction rem with
  | nil => intro a hj; cases hj
  | cons i rest ih =>
    intro a hj hp hw h
    obtain ⟨oi, vi, hoi, hyi, hrest⟩ := h
    by_cases hij : i = j
    · subst hij
      exact ⟨oi, vi, hoi, hyi, by rw [List.erase_cons_head]; exact hrest⟩
    · have hjr : j ∈ rest := by
        rcases List.mem_cons.1 hj with h | h
        · exact absurd h.symm hij
        · exact h
      rw [List.pairwise_cons] at hp
      have hap : ∀ oj, ops[j]? = some oj → oi.apart ops oj = true := fun oj hoj => by
        rcases hp.1 j hjr with h | h
        · exact absurd h (hw i (by simp) hij)
        · exact h oi oj hoi hoj
      obtain ⟨oj, vj, hoj, hyj, hr⟩ := ih (a.put oi.dst vi) hjr hp.2 (fun k hk hkj => hw k (by simp [hk]) hkj) hrest
      obtain ⟨h1, h2, h3⟩ := Oper.apart_spec (hap oj hoj)
      refine ⟨oj, vj, hoj, (YG.put_iff (fun cs b => hsel j oj cs b hoj) h1).1 hyj, ?_⟩
      rw [List.erase_cons_tail (by simpa using hij)]
      refine ⟨oi, vi, hoi, (YG.put_iff (fun cs b => hsel i oi cs b hoi) h3).2 hyi, ?_⟩
      rw [← Act.put_comm a vi vj h2]
      exact hr
end
end Go.Proofs.Ytkjlnloionbdbaa
