/- Cpy: the builtin copy onto a part of a row of the call's own. -/
import Derived.Test.YtfbhpkhpkaeagaaDoorApp2
import Derived.Laws.CopyOwn
namespace Go.Proofs.YtfbhpkhpkaeagaaDoor
set_option linter.unusedVariables false
set_option linter.unusedSimpArgs false
open Go.RowKit

def spl {α : Type} (xs : List α) (off : Nat) (ys : List α) : List α := xs.take off ++ (ys ++ xs.drop (off + ys.length))
theorem spl_len {α : Type} (xs ys : List α) (off : Nat) (h : off + ys.length ≤ xs.length) : (spl xs off ys).length = xs.length := by simp [spl]; omega
theorem spl_map {α β : Type} (f : α → β) (xs ys : List α) (off : Nat) : spl (xs.map f) off (ys.map f) = (spl xs off ys).map f := by simp [spl]
theorem spl_take {α : Type} (cur ys : List α) (off n : Nat) (h : off + ys.length ≤ n) (hn : n ≤ cur.length) : (spl cur off ys).take n = spl (cur.take n) off ys := by
  simp only [spl]
  have h1 : (cur.take off).length = off := by simp; omega
  rw [List.take_append, List.take_append, h1, List.take_take, List.take_take, List.take_of_length_le (show ys.length ≤ n - off by omega), List.drop_take, Nat.min_comm n off]
  congr 3
  omega
theorem info_size {P : Program} {T E : TypeId} {z : Value} {wd : Nat} (he : Elt P T E z 1 wd) : (P.info? E).map (·.size) = some 1 := by
  have h := he.hi
  cases hq : P.info? E with
  | none => simp [hq] at h
  | some i => simp [hq] at h; simp [h]

section
variable {P : Program} {T E : TypeId} {z : Value} {wd : Nat}
theorem run_copyN (he : Elt P T E z 1 wd) (w0 w : World) (hb0 : Below w0.heap.size w0 w) (ty : TypeId)
    (g n cap : Nat) (xs : List Value) (hr : w.ownsRow w0.heap.size E 1 (.slice (some ⟨g, 0, none⟩) n cap) n xs) (off dLen dCap : Nat)
    (ax : Option Addr) (m cx : Nat) (ys : List Value) (hy : Row w ax m cx 1 ys) (hm : m ≤ dLen) (hfit : off + m ≤ n) :
    ∃ w', (Builtin.copy_ #[T, T] ty #[.slice (some ⟨g, off, none⟩) dLen dCap, .slice ax m cx]).run P w = .ok (goInt m) w' ∧ w'.ownsRow w0.heap.size E 1 (.slice (some ⟨g, 0, none⟩) n cap) n (spl xs off ys) ∧ Below w0.heap.size w0 w' ∧
      (∀ k, k ≠ g → w'.heap[k]? = w.heap[k]?) ∧ w'.heap.size = w.heap.size := by
  have hyl : ys.length = m := by simpa using hy.len
  have hmin : Nat.min m dLen = m := Nat.min_eq_left hm
  by_cases h0 : m = 0
  · have hys : ys = [] := List.eq_nil_of_length_eq_zero (by omega)
    refine ⟨w, ?_, by rw [hys]; simpa [spl] using hr, hb0, fun _ _ => rfl, rfl⟩
    have := run_copy_none (P := P) w T T ty E (some ⟨g, off, none⟩) ax dLen dCap m cx he.ht (info_size he) (by rw [hmin, h0])
    rw [this, h0]
    rfl
  rcases hr.2 with ⟨h0, _⟩ | ⟨g', cap', cur, hv, hB, hg, hn, hmx, hsz, ht⟩
  · cases h0
  · simp only [Value.slice.injEq, Option.some.injEq, Addr.mk.injEq, and_true, true_and] at hv
    obtain ⟨rfl, rfl⟩ := hv
    cases ax with
    | none => have := hy.nil rfl; have := hy.le; omega
    | some ad =>
      have hrun := run_copy_row (P := P) w T T ty E g off dLen dCap ad m cx cur E ys he.ht (info_size he) hg (by rw [hyl, hmin]) (fun j v hj => by
        rw [addr_add (hy.cells ad rfl j v hj).1]
        exact (hy.cells ad rfl j v hj).2) (by omega) hy.one
      rw [hyl] at hrun
      refine ⟨_, hrun, ⟨?_, .inr ⟨g, cap, (spl cur.toList off ys).toArray, rfl, hB, ?_, hn, hmx, ?_, ?_⟩⟩, below_setRow hb0 hB _, fun k hk => ?_, ?_⟩
      · rw [spl_len _ _ _ (by have := hr.1; omega)]; exact hr.1
      · have := setRow_heap w g cur (spl cur.toList off ys).toArray E _ hg
        simpa [spl, hyl] using this
      · have := spl_len cur.toList ys off (by simp; omega)
        simp only [List.size_toArray, this]
        simpa using hsz
      · rw [Nat.mul_one] at ht ⊢
        show ((spl cur.toList off ys).take n) = _
        rw [spl_take _ _ _ _ (by omega) (by simp; omega), ht]
      · simp [World.setRow, Array.getElem?_modify, Ne.symm hk]
      · simp [World.setRow]

theorem wpList_copyN (he : Elt P T E z 1 wd) (w0 w : World) (hb0 : Below w0.heap.size w0 w) {ops : Array Oper} {rest : List Oper} {o : Oper} {a : Act} {Q : Exit → Act → World → Prop} (hgd : o.guard = none) (d s : Operand)
    (ho : o.op = .call { callee := .builtin .copy, args := #[d, s], argTypes := #[T, T] })
    (g n cap : Nat) (xs : List Value) (hr : w.ownsRow w0.heap.size E 1 (.slice (some ⟨g, 0, none⟩) n cap) n xs) (off dLen dCap : Nat) (hd : a.eval d = .slice (some ⟨g, off, none⟩) dLen dCap)
    (ax : Option Addr) (m cx : Nat) (ys : List Value) (hs : a.eval s = .slice ax m cx) (hy : Row w ax m cx 1 ys) (hm : m ≤ dLen) (hfit : off + m ≤ n)
    (h : ∀ w', w'.ownsRow w0.heap.size E 1 (.slice (some ⟨g, 0, none⟩) n cap) n (spl xs off ys) → Below w0.heap.size w0 w' → (∀ k, k ≠ g → w'.heap[k]? = w.heap[k]?) → w'.heap.size = w.heap.size → wpList P ops Q rest (a.put o.dst (goInt m)) w') :
    wpList P ops Q (o :: rest) a w := by
  refine wpList_plain hgd fun K hK => ?_
  obtain ⟨w', hrun, h1, h2, h3, h4⟩ := run_copyN he w0 w hb0 o.type g n cap xs hr off dLen dCap ax m cx ys hy hm hfit
  unfold Oper.wp
  simp [execOp, ho, resolve, invoke, builtin, hd, hs, hrun, Result.andThen]
  exact hK _ _ (h w' h1 h2 h3 h4)

theorem step_copyN (he : Elt P T E z 1 wd) (w0 w : World) (hb0 : Below w0.heap.size w0 w) {ops : Array Oper} {o : Oper} {a : Act} {K : Act → World → Prop} {Q : Exit → Act → World → Prop} {E' : Prop} (hgd : o.guard = none) (d s : Operand)
    (ho : o.op = .call { callee := .builtin .copy, args := #[d, s], argTypes := #[T, T] })
    (g n cap : Nat) (xs : List Value) (hr : w.ownsRow w0.heap.size E 1 (.slice (some ⟨g, 0, none⟩) n cap) n xs) (off dLen dCap : Nat) (hd : a.eval d = .slice (some ⟨g, off, none⟩) dLen dCap)
    (ax : Option Addr) (m cx : Nat) (ys : List Value) (hs : a.eval s = .slice ax m cx) (hy : Row w ax m cx 1 ys) (hm : m ≤ dLen) (hfit : off + m ≤ n)
    (h : ∀ w', w'.ownsRow w0.heap.size E 1 (.slice (some ⟨g, 0, none⟩) n cap) n (spl xs off ys) → Below w0.heap.size w0 w' → (∀ k, k ≠ g → w'.heap[k]? = w.heap[k]?) → w'.heap.size = w.heap.size → K (a.put o.dst (goInt m)) w') :
    if Region.wanted o (yielded ops a.tmps) = true then Oper.wp P o a w K Q else E' := by
  have hw : Region.wanted o (yielded ops a.tmps) = true := by simp [Region.wanted, hgd]
  rw [if_pos hw]
  obtain ⟨w', hrun, h1, h2, h3, h4⟩ := run_copyN he w0 w hb0 o.type g n cap xs hr off dLen dCap ax m cx ys hy hm hfit
  unfold Oper.wp
  simp [execOp, ho, resolve, invoke, builtin, hd, hs, hrun, Result.andThen]
  exact h w' h1 h2 h3 h4
end
end Go.Proofs.YtfbhpkhpkaeagaaDoor
