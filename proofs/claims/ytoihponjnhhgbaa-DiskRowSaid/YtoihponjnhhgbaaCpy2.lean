/- Cpy2: copy of a whole row of elements of any size onto a new one of the same length. -/
import Derived.Test.YtoihponjnhhgbaaCpy
namespace Go.Proofs.Ytoihponjnhhgbaa
set_option linter.unusedVariables false
set_option linter.unusedSimpArgs false
open Go.RowKit

section
variable {P : Program} {T E : TypeId} {z : Value} {sz wd : Nat}
theorem elt_size (he : Elt P T E z sz wd) : (P.info? E).map (·.size) = some sz := by
  have h := he.hi
  cases hq : P.info? E with
  | none => simp [hq] at h
  | some i => simp [hq] at h; simp [h]

theorem run_copyW (he : Elt P T E z sz wd) (w0 w : World) (hb0 : Below w0.heap.size w0 w) (ty : TypeId)
    (g n cap : Nat) (xs : List Value) (hr : w.ownsRow w0.heap.size E sz (.slice (some ⟨g, 0, none⟩) n cap) n xs)
    (ax : Option Addr) (cx : Nat) (ys : List Value) (hy : Row w ax n cx sz ys) :
    ∃ w', (Builtin.copy_ #[T, T] ty #[.slice (some ⟨g, 0, none⟩) n cap, .slice ax n cx]).run P w = .ok (goInt n) w' ∧ w'.ownsRow w0.heap.size E sz (.slice (some ⟨g, 0, none⟩) n cap) n ys ∧ Below w0.heap.size w0 w' ∧
      (∀ k, k ≠ g → w'.heap[k]? = w.heap[k]?) ∧ w'.heap.size = w.heap.size := by
  have hyl := hy.len
  have hp := he.pos
  have hmin : Nat.min n n = n := Nat.min_self n
  cases hq : P.info? E with
  | none => have := elt_size he; simp [hq] at this
  | some i =>
    have hi : i.size = sz := by have := elt_size he; simpa [hq] using this
    rcases hr.2 with ⟨h0, _⟩ | ⟨g', cap', cur, hv, hB, hg, hn, hmx, hsz, ht⟩
    · cases h0
    · simp only [Value.slice.injEq, Option.some.injEq, Addr.mk.injEq, and_true, true_and] at hv
      obtain ⟨rfl, rfl⟩ := hv
      have hle : n * sz ≤ cap * sz := Nat.mul_le_mul_right _ hn
      cases ax with
      | none =>
        have := hy.nil rfl
        have h0 : n = 0 := by have := hy.le; omega
        subst h0
        have hys : ys = [] := List.eq_nil_of_length_eq_zero (by simpa using hyl)
        have hxs : xs = [] := List.eq_nil_of_length_eq_zero (by simpa using hr.1)
        subst hys
        subst hxs
        exact ⟨w, by simp [Builtin.copy_, run_underlying he.ht, Builtin.lenOf, Builtin.firstCells, sizeOf, typeInfo, hq, hi, storeCells], hr, hb0, fun _ _ => rfl, rfl⟩
      | some ad =>
        have hl := run_loadCells_list (P := P) w ad ys (fun j v hj => by
          rw [addr_add (hy.cells ad rfl j v hj).1]
          exact (hy.cells ad rfl j v hj).2)
        have hst := run_storeCells_at P g 0 E ys 0 cur w hg (by rw [hyl]; omega) hy.one
        rw [hyl] at hl
        refine ⟨w.setRow g (cur.toList.take 0 ++ ys ++ cur.toList.drop (0 + ys.length)).toArray, ?_, ⟨hyl, .inr ⟨g, cap, (ys ++ cur.toList.drop ys.length).toArray, rfl, hB, ?_, hn, hmx, ?_, ?_⟩⟩, below_setRow hb0 hB _, fun k hk => ?_, ?_⟩
        · simp [Builtin.copy_, run_underlying he.ht, Builtin.lenOf, Builtin.firstCells, sizeOf, typeInfo, hq, hi, hmin, hl, hst]
        · have := setRow_heap w g cur (cur.toList.take 0 ++ ys ++ cur.toList.drop (0 + ys.length)).toArray E _ hg
          simpa using this
        · simp [hyl, hsz]; omega
        · simp [List.take_append, hyl]
        · simp [World.setRow, Array.getElem?_modify, Ne.symm hk]
        · simp [World.setRow]

theorem wpList_copyW (he : Elt P T E z sz wd) (w0 w : World) (hb0 : Below w0.heap.size w0 w) {ops : Array Oper} {rest : List Oper} {o : Oper} {a : Act} {Q : Exit → Act → World → Prop} (hgd : o.guard = none) (d s : Operand)
    (ho : o.op = .call { callee := .builtin .copy, args := #[d, s], argTypes := #[T, T] })
    (g n cap : Nat) (xs : List Value) (hr : w.ownsRow w0.heap.size E sz (.slice (some ⟨g, 0, none⟩) n cap) n xs) (hd : a.eval d = .slice (some ⟨g, 0, none⟩) n cap)
    (ax : Option Addr) (cx : Nat) (ys : List Value) (hs : a.eval s = .slice ax n cx) (hy : Row w ax n cx sz ys)
    (h : ∀ w', w'.ownsRow w0.heap.size E sz (.slice (some ⟨g, 0, none⟩) n cap) n ys → Below w0.heap.size w0 w' → (∀ k, k ≠ g → w'.heap[k]? = w.heap[k]?) → w'.heap.size = w.heap.size → wpList P ops Q rest (a.put o.dst (goInt n)) w') :
    wpList P ops Q (o :: rest) a w := by
  refine wpList_plain hgd fun K hK => ?_
  obtain ⟨w', hrun, h1, h2, h3, h4⟩ := run_copyW he w0 w hb0 o.type g n cap xs hr ax cx ys hy
  unfold Oper.wp
  simp [execOp, ho, resolve, invoke, builtin, hd, hs, hrun, Result.andThen]
  exact hK _ _ (h w' h1 h2 h3 h4)
end
end Go.Proofs.Ytoihponjnhhgbaa
