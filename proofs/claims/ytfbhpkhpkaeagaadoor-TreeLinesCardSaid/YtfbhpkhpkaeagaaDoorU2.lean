/- '==' and '!=' on arrays of integers. -/
import Derived.Test.YtfbhpkhpkaeagaaDoorBase
namespace Go.Proofs.YtfbhpkhpkaeagaaDoor
set_option linter.unusedVariables false
set_option linter.unusedSimpArgs false
open Go.RowKit

theorem run_part_int (P : Program) (e : TypeId) (k : IntKind) (he : P.underlying e = some (.int k)) (zs : List Int) (i : Nat) (hlt : i < zs.length) (w : World) :
    (part e (zs.map (Value.int k)).toArray i).run P w = .ok (.int k zs[i]) w := by
  have hg : ((zs.map (Value.int k)).toArray)[i]? = some (.int k zs[i]) := by simp [hlt]
  unfold part isAgg
  simp only [Sem.run_bind, run_underlying he, Result.andThen_ok, Sem.run_pure]
  simp [hlt]

theorem eqArr (P : Program) (d n : Nat) (t e : TypeId) (k : IntKind) (ht : P.underlying t = some (.array n e)) (he : P.underlying e = some (.int k)) (hi : (P.info? e).map (·.size) = some 1)
    (zs ys : List Int) (hz : zs.length = n) (hy : ys.length = n) (w : World) :
    (Op.equalIn (d + 2) t (.agg (zs.map (Value.int k)).toArray) (.agg (ys.map (Value.int k)).toArray)).run P w = .ok (zs == ys) w := by
  have hs : (sizeOf e).run P w = .ok 1 w := by
    obtain ⟨i, h1, h2⟩ := Option.map_eq_some_iff.1 hi
    simp [sizeOf, typeInfo, h1, h2]
  have key : ∀ (m s : Nat), s + m = n → (forIn (List.range' s m) ((none : Option Bool), ()) fun i __s => do
              let x ← part e (List.map (Value.int k) zs).toArray (i * 1)
              let y ← part e (List.map (Value.int k) ys).toArray (i * 1)
              let b ← Op.equalIn (d + 1) e x y
              if b = false then pure (ForInStep.done (some false, ())) else pure (ForInStep.yield (none, ()))).run P w = .ok (if zs.drop s == ys.drop s then (none, ()) else (some false, ())) w := by
    intro m
    induction m with
    | zero =>
      intro s hs
      have h1 : zs.drop s = [] := List.drop_of_length_le (by omega)
      have h2 : ys.drop s = [] := List.drop_of_length_le (by omega)
      simp [h1, h2]
    | succ m ih =>
      intro s hs
      have h1 : s < zs.length := by omega
      have h2 : s < ys.length := by omega
      rw [List.range'_succ, List.forIn_cons]
      simp only [Nat.mul_one, Sem.run_bind, run_part_int P e k he zs s h1, run_part_int P e k he ys s h2, Result.andThen_ok, run_equalIn_int _ _ _ _ _ _ _ he, Sem.run_ite, Sem.run_pure]
      rw [List.drop_eq_getElem_cons h1, List.drop_eq_getElem_cons h2]
      have ih' := ih (s + 1) (by omega)
      simp only [Nat.mul_one] at ih'
      by_cases hq : zs[s] = ys[s]
      · simp only [hq, beq_self_eq_true, Bool.true_eq_false, if_false, Result.andThen_ok, List.cons_beq_cons, Bool.true_and]
        exact ih'
      · have hb : (zs[s] == ys[s]) = false := by simpa using hq
        simp only [hb, List.cons_beq_cons, Bool.false_and, Bool.false_eq_true, if_true, if_false, Result.andThen_ok, Sem.run_pure]
  unfold Op.equalIn
  simp only [Sem.run_bind, run_underlying ht, Result.andThen_ok]
  simp only [hs, Result.andThen_ok]
  have hk := key n 0 (by omega)
  simp only [List.drop_zero] at hk
  simp
  simp only [Nat.mul_one] at hk
  rw [hk]
  cases hb : (zs == ys) <;> simp [hb]

theorem eqlArr (P : Program) (n : Nat) (t e : TypeId) (k : IntKind) (ht : P.underlying t = some (.array n e)) (he : P.underlying e = some (.int k)) (hi : (P.info? e).map (·.size) = some 1)
    (zs ys : List Int) (hz : zs.length = n) (hy : ys.length = n) (w : World) :
    (binOp .eql t (.agg (zs.map (Value.int k)).toArray) (.agg (ys.map (Value.int k)).toArray)).run P w = .ok (.bool (zs == ys)) w := by
  rw [run_eql_struct, eqArr P 9998 n t e k ht he hi zs ys hz hy w]
  rfl
theorem neqArr (P : Program) (n : Nat) (t e : TypeId) (k : IntKind) (ht : P.underlying t = some (.array n e)) (he : P.underlying e = some (.int k)) (hi : (P.info? e).map (·.size) = some 1)
    (zs ys : List Int) (hz : zs.length = n) (hy : ys.length = n) (w : World) :
    (binOp .neq t (.agg (zs.map (Value.int k)).toArray) (.agg (ys.map (Value.int k)).toArray)).run P w = .ok (.bool (!(zs == ys))) w := by
  rw [run_neq_struct, eqArr P 9998 n t e k ht he hi zs ys hz hy w]
  rfl
end Go.Proofs.YtfbhpkhpkaeagaaDoor
