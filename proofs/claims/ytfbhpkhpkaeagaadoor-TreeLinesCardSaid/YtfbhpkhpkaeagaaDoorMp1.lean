/- A map from hashes to numbers: looked up, and written, as a list of hashes in their order. -/
import Derived.Test.YtfbhpkhpkaeagaaDoorHx2
namespace Go.Proofs.YtfbhpkhpkaeagaaDoor
set_option linter.unusedVariables false
set_option linter.unusedSimpArgs false
open Go.RowKit

/-- the entries: the i-th hash tells i -/
def EntOk (es : Array MapEntry) (ids : List (Nat → Int)) : Prop := es.toList.map (fun e => (e.key, e.val)) = (ids.zipIdx).map fun p => (arr32 p.1, Value.int .i64 (p.2 : Int))
/-- where a hash stands first -/
def idxH : List (Nat → Int) → (Nat → Int) → Nat → Option Nat
  | [], _, _ => none
  | x :: r, f, i => if (hl f == hl x) = true then some i else idxH r f (i + 1)
theorem idxH_lt : ∀ (l : List (Nat → Int)) (f : Nat → Int) (i j : Nat), idxH l f i = some j → i ≤ j ∧ j < i + l.length
  | [], _, _, _, h => by cases h
  | x :: r, f, i, j, h => by
    unfold idxH at h
    split at h
    · cases h
      simp only [List.length_cons]
      omega
    · have := idxH_lt r f (i + 1) j h
      simp only [List.length_cons]
      omega
theorem idxH_get : ∀ (l : List (Nat → Int)) (f : Nat → Int) (i j : Nat), idxH l f i = some j → ∃ x, l[j - i]? = some x ∧ hl f = hl x
  | [], _, _, _, h => by cases h
  | x :: r, f, i, j, h => by
    unfold idxH at h
    split at h
    · rename_i hc
      cases h
      exact ⟨x, by simp, by simpa using hc⟩
    · obtain ⟨y, hy, he⟩ := idxH_get r f (i + 1) j h
      have := (idxH_lt r f (i + 1) j h).1
      refine ⟨y, ?_, he⟩
      rw [show j - i = (j - (i + 1)) + 1 by omega, List.getElem?_cons_succ]
      exact hy

theorem equal_h (f g : Nat → Int) (w : World) : (Op.equal 24 (arr32 f) (arr32 g)).run Tryd.prog w = .ok (hl f == hl g) w := by
  have h := eq_h f g _ rfl w
  have hT : Tryd.prog.underlying 24 = some (.array 32 5) := Tryd.underlying24
  have e : (binOp .eql 24 (arr32 f) (arr32 g)).run Tryd.prog w = (Value.bool <$> Op.equal 24 (arr32 f) (arr32 g)).run Tryd.prog w := by
    unfold arr32
    rfl
  rw [e] at h
  rw [Sem.run_map] at h
  revert h
  cases (Op.equal 24 (arr32 f) (arr32 g)).run Tryd.prog w with
  | ok v w' =>
    intro h
    simp at h
    simp [h]
  | _ => intro h; simp at h

theorem findAsking_h (f : Nat → Int) (w : World) : ∀ (es : List MapEntry) (ids : List (Nat → Int)) (i : Nat), es.map (fun e => (e.key, e.val)) = (ids.zipIdx i).map (fun p => (arr32 p.1, Value.int .i64 (p.2 : Int))) →
    (Instr.findAsking 24 (arr32 f) es i).run Tryd.prog w = .ok ((idxH ids f i).map fun j => (j, Value.int .i64 (j : Int))) w
  | [], [], i, _ => rfl
  | [], _ :: _, i, h => by simp at h
  | _ :: _, [], i, h => by simp at h
  | e :: es, x :: ids, i, h => by
    simp only [List.map_cons, List.zipIdx_cons, List.cons.injEq, Prod.mk.injEq] at h
    obtain ⟨⟨hk, hv⟩, hr⟩ := h
    unfold Instr.findAsking idxH
    rw [Sem.run_bind, hk, equal_h]
    cases hb : (hl f == hl x) with
    | true => simp [Result.andThen, hv]
    | false =>
      have := findAsking_h f w es ids (i + 1) hr
      simp only [Result.andThen]
      exact this
theorem findKey_h (f : Nat → Int) (w : World) (es : List MapEntry) (ids : List (Nat → Int)) (h : es.map (fun e => (e.key, e.val)) = (ids.zipIdx).map (fun p => (arr32 p.1, Value.int .i64 (p.2 : Int)))) :
    (Instr.findKey 24 (arr32 f) es).run Tryd.prog w = .ok ((idxH ids f 0).map fun j => (j, Value.int .i64 (j : Int))) w := by
  have hT : Tryd.prog.underlying 24 = some (.array 32 5) := Tryd.underlying24
  have hn : ∀ x : World, (underlying 24).run Tryd.prog x = .ok (.array 32 5) x := fun x => run_underlying hT x
  unfold Instr.findKey
  rw [Sem.run_bind, hn]
  simp only [Result.andThen]
  have h2 := findAsking_h f w es ids 0 h
  cases es with
  | nil =>
    cases ids with
    | nil => rfl
    | cons _ _ => simp at h
  | cons e es =>
    have : Instr.findNow (.array 32 5) (arr32 f) (e :: es) 0 = none := by
      unfold Instr.findNow Instr.sameNow
      rfl
    rw [this]
    exact h2
set_option maxRecDepth 100000 in
theorem checkKey_h (b : Bool) (f : Nat → Int) (w : World) : (Instr.checkKey b 10000 24 (arr32 f)).run Tryd.prog w = .ok () w := by kernel_rfl

theorem getObj_m {w : World} {r : Nat} {es : Array MapEntry} {clk : Nat} (hr : w.heap[r]? = some (.map es clk)) : (getObj r).run Tryd.prog w = .ok (.map es clk) w := by simp [getObj, Sem.run, hr]
/-- another map in a block -/
def putM (w : World) (r : Nat) (o : Obj) : World := { w with heap := w.heap.setIfInBounds r o }
theorem setObj_m {w : World} {r : Nat} {o : Obj} {es : Array MapEntry} {clk : Nat} (hr : w.heap[r]? = some (.map es clk)) : (setObj r o).run Tryd.prog w = .ok () (putM w r o) := by simp [setObj, Sem.run, hr, putM]
theorem lookup_h (T : TypeId) (hT : Tryd.prog.underlying T = some (.map 24 3)) {w : World} {r : Nat} {es : Array MapEntry} {clk : Nat} (hr : w.heap[r]? = some (.map es clk)) {ids : List (Nat → Int)} (h : EntOk es ids) (f : Nat → Int) :
    (Instr.lookup T (.map (some r)) (arr32 f) true).run Tryd.prog w = .ok (.tuple #[.int .i64 (((idxH ids f 0).getD 0 : Nat) : Int), .bool (idxH ids f 0).isSome]) w := by
  have hu : ∀ x : World, (underlying T).run Tryd.prog x = .ok (.map 24 3) x := fun x => run_underlying hT x
  have hz : (zeroValue 3).run Tryd.prog w = .ok (.int .i64 0) w := by kernel_rfl
  unfold Instr.lookup
  rw [Sem.run_bind, hu]
  simp only [Result.andThen]
  rw [Sem.run_bind, getObj_m hr]
  simp only [Result.andThen]
  rw [Sem.run_bind, Sem.run_pure]
  simp only [Result.andThen]
  rw [Sem.run_bind, checkKey_h]
  simp only [Result.andThen]
  rw [Sem.run_bind, findKey_h f w es.toList ids h]
  cases idxH ids f 0 with
  | none => simp [Result.andThen, hz]
  | some j => simp [Result.andThen]
theorem lookup_nil (T : TypeId) (hT : Tryd.prog.underlying T = some (.map 24 3)) (w : World) (f : Nat → Int) :
    (Instr.lookup T (.map none) (arr32 f) true).run Tryd.prog w = .ok (.tuple #[.int .i64 0, .bool false]) w := by
  have hu : ∀ x : World, (underlying T).run Tryd.prog x = .ok (.map 24 3) x := fun x => run_underlying hT x
  have hz : (zeroValue 3).run Tryd.prog w = .ok (.int .i64 0) w := by kernel_rfl
  have hf := findKey_h f w [] [] rfl
  unfold Instr.lookup
  rw [Sem.run_bind, hu]
  simp only [Result.andThen]
  rw [Sem.run_bind, Sem.run_pure]
  simp only [Result.andThen]
  rw [Sem.run_bind, checkKey_h]
  simp only [Result.andThen]
  rw [Sem.run_bind]
  have hf2 : (Instr.findKey 24 (arr32 f) (#[] : Array MapEntry).toList).run Tryd.prog w = .ok ((idxH [] f 0).map fun j => (j, Value.int .i64 (j : Int))) w := hf
  rw [hf2]
  simp [Result.andThen, hz, idxH]
/-- a hash that is not there yet -/
theorem update_h (T : TypeId) (hT : Tryd.prog.underlying T = some (.map 24 3)) {w : World} {r : Nat} {es : Array MapEntry} {clk : Nat} (hr : w.heap[r]? = some (.map es clk)) {ids : List (Nat → Int)} (h : EntOk es ids) (f : Nat → Int) (hno : idxH ids f 0 = none) (v : Value) :
    (Instr.mapUpdate T (.map (some r)) (arr32 f) v).run Tryd.prog w = .ok () (putM w r (.map (es.push { key := arr32 f, val := v, born := clk }) (clk + 1))) := by
  have hu : ∀ x : World, (underlying T).run Tryd.prog x = .ok (.map 24 3) x := fun x => run_underlying hT x
  unfold Instr.mapUpdate
  rw [Sem.run_bind, hu]
  simp only [Result.andThen]
  rw [Sem.run_bind, getObj_m hr]
  simp only [Result.andThen]
  rw [Sem.run_bind, checkKey_h]
  simp only [Result.andThen]
  rw [Sem.run_bind, findKey_h f w es.toList ids h, hno]
  simp only [Result.andThen, Option.map_none]
  exact setObj_m hr
theorem EntOk.push {es : Array MapEntry} {ids : List (Nat → Int)} (h : EntOk es ids) (f : Nat → Int) (b : Nat) : EntOk (es.push { key := arr32 f, val := .int .i64 (ids.length : Int), born := b }) (ids ++ [f]) := by
  unfold EntOk at *
  simp [List.zipIdx_append, h]
theorem entOk_nil : EntOk #[] [] := rfl
end Go.Proofs.YtfbhpkhpkaeagaaDoor
