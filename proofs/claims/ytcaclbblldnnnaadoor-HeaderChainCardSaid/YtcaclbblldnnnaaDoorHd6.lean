/- Package header: == on headers; florinlaw07: awake. (hM) -/
import Derived.Test.YtcaclbblldnnnaaDoorHd4
import Derived.Test.YtcaclbblldnnnaaDoorHd5
namespace Go.Proofs.YtcaclbblldnnnaaDoor
set_option linter.unusedVariables false
set_option linter.unusedSimpArgs false
open Go.RowKit

theorem run_part_agg {P : Program} {e : TypeId} {n : Nat} {x : TypeId} {i : TypeInfo} (hu : P.underlying e = some (.array n x)) (hi : P.info? e = some i) (xs : Array Value) (off : Nat) (w : World) :
    (part e xs off).run P w = .ok (.agg (xs.extract off (off + P.cellsOf e))) w := by
  simp [part, isAgg, run_underlying hu, run_sizeOf w hi]
def hdEq (h k : Hd) : Bool := (h.v == k.v) && ((hl h.p == hl k.p) && ((hl h.r == hl k.r) && ((h.t == k.t) && ((h.b == k.b) && (h.n == k.n)))))
theorem ext_of {cs : List Value} {f : Nat → Int} {o : Nat} (ho : o + 32 ≤ cs.length) (h : ∀ i, i < 32 → cs[o + i]? = some (.int .u8 (f i))) : (cs.toArray).extract o (o + 32) = ((hl f).map (Value.int .u8)).toArray := by
  rw [← hl_cells]
  apply Array.ext_getElem?
  intro i
  rw [Array.getElem?_extract]
  by_cases hi : i < 32
  · rw [if_pos (by simp; omega)]
    simp only [List.getElem?_toArray]
    rw [h i hi, b8l_get _ _ _ hi]
  · rw [if_neg (by simp; omega)]
    simp only [List.getElem?_toArray]
    rw [List.getElem?_eq_none (by rw [b8l_len]; omega)]
theorem part_int {P : Program} {e : TypeId} {k : IntKind} (hu : P.underlying e = some (.int k)) (cs : List Value) (o : Nat) (z : Int) (h : cs[o]? = some (.int k z)) (w : World) : (part e cs.toArray o).run P w = .ok (.int k z) w := by
  have hlt : o < cs.length := (List.getElem?_eq_some_iff.1 h).1
  have hg : cs[o] = .int k z := (List.getElem?_eq_some_iff.1 h).2
  simp [part, isAgg, run_underlying hu, hlt, hg]
theorem part_hash (cs : List Value) (o : Nat) (f : Nat → Int) (ho : o + 32 ≤ cs.length) (h : ∀ i, i < 32 → cs[o + i]? = some (.int .u8 (f i))) (w : World) : (part 43 cs.toArray o).run Tryd.prog w = .ok (.agg ((hl f).map (Value.int .u8)).toArray) w := by
  obtain ⟨i, hi⟩ := info_of_underlying Tryd.underlying43
  rw [run_part_agg Tryd.underlying43 hi, show Tryd.prog.cellsOf 43 = 32 by kernel_rfl, ext_of ho h]
theorem fields_hdr : (Tryd.prog.fieldsOf 54).toList.map (fun f => (f.name == "_", f.type, f.offset)) = [(false, 26, 0), (false, 43, 1), (false, 43, 33), (false, 26, 65), (false, 26, 66), (false, 26, 67)] := by kernel_rfl
theorem eq_int (d : Nat) (k : IntKind) (e : TypeId) (he : Tryd.prog.underlying e = some (.int k)) (x y : Int) (w : World) : (Op.equalIn (d + 1) e (.int k x) (.int k y)).run Tryd.prog w = .ok (x == y) w := run_equalIn_int w d e k k x y he
theorem eq_hash (d : Nat) (f g : Nat → Int) (w : World) : (Op.equalIn (d + 2) 43 (.agg ((hl f).map (Value.int .u8)).toArray) (.agg ((hl g).map (Value.int .u8)).toArray)).run Tryd.prog w = .ok (hl f == hl g) w :=
  eqArr Tryd.prog d 32 43 5 .u8 Tryd.underlying43 Tryd.underlying5 (by kernel_rfl) (hl f) (hl g) (hl_len f) (hl_len g) w
theorem eqFields_cons (d : Nat) (xs ys : Array Value) (f : Field) (fs : List Field) (x y : Value) (b c : Bool) (w : World) (hn : (f.name == "_") = false) (hx : (part f.type xs f.offset).run Tryd.prog w = .ok x w) (hy : (part f.type ys f.offset).run Tryd.prog w = .ok y w)
    (he : (Op.equalIn d f.type x y).run Tryd.prog w = .ok b w) (hr : (Op.eqFields d xs ys fs).run Tryd.prog w = .ok c w) : (Op.eqFields d xs ys (f :: fs)).run Tryd.prog w = .ok (b && c) w := by
  have hn' : f.name ≠ "_" := by simpa using hn
  simp only [Op.eqFields, Sem.run_bind, Sem.run_ite]
  rw [if_pos hn']
  simp only [hx, hy, he, Result.andThen_ok]
  cases b <;> simp [hr]
theorem eqFields_hdr (h k : Hd) (w : World) : ∀ fs : List Field, fs.map (fun f => (f.name == "_", f.type, f.offset)) = [(false, 26, 0), (false, 43, 1), (false, 43, 33), (false, 26, 65), (false, 26, 66), (false, 26, 67)] →
    (Op.eqFields 9999 (hdL h).toArray (hdL k).toArray fs).run Tryd.prog w = .ok (hdEq h k) w := by
  intro fs hfs
  obtain ⟨f0, g0, rfl, e0, h0⟩ := List.map_eq_cons_iff.1 hfs
  obtain ⟨f1, g1, rfl, e1, h1⟩ := List.map_eq_cons_iff.1 h0
  obtain ⟨f2, g2, rfl, e2, h2⟩ := List.map_eq_cons_iff.1 h1
  obtain ⟨f3, g3, rfl, e3, h3⟩ := List.map_eq_cons_iff.1 h2
  obtain ⟨f4, g4, rfl, e4, h4⟩ := List.map_eq_cons_iff.1 h3
  obtain ⟨f5, g5, rfl, e5, h5⟩ := List.map_eq_cons_iff.1 h4
  obtain rfl := List.map_eq_nil_iff.1 h5
  simp only [Prod.mk.injEq] at e0 e1 e2 e3 e4 e5
  obtain ⟨n0, t0, o0⟩ := e0
  obtain ⟨n1, t1, o1⟩ := e1
  obtain ⟨n2, t2, o2⟩ := e2
  obtain ⟨n3, t3, o3⟩ := e3
  obtain ⟨n4, t4, o4⟩ := e4
  obtain ⟨n5, t5, o5⟩ := e5
  have hu : Tryd.prog.underlying 26 = some (.int .u32) := Tryd.underlying26
  unfold hdEq
  refine eqFields_cons _ _ _ _ _ _ _ _ _ _ n0 (by rw [t0, o0]; exact part_int hu _ _ _ (hdL_0 h) w) (by rw [t0, o0]; exact part_int hu _ _ _ (hdL_0 k) w) (by rw [t0]; exact eq_int _ _ _ hu _ _ w) ?_
  refine eqFields_cons _ _ _ _ _ _ _ _ _ _ n1 (by rw [t1, o1]; exact part_hash _ _ h.p (by rw [hdL_len]; omega) (hdL_p h) w) (by rw [t1, o1]; exact part_hash _ _ k.p (by rw [hdL_len]; omega) (hdL_p k) w) (by rw [t1]; exact eq_hash _ _ _ w) ?_
  refine eqFields_cons _ _ _ _ _ _ _ _ _ _ n2 (by rw [t2, o2]; exact part_hash _ _ h.r (by rw [hdL_len]; omega) (hdL_r h) w) (by rw [t2, o2]; exact part_hash _ _ k.r (by rw [hdL_len]; omega) (hdL_r k) w) (by rw [t2]; exact eq_hash _ _ _ w) ?_
  refine eqFields_cons _ _ _ _ _ _ _ _ _ _ n3 (by rw [t3, o3]; exact part_int hu _ _ _ (hdL_t h) w) (by rw [t3, o3]; exact part_int hu _ _ _ (hdL_t k) w) (by rw [t3]; exact eq_int _ _ _ hu _ _ w) ?_
  refine eqFields_cons _ _ _ _ _ _ _ _ _ _ n4 (by rw [t4, o4]; exact part_int hu _ _ _ (hdL_b h) w) (by rw [t4, o4]; exact part_int hu _ _ _ (hdL_b k) w) (by rw [t4]; exact eq_int _ _ _ hu _ _ w) ?_
  rw [← Bool.and_true (h.n == k.n)]
  exact eqFields_cons _ _ _ _ _ _ _ _ _ _ n5 (by rw [t5, o5]; exact part_int hu _ _ _ (hdL_n h) w) (by rw [t5, o5]; exact part_int hu _ _ _ (hdL_n k) w) (by rw [t5]; exact eq_int _ _ _ hu _ _ w) rfl
theorem eql_hdr (h k : Hd) (b : Bool) (hb : hdEq h k = b) (w : World) : (binOp .eql 54 (hdV h) (hdV k)).run Tryd.prog w = .ok (.bool b) w := by
  rw [run_eql_struct, run_equalIn_struct w _ _ _ _ (by kernel_rfl) (by kernel_rfl), eqFields_hdr h k w _ fields_hdr, hb]
  rfl
theorem neq_hdr (h k : Hd) (b : Bool) (hb : (!hdEq h k) = b) (w : World) : (binOp .neq 54 (hdV h) (hdV k)).run Tryd.prog w = .ok (.bool b) w := by
  rw [run_neq_struct, run_equalIn_struct w _ _ _ _ (by kernel_rfl) (by kernel_rfl), eqFields_hdr h k w _ fields_hdr, ← hb]
  rfl
theorem hdEq_self (h : Hd) : hdEq h h = true := by simp [hdEq]
end Go.Proofs.YtcaclbblldnnnaaDoor
