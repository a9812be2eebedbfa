/- Package header: PutAll. (hM) Merged: Hd5, Hd6, Hd7. -/
import Derived.Test.YtpdgeiflmnhkfaaDoorHd3
import Derived.Test.YtpdgeiflmnhkfaaDoorCmp4
import Derived.Test.YtpdgeiflmnhkfaaDoorHd4
/- Package header: PutAll. (hM) -/
namespace Go.Proofs.YtpdgeiflmnhkfaaDoor
set_option linter.unusedVariables false
set_option linter.unusedSimpArgs false
open Go.RowKit

/-- k of n headers' bytes, and ahead of them how many -/
def allL (L : Nat → Hd) (n : Nat) : Nat → List Value
  | 0 => putL n
  | k + 1 => allL L n k ++ b8l (hdF (L k)) 80 ++ [.int .u8 0]
theorem allL_len (L : Nat → Hd) (n : Nat) : ∀ k, (allL L n k).length = (putL n).length + 81 * k
  | 0 => by rw [allL, Nat.mul_zero, Nat.add_zero]
  | k + 1 => by
    rw [allL, List.length_append, List.length_append, allL_len L n k, b8l_len, List.length_singleton]
    omega
theorem putL_one (k : Int) : ∀ u ∈ putL k, u.oneCell' = true := by
  intro u hu
  unfold putL at hu
  split at hu
  · simp at hu; subst hu; rfl
  split at hu
  · rcases List.mem_cons.1 hu with rfl | hu
    · rfl
    · exact leB_one _ _ _ hu
  split at hu
  · rcases List.mem_cons.1 hu with rfl | hu
    · rfl
    · exact leB_one _ _ _ hu
  · rcases List.mem_cons.1 hu with rfl | hu
    · rfl
    · exact leB_one _ _ _ hu
theorem allL_one (L : Nat → Hd) (n : Nat) : ∀ k, ∀ u ∈ allL L n k, u.oneCell' = true
  | 0, u, h => putL_one _ u h
  | k + 1, u, h => by
    rw [allL] at h
    rcases List.mem_append.1 h with h | h
    · rcases List.mem_append.1 h with h | h
      · exact allL_one L n k u h
      · exact b8l_one _ _ _ h
    · simp at h
      subst h
      rfl
theorem putL_short (n : Nat) : (putL n).length ≤ 9 := by
  rw [putL_len]
  unfold sizeOfN
  split
  · decide
  split
  · decide
  split <;> decide
def PaRel (w : World) (L : Nat → Hd) (n p : Nat) (b i : Value) (wr : World) : Prop :=
  ∃ j g cap : Nat, j ≤ n ∧ i = .int .i64 j ∧ b = .slice (some ⟨g, 0, none⟩) (p + 81 * j) cap ∧ wr.ownsRow w.heap.size 5 1 (.slice (some ⟨g, 0, none⟩) (p + 81 * j) cap) (p + 81 * j) (allL L n j) ∧ Below w.heap.size w wr

set_option maxRecDepth 100000 in
set_option maxHeartbeats 4000000 in
theorem putall_any (L : Nat → Hd) (hL : ∀ i, HdOk (L i)) (lo : Option Addr) (n lc : Nat) (w : World) (hr : SRow w lo n lc 68 (fun i => hdL (L i))) (hn : n ≤ 2000) :
    Calls Tryd.prog 65 #[.slice lo n lc] w fun e w' => ∃ g cap, e = .returned (.tuple #[.slice (some ⟨g, 0, none⟩) ((putL n).length + 81 * n) cap, .int .i64 0]) ∧
      w'.ownsRow w.heap.size 5 1 (.slice (some ⟨g, 0, none⟩) ((putL n).length + 81 * n) cap) ((putL n).length + 81 * n) (allL L n n) ∧ Below w.heap.size w w' := by
  have hp := putL_short n
  have HC := Lib.hid (fun (x : World) => put_any none 0 0 [] (n : Int) x (by omega) (by omega) (by omega) (row_nil x 1))
  obtain ⟨p, hpp⟩ : ∃ p, (putL n).length = p := ⟨_, rfl⟩
  simp only [hpp, Nat.zero_add, List.nil_append] at HC
  rw [hpp] at hp ⊢
  have HR := Lib.hid hr
  have HL := Lib.hid hL
  have HP := Lib.hid hp
  have hn2 : ¬ 2000 < (n : Int) := by omega
  have hw1 : IntKind.u64.wrap (n : Int) = (n : Int) := by rw [IntKind.wrap_u64]; omega
  have HN := Lib.hid hn
  clear hr hL hpp hp hn
  go_enter Tryd.func65, Tryd.ntmps65
  go_wp2_with (go_at_call 129; (with_reducible refine (HC.out _).mono ?_); rintro e w0 ⟨g0, cap0, rfl, hown0, hb0⟩; replace hown0 := Lib.hid hown0; replace hb0 := Lib.hid hb0)
  go_loopw [4, 16] (fun b i wr => PaRel w L n p b i wr) (fun _ i _ => n - (intOf i).toNat)
  case atStart => exact ⟨0, g0, cap0, Nat.zero_le _, rfl, rfl, hown0.out, hb0.out⟩
  case round =>
    obtain ⟨j, g, cap, hj, rfl, rfl, hown, hB⟩ := hrel
    clear hown0 hb0
    have HO := Lib.hid hown
    have HB := Lib.hid hB
    clear hown hB
    by_cases hlt : j < n
    · obtain ⟨b, off, rfl⟩ := HR.out.addr (by decide) (by omega)
      obtain ⟨q, hq⟩ : ∃ q, p + 81 * j = q := ⟨_, rfl⟩
      have hq2 : q ≤ 200000 := by have := HP.out; have := HN.out; omega
      have HQ := Lib.hid (And.intro hq hq2)
      rw [hq] at HO
      have hblt : b < w.heap.size := HR.out.lt (by decide) (by omega) _ rfl
      have hjn : (j : Int) < (n : Int) := by omega
      have HC0 : Hid (wr.rangeAt b (off + j * 68) (hdL (L j))) := fun k v hk => by rw [Nat.add_assoc]; exact (HB.out.cell (p := ⟨b, off + (j * 68 + k), none⟩) hblt).trans (HR.out.cells _ rfl j hlt k v hk).2
      have HPut := Lib.hid (fun (x : World) => hput_any (L j) (HL.out j) x)
      clear hq hq2 hblt
      simp only [HQ.out.1]
      go_wp2_with (first |
        (refine Go.wpList_load_mid rfl 71 (.tmp 18) rfl b (off + j * 68) rfl (hdL (L j)) _ HC0.out Tryd.underlying71 rfl (by rw [hdL_len]; kernel_rfl) ?_) |
        (refine wpList_store_newV rfl (.tmp 6) (.tmp 19) 71 rfl _ (hdL (L j)) _ Tryd.underlying71 rfl (by rw [hdL_len]; kernel_rfl) (by rw [hdL_len]; rfl) (hdL_one _) rfl rfl (mem_nil wr) ?_; intro W hMW hbW; have HMW := Lib.hid hMW; have HO1 := Lib.hid (ownsRow_later HO.out hbW); have HB1 := Lib.hid (bl_then HB.out hbW); clear hMW hbW) |
        (refine Go.wpList_load_mid rfl 71 (.tmp 6) rfl wr.heap.size 0 rfl (hdL (L j)) _ (rangeAt_of HMW.out.1.2.2) Tryd.underlying71 rfl (by rw [hdL_len]; kernel_rfl) ?_) |
        (go_at_call 69; (with_reducible refine (HPut.out _).mono ?_); rintro e w1 ⟨g1, rfl, _, hm1, hb1⟩; have HR1 := Lib.hid (row_ofWc (Nat.le_refl 80) hm1.1.2.2); have HO2 := Lib.hid (ownsRow_later HO1.out hb1); have HB2 := Lib.hid (bl_then HB1.out hb1); clear hm1 hb1) |
        (refine wpList_appN eltU8 w _ HB2.out rfl (.tmp 20) (.tmp 22) rfl (some ⟨g, 0, none⟩) q cap (allL L n j) rfl (.inr ⟨g, rfl, HO2.out⟩) (some ⟨g1, 0, none⟩) 80 80 (bcells (hdF (L j)) 80) rfl HR1.out (fun h => by cases h) (by have := HQ.out.2; omega) ?_; intro g2 cap2 w2 hown2 hb2; have HO3 := Lib.hid hown2; have HB3 := Lib.hid hb2; clear hown2 hb2) |
        (refine wpList_appN eltU8 w _ (bl_al HB3.out _) rfl (.tmp 24) (.tmp 25) rfl (some ⟨g2, 0, none⟩) (q + 80) cap2 (allL L n j ++ bcells (hdF (L j)) 80) rfl (.inr ⟨g2, rfl, ownsRow_later HO3.out (below_alloc _ _)⟩) (some ⟨w2.heap.size, 0, none⟩) 1 1 [.int .u8 0] rfl (row_new w2 #[.int .u8 0] 5 1 1 1 rfl (Nat.le_refl _) (by simp [Value.oneCell'])) (fun h => by cases h) (by have := HQ.out.2; omega) ?_; intro g3 cap3 w3 hown3 hb3; have HO4 := Lib.hid hown3; have HB4 := Lib.hid hb3; clear hown3 hb3))
      have hz : q + 80 + 1 = p + 81 * (j + 1) := by have := HQ.out.1; omega
      refine ⟨⟨j + 1, g3, cap3, by omega, by go_num, by rw [← hz], ?_, HB4.out⟩, by simp [intOf]; omega⟩
      have h4 := HO4.out
      rw [hz] at h4
      exact h4
    · have hje : j = n := by omega
      subst hje
      have hjj : ¬ (j : Int) < (j : Int) := by omega
      go_wp2
      go_ret2
      exact ⟨g, cap, rfl, HO.out, HB.out⟩
theorem putall_big (lo : Option Addr) (n lc : Nat) (w : World) (hn : 2000 < n) :
    Calls Tryd.prog 65 #[.slice lo n lc] w fun e w' => e = .returned (.tuple #[.slice none 0 0, .int .i64 3]) ∧ w = w' := by
  have hn2 : 2000 < (n : Int) := by omega
  go_enter Tryd.func65, Tryd.ntmps65
  go_wp2
  go_ret2
  exact ⟨rfl, rfl⟩
end Go.Proofs.YtpdgeiflmnhkfaaDoor

/- Package header: == on headers; florinlaw07: awake. (hM) -/
namespace Go.Proofs.YtpdgeiflmnhkfaaDoor
set_option linter.unusedVariables false
set_option linter.unusedSimpArgs false
open Go.RowKit

theorem run_part_agg {P : Program} {e : TypeId} {n : Nat} {x : TypeId} {i : TypeInfo} (hu : P.underlying e = some (.array n x)) (hi : P.info? e = some i) (xs : Array Value) (off : Nat) (w : World) :
    (part e xs off).run P w = .ok (.agg (xs.extract off (off + P.cellsOf e))) w := by
  simp [part, isAgg, run_underlying hu, run_sizeOf w hi]
def hdEq (h k : Hd) : Bool := (h.v == k.v) && ((hl h.p == hl k.p) && ((hl h.r == hl k.r) && ((h.t == k.t) && ((h.b == k.b) && (h.n == k.n)))))
theorem ext_of {cs : List Value} {f : Nat → Int} {o : Nat} (ho : o + 32 ≤ cs.length) (h : ∀ i, i < 32 → cs[o + i]? = some (.int .u8 (f i))) : (cs.toArray).extract o (o + 32) = ((hl f).map (Value.int .u8)).toArray := by
  rw [← hl_cells]
  apply Array.ext_getElem?
  intro i
  rw [Array.getElem?_extract]
  by_cases hi : i < 32
  · rw [if_pos (by simp; omega)]
    simp only [List.getElem?_toArray]
    rw [h i hi, b8l_get _ _ _ hi]
  · rw [if_neg (by simp; omega)]
    simp only [List.getElem?_toArray]
    rw [List.getElem?_eq_none (by rw [b8l_len]; omega)]
theorem part_int {P : Program} {e : TypeId} {k : IntKind} (hu : P.underlying e = some (.int k)) (cs : List Value) (o : Nat) (z : Int) (h : cs[o]? = some (.int k z)) (w : World) : (part e cs.toArray o).run P w = .ok (.int k z) w := by
  have hlt : o < cs.length := (List.getElem?_eq_some_iff.1 h).1
  have hg : cs[o] = .int k z := (List.getElem?_eq_some_iff.1 h).2
  simp [part, isAgg, run_underlying hu, hlt, hg]
theorem part_hash (cs : List Value) (o : Nat) (f : Nat → Int) (ho : o + 32 ≤ cs.length) (h : ∀ i, i < 32 → cs[o + i]? = some (.int .u8 (f i))) (w : World) : (part 30 cs.toArray o).run Tryd.prog w = .ok (.agg ((hl f).map (Value.int .u8)).toArray) w := by
  obtain ⟨i, hi⟩ := info_of_underlying Tryd.underlying30
  rw [run_part_agg Tryd.underlying30 hi, show Tryd.prog.cellsOf 30 = 32 by kernel_rfl, ext_of ho h]
theorem fields_hdr : (Tryd.prog.fieldsOf 71).toList.map (fun f => (f.name == "_", f.type, f.offset)) = [(false, 23, 0), (false, 30, 1), (false, 30, 33), (false, 23, 65), (false, 23, 66), (false, 23, 67)] := by kernel_rfl
theorem eq_int (d : Nat) (k : IntKind) (e : TypeId) (he : Tryd.prog.underlying e = some (.int k)) (x y : Int) (w : World) : (Op.equalIn (d + 1) e (.int k x) (.int k y)).run Tryd.prog w = .ok (x == y) w := run_equalIn_int w d e k k x y he
theorem eq_hash (d : Nat) (f g : Nat → Int) (w : World) : (Op.equalIn (d + 2) 30 (.agg ((hl f).map (Value.int .u8)).toArray) (.agg ((hl g).map (Value.int .u8)).toArray)).run Tryd.prog w = .ok (hl f == hl g) w :=
  eqArr Tryd.prog d 32 30 5 .u8 Tryd.underlying30 Tryd.underlying5 (by kernel_rfl) (hl f) (hl g) (hl_len f) (hl_len g) w
theorem eqFields_cons (d : Nat) (xs ys : Array Value) (f : Field) (fs : List Field) (x y : Value) (b c : Bool) (w : World) (hn : (f.name == "_") = false) (hx : (part f.type xs f.offset).run Tryd.prog w = .ok x w) (hy : (part f.type ys f.offset).run Tryd.prog w = .ok y w)
    (he : (Op.equalIn d f.type x y).run Tryd.prog w = .ok b w) (hr : (Op.eqFields d xs ys fs).run Tryd.prog w = .ok c w) : (Op.eqFields d xs ys (f :: fs)).run Tryd.prog w = .ok (b && c) w := by
  have hn' : f.name ≠ "_" := by simpa using hn
  simp only [Op.eqFields, Sem.run_bind, Sem.run_ite]
  rw [if_pos hn']
  simp only [hx, hy, he, Result.andThen_ok]
  cases b <;> simp [hr]
theorem eqFields_hdr (h k : Hd) (w : World) : ∀ fs : List Field, fs.map (fun f => (f.name == "_", f.type, f.offset)) = [(false, 23, 0), (false, 30, 1), (false, 30, 33), (false, 23, 65), (false, 23, 66), (false, 23, 67)] →
    (Op.eqFields 9999 (hdL h).toArray (hdL k).toArray fs).run Tryd.prog w = .ok (hdEq h k) w := by
  intro fs hfs
  obtain ⟨f0, g0, rfl, e0, h0⟩ := List.map_eq_cons_iff.1 hfs
  obtain ⟨f1, g1, rfl, e1, h1⟩ := List.map_eq_cons_iff.1 h0
  obtain ⟨f2, g2, rfl, e2, h2⟩ := List.map_eq_cons_iff.1 h1
  obtain ⟨f3, g3, rfl, e3, h3⟩ := List.map_eq_cons_iff.1 h2
  obtain ⟨f4, g4, rfl, e4, h4⟩ := List.map_eq_cons_iff.1 h3
  obtain ⟨f5, g5, rfl, e5, h5⟩ := List.map_eq_cons_iff.1 h4
  obtain rfl := List.map_eq_nil_iff.1 h5
  simp only [Prod.mk.injEq] at e0 e1 e2 e3 e4 e5
  obtain ⟨n0, t0, o0⟩ := e0
  obtain ⟨n1, t1, o1⟩ := e1
  obtain ⟨n2, t2, o2⟩ := e2
  obtain ⟨n3, t3, o3⟩ := e3
  obtain ⟨n4, t4, o4⟩ := e4
  obtain ⟨n5, t5, o5⟩ := e5
  have hu : Tryd.prog.underlying 23 = some (.int .u32) := Tryd.underlying23
  unfold hdEq
  refine eqFields_cons _ _ _ _ _ _ _ _ _ _ n0 (by rw [t0, o0]; exact part_int hu _ _ _ (hdL_0 h) w) (by rw [t0, o0]; exact part_int hu _ _ _ (hdL_0 k) w) (by rw [t0]; exact eq_int _ _ _ hu _ _ w) ?_
  refine eqFields_cons _ _ _ _ _ _ _ _ _ _ n1 (by rw [t1, o1]; exact part_hash _ _ h.p (by rw [hdL_len]; omega) (hdL_p h) w) (by rw [t1, o1]; exact part_hash _ _ k.p (by rw [hdL_len]; omega) (hdL_p k) w) (by rw [t1]; exact eq_hash _ _ _ w) ?_
  refine eqFields_cons _ _ _ _ _ _ _ _ _ _ n2 (by rw [t2, o2]; exact part_hash _ _ h.r (by rw [hdL_len]; omega) (hdL_r h) w) (by rw [t2, o2]; exact part_hash _ _ k.r (by rw [hdL_len]; omega) (hdL_r k) w) (by rw [t2]; exact eq_hash _ _ _ w) ?_
  refine eqFields_cons _ _ _ _ _ _ _ _ _ _ n3 (by rw [t3, o3]; exact part_int hu _ _ _ (hdL_t h) w) (by rw [t3, o3]; exact part_int hu _ _ _ (hdL_t k) w) (by rw [t3]; exact eq_int _ _ _ hu _ _ w) ?_
  refine eqFields_cons _ _ _ _ _ _ _ _ _ _ n4 (by rw [t4, o4]; exact part_int hu _ _ _ (hdL_b h) w) (by rw [t4, o4]; exact part_int hu _ _ _ (hdL_b k) w) (by rw [t4]; exact eq_int _ _ _ hu _ _ w) ?_
  rw [← Bool.and_true (h.n == k.n)]
  exact eqFields_cons _ _ _ _ _ _ _ _ _ _ n5 (by rw [t5, o5]; exact part_int hu _ _ _ (hdL_n h) w) (by rw [t5, o5]; exact part_int hu _ _ _ (hdL_n k) w) (by rw [t5]; exact eq_int _ _ _ hu _ _ w) rfl
theorem eql_hdr (h k : Hd) (b : Bool) (hb : hdEq h k = b) (w : World) : (binOp .eql 71 (hdV h) (hdV k)).run Tryd.prog w = .ok (.bool b) w := by
  rw [run_eql_struct, run_equalIn_struct w _ _ _ _ (by kernel_rfl) (by kernel_rfl), eqFields_hdr h k w _ fields_hdr, hb]
  rfl
theorem neq_hdr (h k : Hd) (b : Bool) (hb : (!hdEq h k) = b) (w : World) : (binOp .neq 71 (hdV h) (hdV k)).run Tryd.prog w = .ok (.bool b) w := by
  rw [run_neq_struct, run_equalIn_struct w _ _ _ _ (by kernel_rfl) (by kernel_rfl), eqFields_hdr h k w _ fields_hdr, ← hb]
  rfl
theorem hdEq_self (h : Hd) : hdEq h h = true := by simp [hdEq]
end Go.Proofs.YtpdgeiflmnhkfaaDoor

/- florinlaw07: awake (made by gen_hd7.py). (hM) -/
namespace Go.Proofs.YtpdgeiflmnhkfaaDoor
set_option linter.unusedVariables false
set_option linter.unusedSimpArgs false
open Go.RowKit

def aw7 : Hd := ⟨0, fun _ => 0, fun _ => 0, 0, 545259519, 0⟩
theorem aw7_ok : HdOk aw7 := ⟨by decide, fun _ => (by decide : (0 : Int) ≤ 0 ∧ (0 : Int) < 256), fun _ => (by decide : (0 : Int) ≤ 0 ∧ (0 : Int) < 256), by decide, by decide, by decide⟩
theorem aw7_hit : mineB aw7 545259519 1 = true := by decide +kernel
theorem srow_nil (w : World) (sz : Nat) (X : Nat → List Value) : SRow w none 0 0 sz X := ⟨fun _ h => absurd h (Nat.not_lt_zero _), Nat.le_refl _, fun _ => rfl, fun _ h => by cases h⟩
theorem own_memC {w : World} {B g n c : Nat} {E : TypeId} {xs : List Value} (h : w.ownsRow B E 1 (.slice (some ⟨g, 0, none⟩) n c) n xs) : g < w.heap.size ∧ (∀ i, w.frozen? ⟨g, i, none⟩ = false) ∧ cellsAt w g 0 xs := by
  refine ⟨(World.ownsRow.lt h g rfl).2, fun i => h.frozenAt i, cellsAt_ofW fun j v hv => ?_⟩
  rw [Nat.zero_add]
  have hj : j < n := by
    have := (List.getElem?_eq_some_iff.1 hv).1
    have := h.1
    omega
  rw [h.cellAt j (by omega), hv]

theorem aw7_mine (w : World) (hT : Tab w) : Calls Tryd.prog 63 #[hdV aw7, .int .u32 545259519, .int .i64 99] w fun e w' => ∃ H : Hd, HdOk H ∧ H.b = 545259519 ∧ meetsV (hashN (idF H)) 545259519 545259519 = 0 ∧ e = .returned (.tuple #[hdV H, .bool true]) ∧ Below w.heap.size w w' := by
  refine (hmine_any aw7 aw7_ok 545259519 (by omega) 99 99 rfl w hT).mono ?_
  rintro e w2 ⟨⟨k, hk, hno, hor⟩, hb⟩
  rcases hor with ⟨hk2, hyes, rfl⟩ | ⟨hk2, rfl⟩
  · exact ⟨tryH aw7 k, tryH_ok aw7_ok k, rfl, of_decide_eq_true hyes, rfl, hb⟩
  · exact absurd (hno 1 (by omega)) (by rw [aw7_hit]; simp)

set_option maxRecDepth 100000 in
set_option maxHeartbeats 4000000 in
theorem awake7_any (w : World) (hT : Tab w) : Calls Tryd.prog 60 #[] w fun e w' => e = .returned (.bool true) ∧ Below w.heap.size w w' := by
  have hPA := fun (x : World) => putall_any (fun _ => hd0) (fun _ => hd0_ok) none 0 0 x (srow_nil x 68 _) (by omega)
  have e1 : (putL ((0 : Nat) : Int)).length + 81 * 0 = 1 := by decide
  have e2 : allL (fun _ => hd0) 0 0 = [.int .u8 0] := rfl
  simp only [e1, e2] at hPA
  have HPA := Lib.hid hPA
  have HT := Lib.hid hT
  have HMi := Lib.hid (fun (x : World) (hb : Below w.heap.size w x) => aw7_mine x (hT.later hb))
  clear hPA hT e1 e2
  have hB := Below.refl w.heap.size w
  have hM := Lib.hid (mem_nil w)
  have hF : True := trivial
  go_enter Tryd.func60, Tryd.ntmps60
  go_wp2_with (first |
    (go_at_call 65; (with_reducible refine (HPA.out _).mono ?_); rintro e w1 ⟨g, cp, rfl, hown, hb⟩; have hM1 : Mem w1 [(g, [.int .u8 0])] := ⟨own_memC hown, trivial⟩; clear hM hF hB hown; have hM := Lib.hid hM1; have hB := hb; have hF : True := trivial; clear hM1 hb) |
    (go_at_call 63; (refine (HMi.out _ (by (repeat (first | exact hB | refine bl_al ?_ _ | refine Below.setCell ?_ (by first | exact hgs | exact Nat.le_succ_of_le hgs | exact hgs2 | exact hgs3) _ | refine Below.drew ?_ | refine bl_drewN ?_ _)))).mono ?_); rintro e w2 ⟨H, hok, hbb, hz, rfl, hb⟩; have HMe := Lib.hid (fun (x : World) => (hz ▸ meets_any (idF H) (idF_b _) 545259519 545259519 (by omega) (by omega) x)); have HId := Lib.hid (fun (x : World) (hb : Below w.heap.size w x) => hid_any H hok x (HT.out.later hb)); have HPut := Lib.hid (fun (x : World) => hput_any H hok x); have HBB := Lib.hid hbb; clear hz hok hbb; have hB : Below w.heap.size w w2 := (by refine bl_then ?_ hb; (repeat (first | exact hB | refine bl_al ?_ _ | refine Below.setCell ?_ (by first | exact hgs | exact Nat.le_succ_of_le hgs | exact hgs2 | exact hgs3) _ | refine Below.drew ?_ | refine bl_drewN ?_ _))); (first | with_reducible have hM2 := Mem.later hb (hM.out) | with_reducible have hM2 := Mem.later hb (Mem.al (hM.out) _ _) | with_reducible have hM2 := Mem.later hb (Mem.al (Mem.al (hM.out) _ _) _ _) | with_reducible have hM2 := Mem.later hb (Mem.al (Mem.al (Mem.al (hM.out) _ _) _ _) _ _) | with_reducible have hM2 := Mem.later hb (Mem.al (Mem.al (Mem.al (Mem.al (hM.out) _ _) _ _) _ _) _ _) | with_reducible have hM2 := Mem.later hb (Mem.drew (hM.out)) | with_reducible have hM2 := Mem.later hb (Mem.drew (Mem.al (hM.out) _ _)) | with_reducible have hM2 := Mem.later hb (Mem.al (Mem.drew (hM.out)) _ _) | with_reducible have hM2 := Mem.later hb (Mem.al (Mem.drew (Mem.al (hM.out) _ _)) _ _) | with_reducible have hM2 := Mem.later hb (Mem.drew (Mem.al (Mem.al (hM.out) _ _) _ _)) | with_reducible have hM2 := Mem.later hb (Mem.al (Mem.al (Mem.drew (hM.out)) _ _) _ _) | with_reducible have hM2 := Mem.later hb (Mem.drew (Mem.drew (hM.out))) | with_reducible have hM2 := Mem.later hb (Mem.drew (Mem.al (Mem.drew (hM.out)) _ _)) | with_reducible have hM2 := Mem.later hb (Mem.drew (Mem.al (Mem.al (Mem.al (hM.out) _ _) _ _) _ _)) | with_reducible have hM2 := Mem.later hb (Mem.al (Mem.al (Mem.drew (Mem.al (hM.out) _ _)) _ _) _ _) | with_reducible have hM2 := Mem.later hb (Mem.drew (Mem.al (Mem.drew (Mem.al (hM.out) _ _)) _ _)) | with_reducible have hM2 := Mem.later hb (Mem.al (Mem.al (Mem.al (Mem.al (Mem.al (hM.out) _ _) _ _) _ _) _ _) _ _) | with_reducible have hM2 := Mem.later hb (Mem.al (Mem.al (Mem.al (Mem.al (Mem.al (Mem.al (hM.out) _ _) _ _) _ _) _ _) _ _) _ _) | with_reducible have hM2 := Mem.later hb (Mem.al (Mem.al (Mem.al (Mem.al (Mem.al (Mem.al (Mem.al (hM.out) _ _) _ _) _ _) _ _) _ _) _ _) _ _) | with_reducible have hM2 := Mem.later hb (Mem.al (Mem.al (Mem.al (Mem.al (Mem.al (Mem.al (Mem.al (Mem.al (hM.out) _ _) _ _) _ _) _ _) _ _) _ _) _ _) _ _)); (try simp only [World.size_alloc, size_drew] at hM2); clear hM; have hM := Lib.hid hM2; clear hF; have hF := hM2; (try simp only [Mem, cellsAt, World.size_alloc, Nat.zero_add, Nat.reduceAdd, and_true] at hF); clear hM2; clear hb; clear hF; have hF : True := trivial) |
    (refine wpList_store_newV rfl (.tmp 3) (.tmp 12) 71 rfl _ (hdL H) _ Tryd.underlying71 rfl (by rw [hdL_len]; kernel_rfl) (by rw [hdL_len]; rfl) (hdL_one _) rfl rfl hM.out ?_; intro W hMW hbW; have hBW := bl_then hB hbW; obtain ⟨bh, hbh⟩ : ∃ b, w2.heap.size = b := ⟨_, rfl⟩; rw [hbh] at hMW; simp only [hbh]; clear hbh; clear hM hF hB; have hM := Lib.hid hMW; have hB := hBW; have hF : True := trivial; clear hMW hbW hBW))
  refine wp_plan (fun x => Mem x _ ∧ x.cell? ⟨bh, 66, none⟩ = some (.int .u32 545259519)) [18, 21, 26] [0, 1, 2, 3, 4, 5, 6, 7, 8, 9, 10, 11, 12, 13, 14, 15, 16, 17, 19, 20, 18, 21, 22, 23, 24, 25, 26, 27, 28, 29, 30] (by kernel_rfl) (by kernel_rfl) (⟨Mem.drew hM.out, by rw [← HBB.out]; exact cellsAt_get (Mem.get (Mem.drew hM.out) (by simp)) (hdL_b H)⟩) (fun hHeld => ?_)
  iterate 17 (refine wpT_take rfl (by rfl) (by rfl) (by intro w' hSw; (try dsimp only [Mem, cellsAt] at hSw); go_simp; (try with_reducible rfl)) (by assumption) ?_; (try simp only [Act.put, List.setIfInBounds_toArray, List.set_cons_zero, List.set_cons_succ]))
  (refine wpT_yield rfl (by rfl) (Go.yieldsIf_load_mid (by rfl) 71 (.tmp 3) rfl bh 0 rfl (hdL H) _ (fun w' h => rangeAt_of (Mem.get h.1 (by simp))) Tryd.underlying71 rfl (by rw [hdL_len]; kernel_rfl)) (by assumption) ?_; (try simp only [Act.put, List.setIfInBounds_toArray, List.set_cons_zero, List.set_cons_succ]))
  iterate 2 (refine wpT_take rfl (by rfl) (by rfl) (by intro w' hSw; (try dsimp only [Mem, cellsAt] at hSw); go_simp; (try with_reducible rfl)) (by assumption) ?_; (try simp only [Act.put, List.setIfInBounds_toArray, List.set_cons_zero, List.set_cons_succ]))
  (refine wpT_step rfl (by rfl) (fun K hK => ?_); go_simp)
  (refine (HId.out _ (by (repeat (first | exact hB | refine bl_al ?_ _ | refine Below.setCell ?_ (by first | exact hgs | exact Nat.le_succ_of_le hgs | exact hgs2 | exact hgs3) _ | refine Below.drew ?_ | refine bl_drewN ?_ _)))).mono ?_; rintro e w1 ⟨rfl, hb⟩; have hB : Below w.heap.size w w1 := (by refine bl_then ?_ hb; (repeat (first | exact hB | refine bl_al ?_ _ | refine Below.setCell ?_ (by first | exact hgs | exact Nat.le_succ_of_le hgs | exact hgs2 | exact hgs3) _ | refine Below.drew ?_ | refine bl_drewN ?_ _))); (first | with_reducible have hM2 := Mem.later hb (hM.out) | with_reducible have hM2 := Mem.later hb (Mem.al (hM.out) _ _) | with_reducible have hM2 := Mem.later hb (Mem.al (Mem.al (hM.out) _ _) _ _) | with_reducible have hM2 := Mem.later hb (Mem.al (Mem.al (Mem.al (hM.out) _ _) _ _) _ _) | with_reducible have hM2 := Mem.later hb (Mem.al (Mem.al (Mem.al (Mem.al (hM.out) _ _) _ _) _ _) _ _) | with_reducible have hM2 := Mem.later hb (Mem.drew (hM.out)) | with_reducible have hM2 := Mem.later hb (Mem.drew (Mem.al (hM.out) _ _)) | with_reducible have hM2 := Mem.later hb (Mem.al (Mem.drew (hM.out)) _ _) | with_reducible have hM2 := Mem.later hb (Mem.al (Mem.drew (Mem.al (hM.out) _ _)) _ _) | with_reducible have hM2 := Mem.later hb (Mem.drew (Mem.al (Mem.al (hM.out) _ _) _ _)) | with_reducible have hM2 := Mem.later hb (Mem.al (Mem.al (Mem.drew (hM.out)) _ _) _ _) | with_reducible have hM2 := Mem.later hb (Mem.drew (Mem.drew (hM.out))) | with_reducible have hM2 := Mem.later hb (Mem.drew (Mem.al (Mem.drew (hM.out)) _ _)) | with_reducible have hM2 := Mem.later hb (Mem.drew (Mem.al (Mem.al (Mem.al (hM.out) _ _) _ _) _ _)) | with_reducible have hM2 := Mem.later hb (Mem.al (Mem.al (Mem.drew (Mem.al (hM.out) _ _)) _ _) _ _) | with_reducible have hM2 := Mem.later hb (Mem.drew (Mem.al (Mem.drew (Mem.al (hM.out) _ _)) _ _)) | with_reducible have hM2 := Mem.later hb (Mem.al (Mem.al (Mem.al (Mem.al (Mem.al (hM.out) _ _) _ _) _ _) _ _) _ _) | with_reducible have hM2 := Mem.later hb (Mem.al (Mem.al (Mem.al (Mem.al (Mem.al (Mem.al (hM.out) _ _) _ _) _ _) _ _) _ _) _ _) | with_reducible have hM2 := Mem.later hb (Mem.al (Mem.al (Mem.al (Mem.al (Mem.al (Mem.al (Mem.al (hM.out) _ _) _ _) _ _) _ _) _ _) _ _) _ _) | with_reducible have hM2 := Mem.later hb (Mem.al (Mem.al (Mem.al (Mem.al (Mem.al (Mem.al (Mem.al (Mem.al (hM.out) _ _) _ _) _ _) _ _) _ _) _ _) _ _) _ _)); (try simp only [World.size_alloc, size_drew] at hM2); clear hM; have hM := Lib.hid hM2; clear hF; have hF := hM2; (try simp only [Mem, cellsAt, World.size_alloc, Nat.zero_add, Nat.reduceAdd, and_true] at hF); clear hM2; clear hb; clear hF; have hF : True := trivial; (refine hK.out _ _ _ (fun _ h => h) (⟨hM.out, by rw [← HBB.out]; exact cellsAt_get (Mem.get hM.out (by simp)) (hdL_b H)⟩) (fun hHeld => ?_); clear hK; clear K; (try simp only [Act.put, List.setIfInBounds_toArray, List.set_cons_zero, List.set_cons_succ])))
  (refine wpT_step rfl (by rfl) (fun K hK => ?_); go_simp)
  (refine (HMe.out _).mono ?_; rintro e w1 ⟨rfl, hb⟩; have hB : Below w.heap.size w w1 := (by refine bl_then ?_ hb; (repeat (first | exact hB | refine bl_al ?_ _ | refine Below.setCell ?_ (by first | exact hgs | exact Nat.le_succ_of_le hgs | exact hgs2 | exact hgs3) _ | refine Below.drew ?_ | refine bl_drewN ?_ _))); (first | with_reducible have hM2 := Mem.later hb (hM.out) | with_reducible have hM2 := Mem.later hb (Mem.al (hM.out) _ _) | with_reducible have hM2 := Mem.later hb (Mem.al (Mem.al (hM.out) _ _) _ _) | with_reducible have hM2 := Mem.later hb (Mem.al (Mem.al (Mem.al (hM.out) _ _) _ _) _ _) | with_reducible have hM2 := Mem.later hb (Mem.al (Mem.al (Mem.al (Mem.al (hM.out) _ _) _ _) _ _) _ _) | with_reducible have hM2 := Mem.later hb (Mem.drew (hM.out)) | with_reducible have hM2 := Mem.later hb (Mem.drew (Mem.al (hM.out) _ _)) | with_reducible have hM2 := Mem.later hb (Mem.al (Mem.drew (hM.out)) _ _) | with_reducible have hM2 := Mem.later hb (Mem.al (Mem.drew (Mem.al (hM.out) _ _)) _ _) | with_reducible have hM2 := Mem.later hb (Mem.drew (Mem.al (Mem.al (hM.out) _ _) _ _)) | with_reducible have hM2 := Mem.later hb (Mem.al (Mem.al (Mem.drew (hM.out)) _ _) _ _) | with_reducible have hM2 := Mem.later hb (Mem.drew (Mem.drew (hM.out))) | with_reducible have hM2 := Mem.later hb (Mem.drew (Mem.al (Mem.drew (hM.out)) _ _)) | with_reducible have hM2 := Mem.later hb (Mem.drew (Mem.al (Mem.al (Mem.al (hM.out) _ _) _ _) _ _)) | with_reducible have hM2 := Mem.later hb (Mem.al (Mem.al (Mem.drew (Mem.al (hM.out) _ _)) _ _) _ _) | with_reducible have hM2 := Mem.later hb (Mem.drew (Mem.al (Mem.drew (Mem.al (hM.out) _ _)) _ _)) | with_reducible have hM2 := Mem.later hb (Mem.al (Mem.al (Mem.al (Mem.al (Mem.al (hM.out) _ _) _ _) _ _) _ _) _ _) | with_reducible have hM2 := Mem.later hb (Mem.al (Mem.al (Mem.al (Mem.al (Mem.al (Mem.al (hM.out) _ _) _ _) _ _) _ _) _ _) _ _) | with_reducible have hM2 := Mem.later hb (Mem.al (Mem.al (Mem.al (Mem.al (Mem.al (Mem.al (Mem.al (hM.out) _ _) _ _) _ _) _ _) _ _) _ _) _ _) | with_reducible have hM2 := Mem.later hb (Mem.al (Mem.al (Mem.al (Mem.al (Mem.al (Mem.al (Mem.al (Mem.al (hM.out) _ _) _ _) _ _) _ _) _ _) _ _) _ _) _ _)); (try simp only [World.size_alloc, size_drew] at hM2); clear hM; have hM := Lib.hid hM2; clear hF; have hF := hM2; (try simp only [Mem, cellsAt, World.size_alloc, Nat.zero_add, Nat.reduceAdd, and_true] at hF); clear hM2; clear hb; clear hF; have hF : True := trivial; (refine hK.out _ _ _ (fun _ h => h) (⟨hM.out, by rw [← HBB.out]; exact cellsAt_get (Mem.get hM.out (by simp)) (hdL_b H)⟩) (fun hHeld => ?_); clear hK; clear K; (try simp only [Act.put, List.setIfInBounds_toArray, List.set_cons_zero, List.set_cons_succ])))
  iterate 3 (refine wpT_take rfl (by rfl) (by rfl) (by intro w' hSw; (try dsimp only [Mem, cellsAt] at hSw); go_simp; (try with_reducible rfl)) (by assumption) ?_; (try simp only [Act.put, List.setIfInBounds_toArray, List.set_cons_zero, List.set_cons_succ]))
  (refine wpT_yield rfl (by rfl) (Go.yieldsIf_load_mid (by rfl) 71 (.tmp 3) rfl bh 0 rfl (hdL H) _ (fun w' h => rangeAt_of (Mem.get h.1 (by simp))) Tryd.underlying71 rfl (by rw [hdL_len]; kernel_rfl)) (by assumption) ?_; (try simp only [Act.put, List.setIfInBounds_toArray, List.set_cons_zero, List.set_cons_succ]))
  (refine wpT_step rfl (by rfl) (fun K hK => ?_); go_simp)
  (refine (HPut.out _).mono ?_; rintro e w1 ⟨gp, rfl, _, _, hb⟩; have hB : Below w.heap.size w w1 := (by refine bl_then ?_ hb; (repeat (first | exact hB | refine bl_al ?_ _ | refine Below.setCell ?_ (by first | exact hgs | exact Nat.le_succ_of_le hgs | exact hgs2 | exact hgs3) _ | refine Below.drew ?_ | refine bl_drewN ?_ _))); (first | with_reducible have hM2 := Mem.later hb (hM.out) | with_reducible have hM2 := Mem.later hb (Mem.al (hM.out) _ _) | with_reducible have hM2 := Mem.later hb (Mem.al (Mem.al (hM.out) _ _) _ _) | with_reducible have hM2 := Mem.later hb (Mem.al (Mem.al (Mem.al (hM.out) _ _) _ _) _ _) | with_reducible have hM2 := Mem.later hb (Mem.al (Mem.al (Mem.al (Mem.al (hM.out) _ _) _ _) _ _) _ _) | with_reducible have hM2 := Mem.later hb (Mem.drew (hM.out)) | with_reducible have hM2 := Mem.later hb (Mem.drew (Mem.al (hM.out) _ _)) | with_reducible have hM2 := Mem.later hb (Mem.al (Mem.drew (hM.out)) _ _) | with_reducible have hM2 := Mem.later hb (Mem.al (Mem.drew (Mem.al (hM.out) _ _)) _ _) | with_reducible have hM2 := Mem.later hb (Mem.drew (Mem.al (Mem.al (hM.out) _ _) _ _)) | with_reducible have hM2 := Mem.later hb (Mem.al (Mem.al (Mem.drew (hM.out)) _ _) _ _) | with_reducible have hM2 := Mem.later hb (Mem.drew (Mem.drew (hM.out))) | with_reducible have hM2 := Mem.later hb (Mem.drew (Mem.al (Mem.drew (hM.out)) _ _)) | with_reducible have hM2 := Mem.later hb (Mem.drew (Mem.al (Mem.al (Mem.al (hM.out) _ _) _ _) _ _)) | with_reducible have hM2 := Mem.later hb (Mem.al (Mem.al (Mem.drew (Mem.al (hM.out) _ _)) _ _) _ _) | with_reducible have hM2 := Mem.later hb (Mem.drew (Mem.al (Mem.drew (Mem.al (hM.out) _ _)) _ _)) | with_reducible have hM2 := Mem.later hb (Mem.al (Mem.al (Mem.al (Mem.al (Mem.al (hM.out) _ _) _ _) _ _) _ _) _ _) | with_reducible have hM2 := Mem.later hb (Mem.al (Mem.al (Mem.al (Mem.al (Mem.al (Mem.al (hM.out) _ _) _ _) _ _) _ _) _ _) _ _) | with_reducible have hM2 := Mem.later hb (Mem.al (Mem.al (Mem.al (Mem.al (Mem.al (Mem.al (Mem.al (hM.out) _ _) _ _) _ _) _ _) _ _) _ _) _ _) | with_reducible have hM2 := Mem.later hb (Mem.al (Mem.al (Mem.al (Mem.al (Mem.al (Mem.al (Mem.al (Mem.al (hM.out) _ _) _ _) _ _) _ _) _ _) _ _) _ _) _ _)); (try simp only [World.size_alloc, size_drew] at hM2); clear hM; have hM := Lib.hid hM2; clear hF; have hF := hM2; (try simp only [Mem, cellsAt, World.size_alloc, Nat.zero_add, Nat.reduceAdd, and_true] at hF); clear hM2; clear hb; clear hF; have hF : True := trivial; (refine hK.out _ _ _ (fun _ h => h) (⟨hM.out, by rw [← HBB.out]; exact cellsAt_get (Mem.get hM.out (by simp)) (hdL_b H)⟩) (fun hHeld => ?_); clear hK; clear K; (try simp only [Act.put, List.setIfInBounds_toArray, List.set_cons_zero, List.set_cons_succ])))
  iterate 4 (refine wpT_take rfl (by rfl) (by rfl) (by intro w' hSw; (try dsimp only [Mem, cellsAt] at hSw); go_simp; (try with_reducible rfl)) (by assumption) ?_; (try simp only [Act.put, List.setIfInBounds_toArray, List.set_cons_zero, List.set_cons_succ]))
  (refine wpT_nil ?_)
  go_wp2
  go_ret
  exact ⟨rfl, by (repeat (first | exact hB | refine bl_al ?_ _ | refine Below.setCell ?_ (by first | exact hgs | exact Nat.le_succ_of_le hgs | exact hgs2 | exact hgs3) _ | refine Below.drew ?_ | refine bl_drewN ?_ _))⟩
end Go.Proofs.YtpdgeiflmnhkfaaDoor
