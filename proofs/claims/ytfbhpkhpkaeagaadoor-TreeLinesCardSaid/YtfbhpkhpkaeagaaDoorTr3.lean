/- Package tree: nodes as cells; what a tree holds. (hM) Merged: Tr1, Tr0, Tr2, Tr3. -/
import Derived.Test.YtfbhpkhpkaeagaaDoorNq
import Derived.Test.YtfbhpkhpkaeagaaDoorMp1
import Derived.Test.YtfbhpkhpkaeagaaDoorApp2
import Derived.Test.YtfbhpkhpkaeagaaDoorAt
import Derived.Test.YtfbhpkhpkaeagaaDoorLyes
import Derived.Test.YtfbhpkhpkaeagaaDoorTg6
import Derived.Test.YtfbhpkhpkaeagaaDoorUShc
import Derived.Test.YtfbhpkhpkaeagaaDoorUndL
import Derived.Test.YtfbhpkhpkaeagaaDoorAppG
/- Package tree: nodes as cells; what a tree holds. (hM) -/
namespace Go.Proofs.YtfbhpkhpkaeagaaDoor
set_option linter.unusedVariables false
set_option linter.unusedSimpArgs false
open Go.RowKit

/-- a number's four parts -/
def P0 (n : Int) : Int := n % WI
def P1 (n : Int) : Int := n / WI % WI
def P2 (n : Int) : Int := n / WI / WI % WI
def P3 (n : Int) : Int := n / WI / WI / WI
theorem b4_parts {n : Int} (h : 0 ≤ n ∧ n < WW) : B4 (P0 n) (P1 n) (P2 n) (P3 n) ∧ N4 (P0 n) (P1 n) (P2 n) (P3 n) = n := by
  refine ⟨⟨?_, ?_, ?_, ?_⟩, ?_⟩ <;> simp only [P0, P1, P2, P3, N4, WW, WI] at * <;> omega
abbrev uV (n : Int) : Value := U4 (P0 n) (P1 n) (P2 n) (P3 n)
theorem workV_nn (b : Int) (hb : 0 ≤ b ∧ b < 4294967296) : 0 ≤ workV b ∧ workV b < WW := by
  obtain ⟨v0, v1, v2, v3, hv, he⟩ := work_ex b hb
  rw [← he]
  exact hv.nn
theorem work_u (b : Int) (hb : 0 ≤ b ∧ b < 4294967296) (w : World) : Calls Tryd.prog 20 #[.int .u32 b] w fun e w' => e = .returned (uV (workV b)) ∧ Below w.heap.size w w' :=
  work_any b hb (b4_parts (workV_nn b hb)).1 (b4_parts (workV_nn b hb)).2 w
/-- the sum, from 0 again at the end -/
def addW (m n : Int) : Int := if WW ≤ m + n then m + n - WW else m + n
theorem addW_nn {m n : Int} (hm : 0 ≤ m ∧ m < WW) (hn : 0 ≤ n ∧ n < WW) : 0 ≤ addW m n ∧ addW m n < WW := by
  unfold addW
  split <;> omega
theorem add_u {m n : Int} (hm : 0 ≤ m ∧ m < WW) (hn : 0 ≤ n ∧ n < WW) (w : World) : Calls Tryd.prog 19 #[uV m, uV n] w fun e w' => e = .returned (.tuple #[uV (addW m n), .bool (decide (WW ≤ m + n))]) ∧ Below w.heap.size w w' := by
  refine add_n (b4_parts hm).1 (b4_parts hn).1 (b4_parts (addW_nn hm hn)).1 _ ?_ w
  rw [(b4_parts hm).2, (b4_parts hn).2, (b4_parts (addW_nn hm hn)).2]
  unfold addW
  by_cases h : WW ≤ m + n
  · rw [if_pos h, if_pos (decide_eq_true h)]; omega
  · rw [if_neg h, if_neg (by rw [decide_eq_false h]; decide)]; omega
theorem cmp_u {m n : Int} (hm : 0 ≤ m ∧ m < WW) (hn : 0 ≤ n ∧ n < WW) (w : World) : Calls Tryd.prog 21 #[uV m, uV n] w fun e w' => e = .returned (.int .i64 (cmpN m n)) ∧ Below w.heap.size w w' := by
  have := cmp_n (b4_parts hm).1 (b4_parts hn).1 w
  rwa [(b4_parts hm).2, (b4_parts hn).2] at this
structure Nd where
  id : Nat → Int
  hd : Hd
  par : Int
  ht : Int
  wk : Int
/-- a node as cells -/
def ndL (x : Nd) : List Value := b8l x.id 32 ++ (hdL x.hd ++ [.int .i64 x.par, .int .i64 x.ht, .int .u64 (P0 x.wk), .int .u64 (P1 x.wk), .int .u64 (P2 x.wk), .int .u64 (P3 x.wk)])
abbrev ndV (x : Nd) : Value := .agg (ndL x).toArray
theorem ndL_len (x : Nd) : (ndL x).length = 106 := by simp [ndL, b8l_len, hdL_len]
theorem ndL_one (x : Nd) : ∀ u ∈ ndL x, u.oneCell' = true := by
  intro u hu
  simp only [ndL, List.mem_append, List.mem_cons, List.not_mem_nil, or_false] at hu
  rcases hu with h | h | rfl | rfl | rfl | rfl | rfl | rfl
  · exact b8l_one _ _ u h
  · exact hdL_one _ u h
  all_goals rfl
theorem ndL_id (x : Nd) (i : Nat) (h : i < 32) : (ndL x)[i]? = some (.int .u8 (x.id i)) := by
  rw [ndL, List.getElem?_append_left (by rw [b8l_len]; exact h), b8l_get _ _ _ h]
theorem ndL_hd (x : Nd) (j : Nat) (h : j < 68) : (ndL x)[32 + j]? = (hdL x.hd)[j]? := by
  rw [ndL, List.getElem?_append_right (by rw [b8l_len]; omega), b8l_len, show 32 + j - 32 = j by omega, List.getElem?_append_left (by rw [hdL_len]; exact h)]
theorem ndL_s (x : Nd) (j : Nat) : (ndL x)[100 + j]? = [Value.int .i64 x.par, .int .i64 x.ht, .int .u64 (P0 x.wk), .int .u64 (P1 x.wk), .int .u64 (P2 x.wk), .int .u64 (P3 x.wk)][j]? := by
  rw [ndL, List.getElem?_append_right (by rw [b8l_len]; omega), b8l_len, List.getElem?_append_right (by rw [hdL_len]; omega), hdL_len, show 100 + j - 32 - 68 = j by omega]
theorem ndL_par (x : Nd) : (ndL x)[100]? = some (.int .i64 x.par) := ndL_s x 0
theorem ndL_ht (x : Nd) : (ndL x)[101]? = some (.int .i64 x.ht) := ndL_s x 1
/-- nodes, one behind the other -/
def ndsL (l : List Nd) : List Value := l.flatMap ndL
theorem ndsL_len (l : List Nd) : (ndsL l).length = l.length * 106 := by
  induction l with
  | nil => rfl
  | cons x l ih => simp [ndsL, ndL_len] at ih ⊢; omega
theorem ndsL_one (l : List Nd) : ∀ u ∈ ndsL l, u.oneCell' = true := by
  intro u hu
  obtain ⟨x, _, h⟩ := List.mem_flatMap.1 hu
  exact ndL_one x u h
theorem ndsL_app (a b : List Nd) : ndsL (a ++ b) = ndsL a ++ ndsL b := by simp [ndsL]
theorem ndsL_sing (x : Nd) : ndsL [x] = ndL x := by simp [ndsL]
theorem ndsL_get (j : Nat) (u : Value) (x : Nd) : ∀ (l : List Nd) (i : Nat), l[i]? = some x → (ndL x)[j]? = some u → (ndsL l)[i * 106 + j]? = some u
  | [], i, h, _ => by simp at h
  | y :: l, 0, h, hj => by
    simp only [List.getElem?_cons_zero, Option.some.injEq] at h
    subst h
    have hlt : j < 106 := by have := (List.getElem?_eq_some_iff.1 hj).1; rwa [ndL_len] at this
    show (ndL y ++ ndsL l)[0 * 106 + j]? = some u
    rw [Nat.zero_mul, Nat.zero_add, List.getElem?_append_left (by rw [ndL_len]; exact hlt)]
    exact hj
  | y :: l, i + 1, h, hj => by
    rw [List.getElem?_cons_succ] at h
    show (ndL y ++ ndsL l)[(i + 1) * 106 + j]? = some u
    rw [List.getElem?_append_right (by rw [ndL_len]; omega), ndL_len, show (i + 1) * 106 + j - 106 = i * 106 + j by omega]
    exact ndsL_get j u x l i h hj

/-- a tree's own cells -/
abbrev tC (most best : Int) (ao : Option Addr) (n cap r : Nat) : Array Value := #[.int .i64 most, .int .i64 best, .slice ao n cap, .map (some r)]
/-- in w there lies at block g a tree of these nodes; what it has lies in blocks from B on -/
def TreeAt (B : Nat) (w : World) (g : Nat) (most best : Int) (l : List Nd) : Prop :=
  ∃ (ao : Option Addr) (cap r : Nat) (es : Array MapEntry) (clk : Nat),
    w.heap[g]? = some (.cells (tC most best ao l.length cap r) 32 (0, 0)) ∧ w.heap[r]? = some (.map es clk) ∧ EntOk es (l.map Nd.id) ∧
    OwnN B 44 106 w ao l.length cap (ndsL l) ∧ B ≤ g ∧ B ≤ r
theorem heap_lt {w : World} {r : Nat} {o : Obj} (h : w.heap[r]? = some o) : r < w.heap.size := by
  rcases Nat.lt_or_ge r w.heap.size with h' | h'
  · exact h'
  · rw [Array.getElem?_eq_none h'] at h; cases h
theorem obj_cell {w : World} {g i : Nat} {cs : Array Value} {T : TypeId} {fz : Nat × Nat} {v : Value} (h : w.heap[g]? = some (.cells cs T fz)) (hv : cs[i]? = some v) : w.cell? ⟨g, i, none⟩ = some v := by
  simp [World.cell?, h, hv]
theorem obj_free {w : World} {g : Nat} {cs : Array Value} {T : TypeId} (h : w.heap[g]? = some (.cells cs T (0, 0))) (i : Nat) : w.frozen? ⟨g, i, none⟩ = false := by
  simp [World.frozen?, h]
theorem obj_set {w : World} {g i : Nat} {cs : Array Value} {T : TypeId} {fz : Nat × Nat} (h : w.heap[g]? = some (.cells cs T fz)) (v : Value) : (w.setCell ⟨g, i, none⟩ v).heap[g]? = some (.cells (cs.setIfInBounds i v) T fz) := by
  simp [World.setCell, Array.getElem?_modify, h]
theorem obj_far {w : World} {g k i : Nat} (v : Value) (h : k ≠ g) : (w.setCell ⟨g, i, none⟩ v).heap[k]? = w.heap[k]? := Below.heap_setCell w _ v k h
theorem TreeAt.later {B : Nat} {w w' : World} {g : Nat} {most best : Int} {l : List Nd} (h : TreeAt B w g most best l) (hb : Below w.heap.size w w') : TreeAt B w' g most best l := by
  obtain ⟨ao, cap, r, es, clk, hm, hr, he, ho, h1, h2⟩ := h
  exact ⟨ao, cap, r, es, clk, (hb.block g (heap_lt hm)).trans hm, (hb.block r (heap_lt hr)).trans hr, he, ho.later hb, h1, h2⟩
/-- a node's cells, in the row -/
theorem own_node {B : Nat} {w : World} {ao : Option Addr} {cap : Nat} {l : List Nd} (h : OwnN B 44 106 w ao l.length cap (ndsL l)) {i : Nat} {x : Nd} (hx : l[i]? = some x) :
    ∃ gn, ao = some ⟨gn, 0, none⟩ ∧ B ≤ gn ∧ gn < w.heap.size ∧ w.rangeAt gn (i * 106) (ndL x) := by
  have hi := (List.getElem?_eq_some_iff.1 hx).1
  rcases h with ⟨_, h0, _, _⟩ | ⟨gn, rfl, ho⟩
  · omega
  · refine ⟨gn, rfl, (ho.lt gn rfl).1, (ho.lt gn rfl).2, ?_⟩
    intro j v hj
    have hlt : j < 106 := by have := (List.getElem?_eq_some_iff.1 hj).1; rwa [ndL_len] at this
    rw [ho.cellAt (i * 106 + j) (by omega), ndsL_get j v x l i hx hj]
end Go.Proofs.YtfbhpkhpkaeagaaDoor

/- A tree of headers as a list of nodes, in the order in which they came: what is added, and the best one. -/
namespace Go.Proofs.YtfbhpkhpkaeagaaDoor
set_option linter.unusedVariables false
set_option linter.unusedSimpArgs false
open Go.RowKit

theorem idxH_app : ∀ (l : List (Nat → Int)) (f g : Nat → Int) (i : Nat), idxH (l ++ [g]) f i = match idxH l f i with | some j => some j | none => if (hl f == hl g) = true then some (i + l.length) else none
  | [], f, g, i => by simp [idxH]
  | x :: l, f, g, i => by
    show idxH (x :: (l ++ [g])) f i = _
    unfold idxH
    by_cases h : (hl f == hl x) = true
    · rw [if_pos h, if_pos h]
    · rw [if_neg h, if_neg h, idxH_app l f g (i + 1), show i + 1 + l.length = i + (x :: l).length by simp; omega]
/-- where a hash stands among nodes -/
def findT (l : List Nd) (f : Nat → Int) : Option Nat := idxH (l.map Nd.id) f 0
theorem findT_lt {l : List Nd} {f : Nat → Int} {j : Nat} (h : findT l f = some j) : j < l.length := by
  have := (idxH_lt _ _ _ _ h).2
  simpa using this
theorem findT_get {l : List Nd} {f : Nat → Int} {j : Nat} (h : findT l f = some j) : ∃ y, l[j]? = some y ∧ hl f = hl y.id := by
  obtain ⟨x, hx, he⟩ := idxH_get _ _ _ _ h
  rw [Nat.sub_zero, List.getElem?_map] at hx
  cases hy : l[j]? with
  | none => rw [hy] at hx; cases hx
  | some y => rw [hy] at hx; cases hx; exact ⟨y, rfl, he⟩
theorem findT_app (l : List Nd) (x : Nd) (f : Nat → Int) : findT (l ++ [x]) f = match findT l f with | some j => some j | none => if (hl f == hl x.id) = true then some l.length else none := by
  unfold findT
  rw [List.map_append, List.map_cons, List.map_nil, idxH_app]
  simp
/-- the i-th node of a tree is right -/
structure NdOk (l : List Nd) (i : Nat) (x : Nd) : Prop where
  id : x.id = idF x.hd
  hd : HdOk x.hd
  wk : 0 ≤ x.wk ∧ x.wk < WW
  fd : findT l x.id = some i
  ht0 : 0 ≤ x.ht
  ht1 : x.ht ≤ i
  up : (i = 0 ∧ x.par = -1 ∧ x.ht = 0 ∧ x.wk = workV x.hd.b) ∨ ∃ (j : Nat) (y : Nd), j < i ∧ l[j]? = some y ∧ x.par = (j : Int) ∧ x.ht = y.ht + 1 ∧ hl x.hd.p = hl y.id ∧ x.wk = addW y.wk (workV x.hd.b)
def TW (l : List Nd) : Prop := ∀ i x, l[i]? = some x → NdOk l i x
theorem tw_nil : TW [] := fun i x h => by simp at h
/-- a node that a header makes, behind these -/
def NewNd (l : List Nd) (h : Hd) (x : Nd) : Prop :=
  x.id = idF h ∧ x.hd = h ∧ ((l = [] ∧ x.par = -1 ∧ x.ht = 0 ∧ x.wk = workV h.b) ∨ ∃ (j : Nat) (y : Nd), findT l h.p = some j ∧ l[j]? = some y ∧ x.par = (j : Int) ∧ x.ht = y.ht + 1 ∧ x.wk = addW y.wk (workV h.b))
theorem tw_push {l : List Nd} (hw : TW l) {h : Hd} (ho : HdOk h) {x : Nd} (hn : NewNd l h x) (hf : findT l (idF h) = none) : TW (l ++ [x]) := by
  obtain ⟨hid, hhd, hor⟩ := hn
  intro i y hy
  by_cases hi : i < l.length
  · rw [List.getElem?_append_left hi] at hy
    have h0 := hw i y hy
    refine ⟨h0.id, h0.hd, h0.wk, ?_, h0.ht0, h0.ht1, ?_⟩
    · rw [findT_app, h0.fd]
    · rcases h0.up with h1 | ⟨j, z, hj, hz, hr⟩
      · exact .inl h1
      · exact .inr ⟨j, z, hj, by rw [List.getElem?_append_left (by omega)]; exact hz, hr⟩
  · rw [List.getElem?_append_right (by omega)] at hy
    have hil : i = l.length := by
      have := (List.getElem?_eq_some_iff.1 hy).1
      simp at this
      omega
    subst hil
    simp at hy
    subst hy
    have hfd : findT (l ++ [x]) x.id = some l.length := by rw [findT_app, hid, hf]; simp
    rcases hor with ⟨he, hp, hh, hk⟩ | ⟨j, y, hj, hy, hp, hh, hk⟩
    · subst he
      exact ⟨by rw [hid, hhd], by rw [hhd]; exact ho, by rw [hk]; exact workV_nn _ ho.b, hfd, by omega, by simp; omega, .inl ⟨rfl, hp, hh, by rw [hk, hhd]⟩⟩
    · have hjl := findT_lt hj
      have hyo := hw j y hy
      refine ⟨by rw [hid, hhd], by rw [hhd]; exact ho, by rw [hk]; exact addW_nn hyo.wk (workV_nn _ ho.b), hfd, by have := hyo.ht0; omega, by have := hyo.ht1; omega, .inr ⟨j, y, hjl, by rw [List.getElem?_append_left hjl]; exact hy, hp, hh, ?_, by rw [hk, hhd]⟩⟩
      obtain ⟨z, hz, he⟩ := findT_get hj
      rw [hy] at hz
      cases hz
      rw [hhd]
      exact he
/-- the best one: the first of those with the most work -/
def BestT (l : List Nd) (b : Int) : Prop := (l = [] ∧ b = 0) ∨ ∃ (k : Nat) (x : Nd), b = (k : Int) ∧ l[k]? = some x ∧ ∀ i y, l[i]? = some y → y.wk ≤ x.wk ∧ (i < k → y.wk < x.wk)
theorem best_push {l : List Nd} {b : Int} (hb : BestT l b) (x : Nd) : (l = [] ∧ BestT (l ++ [x]) 0) ∨ ∃ (k : Nat) (z : Nd), b = (k : Int) ∧ l[k]? = some z ∧ BestT (l ++ [x]) (if z.wk < x.wk then (l.length : Int) else b) := by
  rcases hb with ⟨rfl, rfl⟩ | ⟨k, z, rfl, hz, hall⟩
  · refine .inl ⟨rfl, .inr ⟨0, x, rfl, rfl, ?_⟩⟩
    intro i y hy
    cases i with
    | zero => simp at hy; subst hy; exact ⟨Int.le_refl _, fun h => by omega⟩
    | succ i => simp at hy
  · refine .inr ⟨k, z, rfl, hz, .inr ?_⟩
    have hk := (List.getElem?_eq_some_iff.1 hz).1
    by_cases hlt : z.wk < x.wk
    · rw [if_pos hlt]
      refine ⟨l.length, x, rfl, by simp, ?_⟩
      intro i y hy
      by_cases hi : i < l.length
      · rw [List.getElem?_append_left hi] at hy
        have := (hall i y hy).1
        exact ⟨by omega, fun _ => by omega⟩
      · rw [List.getElem?_append_right (by omega)] at hy
        have := (List.getElem?_eq_some_iff.1 hy).1
        simp at this
        have h0 : i - l.length = 0 := by omega
        rw [h0] at hy
        simp at hy
        subst hy
        exact ⟨Int.le_refl _, fun h => by omega⟩
    · rw [if_neg hlt]
      refine ⟨k, z, rfl, by rw [List.getElem?_append_left hk]; exact hz, ?_⟩
      intro i y hy
      by_cases hi : i < l.length
      · rw [List.getElem?_append_left hi] at hy
        exact hall i y hy
      · rw [List.getElem?_append_right (by omega)] at hy
        have := (List.getElem?_eq_some_iff.1 hy).1
        simp at this
        have h0 : i - l.length = 0 := by omega
        rw [h0] at hy
        simp at hy
        subst hy
        exact ⟨by omega, fun h => by omega⟩
end Go.Proofs.YtfbhpkhpkaeagaaDoor

/- Package tree: Len, Find, Best, Node. (hM) -/
namespace Go.Proofs.YtfbhpkhpkaeagaaDoor
set_option linter.unusedVariables false
set_option linter.unusedSimpArgs false
open Go.RowKit

set_option maxRecDepth 100000 in
theorem tlen_any {B : Nat} {w : World} {g : Nat} {most best : Int} {l : List Nd} (h : TreeAt B w g most best l) :
    Calls Tryd.prog 16 #[.pointer (some ⟨g, 0, none⟩)] w fun e w' => e = .returned (.int .i64 (l.length : Int)) ∧ Below w.heap.size w w' := by
  obtain ⟨ao, cap, r, es, clk, hm, -, -, -, -, -⟩ := h
  have c2 := obj_cell (i := 2) hm rfl
  clear hm
  go_enter Tryd.func16, Tryd.ntmps16
  go_wp2
  go_ret
  exact ⟨rfl, Below.refl _ _⟩
set_option maxRecDepth 100000 in
/-- nothing has no nodes -/
theorem tlen_nil (w : World) : Calls Tryd.prog 16 #[.pointer none] w fun e w' => e = .returned (.int .i64 0) ∧ Below w.heap.size w w' := by
  go_enter Tryd.func16, Tryd.ntmps16
  go_wp2
  go_ret
  exact ⟨rfl, Below.refl _ _⟩

set_option maxRecDepth 100000 in
set_option maxHeartbeats 2000000 in
theorem tfind_any {B : Nat} {w : World} {g : Nat} {most best : Int} {l : List Nd} (h : TreeAt B w g most best l) (f : Nat → Int) (fi : Int) (fb : Bool) (hfi : (((findT l f).getD 0 : Nat) : Int) = fi) (hfb : (findT l f).isSome = fb) :
    Calls Tryd.prog 13 #[.pointer (some ⟨g, 0, none⟩), arr32 f] w fun e w' => e = .returned (.tuple #[.int .i64 fi, .bool fb]) ∧ Below w.heap.size w w' := by
  have hb0 := below_alloc w (.cells (b8l f 32).toArray 24)
  have h' := h.later hb0
  obtain ⟨ao, cap, r, es, clk, hm, hr, he, -, -, -⟩ := h'
  have hL : ∀ x, Below (w.alloc (.cells (b8l f 32).toArray 24)).heap.size (w.alloc (.cells (b8l f 32).toArray 24)) x → (Instr.lookup 30 (.map (some r)) (arr32 f) true).run Tryd.prog x = .ok (.tuple #[.int .i64 fi, .bool fb]) x := by
    intro x hx
    have := lookup_h 30 Tryd.underlying30 ((hx.block r (heap_lt hr)).trans hr) he f
    rwa [show idxH (l.map Nd.id) f 0 = findT l f from rfl, hfi, hfb] at this
  have HL := Lib.hid hL
  have hM := Lib.hid (And.intro (Mem.al (mem_nil w) (b8l f 32) 24) hm)
  clear h hm hr he hfi hfb hb0 hL
  go_enter Tryd.func13, Tryd.ntmps13
  go_wp2
  refine wp_plan (fun x => Mem x [(w.heap.size, b8l f 32)] ∧ x.cell? ⟨g, 3, none⟩ = some (.map (some r)) ∧ (Instr.lookup 30 (.map (some r)) (arr32 f) true).run Tryd.prog x = .ok (.tuple #[.int .i64 fi, .bool fb]) x) [] [0, 1, 2, 3, 4, 5, 6, 7, 8, 9, 10] (by kernel_rfl) (by kernel_rfl) ⟨hM.out.1.drew, obj_cell (i := 3) (((Below.refl _ _).drew.block g (heap_lt hM.out.2)).trans hM.out.2) rfl, HL.out _ (Below.refl _ _).drew⟩ (fun hHeld => ?_)
  iterate 4 (refine wpT_take rfl (by rfl) (by rfl) (by intro w' hSw; (try dsimp only [Mem, cellsAt] at hSw); go_simp; (try with_reducible rfl)) (by assumption) ?_; (try simp only [Act.put, List.setIfInBounds_toArray, List.set_cons_zero, List.set_cons_succ]))
  (refine wpT_yield rfl (by rfl) (Go.yieldsIf_load_mid (by rfl) 24 (.tmp 3) rfl w.heap.size 0 rfl (b8l f 32) _ (fun w' h => rangeAt_of (Mem.get h.1 (by simp))) Tryd.underlying24 rfl (by rw [b8l_len]; kernel_rfl)) (by assumption) ?_; (try simp only [Act.put, List.setIfInBounds_toArray, List.set_cons_zero, List.set_cons_succ]))
  iterate 6 (refine wpT_take rfl (by rfl) (by rfl) (by intro w' hSw; (try dsimp only [Mem, cellsAt] at hSw); go_simp; (try with_reducible rfl)) (by assumption) ?_; (try simp only [Act.put, List.setIfInBounds_toArray, List.set_cons_zero, List.set_cons_succ]))
  (refine wpT_nil ?_)
  go_wp2
  go_ret2
  exact ⟨rfl, (below_alloc w _).drew⟩
set_option maxRecDepth 100000 in
theorem tfind_nil (w : World) (f : Nat → Int) : Calls Tryd.prog 13 #[.pointer none, arr32 f] w fun e w' => e = .returned (.tuple #[.int .i64 0, .bool false]) ∧ Below w.heap.size w w' := by
  go_enter Tryd.func13, Tryd.ntmps13
  go_wp2
  go_ret2
  exact ⟨rfl, below_alloc w _⟩

set_option maxRecDepth 100000 in
theorem tbest_any {B : Nat} {w : World} {g : Nat} {most best : Int} {l : List Nd} (h : TreeAt B w g most best l) (hl : l ≠ []) :
    Calls Tryd.prog 11 #[.pointer (some ⟨g, 0, none⟩)] w fun e w' => e = .returned (.tuple #[.int .i64 best, .bool true]) ∧ Below w.heap.size w w' := by
  have HL := Lib.hid (fun (x : World) (hb : Below w.heap.size w x) => tlen_any (h.later hb))
  obtain ⟨ao, cap, r, es, clk, hm, -, -, -, -, -⟩ := h
  have h0 : ((l.length : Int) == 0) = false := by
    have : l.length ≠ 0 := fun e => hl (List.eq_nil_of_length_eq_zero e)
    simp
    exact hl
  have hC : Hid (∀ x, Below w.heap.size w x → x.cell? ⟨g, 1, none⟩ = some (.int .i64 best)) := fun x hb => obj_cell (i := 1) ((hb.block g (heap_lt hm)).trans hm) rfl
  have hB := Below.refl w.heap.size w
  clear hm hl
  go_enter Tryd.func11, Tryd.ntmps11
  go_wp2_with (go_at_call 16; (with_reducible refine (HL.out _ hB).mono ?_); rintro e w1 ⟨rfl, hb⟩; have hB1 := bl_then hB hb; have c1 := hC.out _ hB1)
  go_ret2
  exact ⟨rfl, hB1⟩
set_option maxRecDepth 100000 in
theorem tbest_none {v : Value} {w : World} (HL : Hid (∀ x, Below w.heap.size w x → Calls Tryd.prog 16 #[v] x fun e w' => e = .returned (.int .i64 0) ∧ Below x.heap.size x w')) :
    Calls Tryd.prog 11 #[v] w fun e w' => e = .returned (.tuple #[.int .i64 0, .bool false]) ∧ Below w.heap.size w w' := by
  have hB := Below.refl w.heap.size w
  go_enter Tryd.func11, Tryd.ntmps11
  go_wp2_with (go_at_call 16; (with_reducible refine (HL.out _ hB).mono ?_); rintro e w1 ⟨rfl, hb⟩; have hB1 := bl_then hB hb)
  go_ret2
  exact ⟨rfl, hB1⟩

def nd0 : Nd := ⟨fun _ => 0, hd0, 0, 0, 0⟩
theorem nA_size (x : Nd) : (ndL x).toArray.size = 106 := by rw [List.size_toArray, ndL_len]

set_option maxRecDepth 100000 in
set_option maxHeartbeats 2000000 in
theorem tnode_yes {B : Nat} {w : World} {g : Nat} {most best : Int} {l : List Nd} (h : TreeAt B w g most best l) (i : Nat) (x : Nd) (hx : l[i]? = some x) :
    Calls Tryd.prog 12 #[.pointer (some ⟨g, 0, none⟩), .int .i64 (i : Int)] w fun e w' => e = .returned (.tuple #[ndV x, .bool true]) ∧ Below w.heap.size w w' := by
  have HL := Lib.hid (fun (x : World) (hb : Below w.heap.size w x) => tlen_any (h.later hb))
  have hil := (List.getElem?_eq_some_iff.1 hx).1
  have k1 : ¬ (i : Int) < 0 := by omega
  have k2 : ¬ (l.length : Int) ≤ (i : Int) := by omega
  have k3 : (i : Int) < (l.length : Int) := by omega
  obtain ⟨ao, cap, r, es, clk, hm, -, -, ho, -, -⟩ := h
  obtain ⟨gn, rfl, -, hgn, hrg⟩ := own_node ho hx
  have hC : Hid (∀ x, Below w.heap.size w x → x.cell? ⟨g, 2, none⟩ = some (.slice (some ⟨gn, 0, none⟩) l.length cap)) := fun x hb => obj_cell (i := 2) ((hb.block g (heap_lt hm)).trans hm) rfl
  have HRg : Hid (∀ y, Below w.heap.size w y → y.rangeAt gn (i * 106) (ndL x)) := fun y hb j v hv => (hb.cell (p := ⟨gn, _, none⟩) hgn).trans (hrg j v hv)
  have hM := Lib.hid (Mem.al (mem_nil w) (ndL nd0) 44)
  have hB := bl_al (Below.refl w.heap.size w) (.cells (ndL nd0).toArray 44)
  have hF : True := trivial
  have hz : ∀ y : World, (zeroValue 44).run Tryd.prog y = .ok (.agg (ndL nd0).toArray) y := fun y => by kernel_rfl
  obtain ⟨n, hn⟩ : ∃ n : Nat, l.length = n := ⟨_, rfl⟩
  rw [hn] at HL hC k2 k3
  clear hm ho hgn hrg hil hx hn
  go_enter Tryd.func12, Tryd.ntmps12
  go_wp2_with (first |
    (go_at_call 16; (with_reducible refine (HL.out _ (by (repeat (first | exact hB | refine bl_al ?_ _ | refine Below.setCell ?_ (by first | exact hgs | exact Nat.le_succ_of_le hgs | exact hgs2 | exact hgs3) _ | refine Below.drew ?_ | refine bl_drewN ?_ _)))).mono ?_); rintro e w1 ⟨rfl, hb⟩; have hB : Below w.heap.size w w1 := (by refine bl_then ?_ hb; (repeat (first | exact hB | refine bl_al ?_ _ | refine Below.setCell ?_ (by first | exact hgs | exact Nat.le_succ_of_le hgs | exact hgs2 | exact hgs3) _ | refine Below.drew ?_ | refine bl_drewN ?_ _))); (first | with_reducible have hM2 := Mem.later hb (hM.out) | with_reducible have hM2 := Mem.later hb (Mem.al (hM.out) _ _) | with_reducible have hM2 := Mem.later hb (Mem.al (Mem.al (hM.out) _ _) _ _) | with_reducible have hM2 := Mem.later hb (Mem.al (Mem.al (Mem.al (hM.out) _ _) _ _) _ _) | with_reducible have hM2 := Mem.later hb (Mem.al (Mem.al (Mem.al (Mem.al (hM.out) _ _) _ _) _ _) _ _) | with_reducible have hM2 := Mem.later hb (Mem.drew (hM.out)) | with_reducible have hM2 := Mem.later hb (Mem.drew (Mem.al (hM.out) _ _)) | with_reducible have hM2 := Mem.later hb (Mem.al (Mem.drew (hM.out)) _ _) | with_reducible have hM2 := Mem.later hb (Mem.al (Mem.drew (Mem.al (hM.out) _ _)) _ _) | with_reducible have hM2 := Mem.later hb (Mem.drew (Mem.al (Mem.al (hM.out) _ _) _ _)) | with_reducible have hM2 := Mem.later hb (Mem.al (Mem.al (Mem.drew (hM.out)) _ _) _ _) | with_reducible have hM2 := Mem.later hb (Mem.drew (Mem.drew (hM.out))) | with_reducible have hM2 := Mem.later hb (Mem.drew (Mem.al (Mem.drew (hM.out)) _ _)) | with_reducible have hM2 := Mem.later hb (Mem.drew (Mem.al (Mem.al (Mem.al (hM.out) _ _) _ _) _ _)) | with_reducible have hM2 := Mem.later hb (Mem.al (Mem.al (Mem.drew (Mem.al (hM.out) _ _)) _ _) _ _) | with_reducible have hM2 := Mem.later hb (Mem.drew (Mem.al (Mem.drew (Mem.al (hM.out) _ _)) _ _)) | with_reducible have hM2 := Mem.later hb (Mem.al (Mem.al (Mem.al (Mem.al (Mem.al (hM.out) _ _) _ _) _ _) _ _) _ _) | with_reducible have hM2 := Mem.later hb (Mem.al (Mem.al (Mem.al (Mem.al (Mem.al (Mem.al (hM.out) _ _) _ _) _ _) _ _) _ _) _ _) | with_reducible have hM2 := Mem.later hb (Mem.al (Mem.al (Mem.al (Mem.al (Mem.al (Mem.al (Mem.al (hM.out) _ _) _ _) _ _) _ _) _ _) _ _) _ _) | with_reducible have hM2 := Mem.later hb (Mem.al (Mem.al (Mem.al (Mem.al (Mem.al (Mem.al (Mem.al (Mem.al (hM.out) _ _) _ _) _ _) _ _) _ _) _ _) _ _) _ _)); (try simp only [World.size_alloc, size_drew] at hM2); clear hM; have hM := Lib.hid hM2; clear hF; have hF := hM2; (try simp only [Mem, cellsAt, World.size_alloc, Nat.zero_add, Nat.reduceAdd, and_true] at hF); clear hM2; clear hb; clear hF; have hF : True := trivial; have c1 := hC.out _ hB; have HTh := Lib.hid (thereW (n := 106) hM.out.1 (Nat.le_refl _))) |
    (refine Go.wpList_load_mid rfl 44 (.tmp 20) rfl gn (i * 106) rfl (ndL x) _ (HRg.out _ hB) Tryd.underlying44 rfl (by rw [ndL_len]; kernel_rfl) ?_) |
    (refine Go.wpList_store_mid rfl 44 (.tmp 4) (.tmp 21) rfl w.heap.size 0 (ndL x).toArray rfl rfl (by rw [nA_size]; exact HTh.out) (by rw [nA_size]; kernel_rfl) (Go.all_oneCell_toArray (ndL_one x)) ?_))
  have hl := Go.run_loadVar_mid (P := Tryd.prog) (w1.setCells w.heap.size 0 (ndL x)) w.heap.size 0 44 (ndL x) _ (World.rangeAt_setCells_same w1 w.heap.size 0 _ (by rw [ndL_len]; exact HTh.out)) Tryd.underlying44 rfl (by rw [ndL_len]; kernel_rfl)
  refine bodyPost_ret (v := .tuple #[ndV x, .bool true]) (by simp [results, Tryd.results12, asAddr, hl, Act.put, Result.andThen]) rfl ⟨rfl, bl_setCellsW (Nat.le_refl _) _ _ _ hB⟩
set_option maxRecDepth 100000 in
set_option maxHeartbeats 2000000 in
/-- no such number -/
theorem tnode_no {v : Value} {n : Nat} {w : World} (HL : Hid (∀ x, Below w.heap.size w x → Calls Tryd.prog 16 #[v] x fun e w' => e = .returned (.int .i64 (n : Int)) ∧ Below x.heap.size x w')) (i : Int) (hi : i < 0 ∨ (n : Int) ≤ i) :
    Calls Tryd.prog 12 #[v, .int .i64 i] w fun e w' => e = .returned (.tuple #[ndV nd0, .bool false]) ∧ Below w.heap.size w w' := by
  have hM := Lib.hid (Mem.al (mem_nil w) (ndL nd0) 44)
  have hB := bl_al (Below.refl w.heap.size w) (.cells (ndL nd0).toArray 44)
  have hF : True := trivial
  have hz : ∀ y : World, (zeroValue 44).run Tryd.prog y = .ok (.agg (ndL nd0).toArray) y := fun y => by kernel_rfl
  have HTh0 := Lib.hid (thereW (n := 106) hM.out.1 (Nat.le_refl _))
  by_cases h1 : i < 0
  · clear hi
    go_enter Tryd.func12, Tryd.ntmps12
    go_wp2_with (refine Go.wpList_store_mid rfl 44 (.tmp 4) (.tmp 14) rfl w.heap.size 0 (ndL nd0).toArray rfl rfl (by rw [nA_size]; exact HTh0.out) (by rw [nA_size]; kernel_rfl) (Go.all_oneCell_toArray (ndL_one nd0)) ?_)
    have hl := Go.run_loadVar_mid (P := Tryd.prog) ((w.alloc (.cells (ndL nd0).toArray 44)).setCells w.heap.size 0 (ndL nd0)) w.heap.size 0 44 (ndL nd0) _ (World.rangeAt_setCells_same _ w.heap.size 0 _ (by rw [ndL_len]; exact HTh0.out)) Tryd.underlying44 rfl (by rw [ndL_len]; kernel_rfl)
    refine bodyPost_ret (v := .tuple #[ndV nd0, .bool false]) (by simp [results, Tryd.results12, asAddr, hl, Act.put, Result.andThen]) rfl ⟨rfl, bl_setCellsW (Nat.le_refl _) _ _ _ hB⟩
  · have h2 : (n : Int) ≤ i := by omega
    clear hi
    go_enter Tryd.func12, Tryd.ntmps12
    go_wp2_with (first |
      (go_at_call 16; (with_reducible refine (HL.out _ (by (repeat (first | exact hB | refine bl_al ?_ _ | refine Below.setCell ?_ (by first | exact hgs | exact Nat.le_succ_of_le hgs | exact hgs2 | exact hgs3) _ | refine Below.drew ?_ | refine bl_drewN ?_ _)))).mono ?_); rintro e w1 ⟨rfl, hb⟩; have hB : Below w.heap.size w w1 := (by refine bl_then ?_ hb; (repeat (first | exact hB | refine bl_al ?_ _ | refine Below.setCell ?_ (by first | exact hgs | exact Nat.le_succ_of_le hgs | exact hgs2 | exact hgs3) _ | refine Below.drew ?_ | refine bl_drewN ?_ _))); (first | with_reducible have hM2 := Mem.later hb (hM.out) | with_reducible have hM2 := Mem.later hb (Mem.al (hM.out) _ _) | with_reducible have hM2 := Mem.later hb (Mem.al (Mem.al (hM.out) _ _) _ _) | with_reducible have hM2 := Mem.later hb (Mem.al (Mem.al (Mem.al (hM.out) _ _) _ _) _ _) | with_reducible have hM2 := Mem.later hb (Mem.al (Mem.al (Mem.al (Mem.al (hM.out) _ _) _ _) _ _) _ _) | with_reducible have hM2 := Mem.later hb (Mem.drew (hM.out)) | with_reducible have hM2 := Mem.later hb (Mem.drew (Mem.al (hM.out) _ _)) | with_reducible have hM2 := Mem.later hb (Mem.al (Mem.drew (hM.out)) _ _) | with_reducible have hM2 := Mem.later hb (Mem.al (Mem.drew (Mem.al (hM.out) _ _)) _ _) | with_reducible have hM2 := Mem.later hb (Mem.drew (Mem.al (Mem.al (hM.out) _ _) _ _)) | with_reducible have hM2 := Mem.later hb (Mem.al (Mem.al (Mem.drew (hM.out)) _ _) _ _) | with_reducible have hM2 := Mem.later hb (Mem.drew (Mem.drew (hM.out))) | with_reducible have hM2 := Mem.later hb (Mem.drew (Mem.al (Mem.drew (hM.out)) _ _)) | with_reducible have hM2 := Mem.later hb (Mem.drew (Mem.al (Mem.al (Mem.al (hM.out) _ _) _ _) _ _)) | with_reducible have hM2 := Mem.later hb (Mem.al (Mem.al (Mem.drew (Mem.al (hM.out) _ _)) _ _) _ _) | with_reducible have hM2 := Mem.later hb (Mem.drew (Mem.al (Mem.drew (Mem.al (hM.out) _ _)) _ _)) | with_reducible have hM2 := Mem.later hb (Mem.al (Mem.al (Mem.al (Mem.al (Mem.al (hM.out) _ _) _ _) _ _) _ _) _ _) | with_reducible have hM2 := Mem.later hb (Mem.al (Mem.al (Mem.al (Mem.al (Mem.al (Mem.al (hM.out) _ _) _ _) _ _) _ _) _ _) _ _) | with_reducible have hM2 := Mem.later hb (Mem.al (Mem.al (Mem.al (Mem.al (Mem.al (Mem.al (Mem.al (hM.out) _ _) _ _) _ _) _ _) _ _) _ _) _ _) | with_reducible have hM2 := Mem.later hb (Mem.al (Mem.al (Mem.al (Mem.al (Mem.al (Mem.al (Mem.al (Mem.al (hM.out) _ _) _ _) _ _) _ _) _ _) _ _) _ _) _ _)); (try simp only [World.size_alloc, size_drew] at hM2); clear hM; have hM := Lib.hid hM2; clear hF; have hF := hM2; (try simp only [Mem, cellsAt, World.size_alloc, Nat.zero_add, Nat.reduceAdd, and_true] at hF); clear hM2; clear hb; clear hF; have hF : True := trivial; have HTh := Lib.hid (thereW (n := 106) hM.out.1 (Nat.le_refl _))) |
      (refine Go.wpList_store_mid rfl 44 (.tmp 4) (.tmp 14) rfl w.heap.size 0 (ndL nd0).toArray rfl rfl (by rw [nA_size]; exact HTh.out) (by rw [nA_size]; kernel_rfl) (Go.all_oneCell_toArray (ndL_one nd0)) ?_))
    have hl := Go.run_loadVar_mid (P := Tryd.prog) (w1.setCells w.heap.size 0 (ndL nd0)) w.heap.size 0 44 (ndL nd0) _ (World.rangeAt_setCells_same _ w.heap.size 0 _ (by rw [ndL_len]; exact HTh.out)) Tryd.underlying44 rfl (by rw [ndL_len]; kernel_rfl)
    refine bodyPost_ret (v := .tuple #[ndV nd0, .bool false]) (by simp [results, Tryd.results12, asAddr, hl, Act.put, Result.andThen]) rfl ⟨rfl, bl_setCellsW (Nat.le_refl _) _ _ _ hB⟩

theorem alloc_at (w : World) (o : Obj) : (w.alloc o).heap[w.heap.size]? = some o := by unfold World.alloc; simp
set_option maxRecDepth 100000 in
/-- a new one -/
theorem tnew_any (m : Int) (hm : m = 9 ∨ m = 60 ∨ m = 0) (w : World) : Calls Tryd.prog 9 #[.int .i64 m] w fun e w' => ∃ g, e = .returned (.pointer (some ⟨g, 0, none⟩)) ∧ (∀ B, B ≤ w.heap.size → TreeAt B w' g m 0 []) ∧ Below w.heap.size w w' := by
  have key : ∀ B, B ≤ w.heap.size → TreeAt B ((w.alloc (.map #[] 0)).alloc (.cells (tC m 0 none 0 0 w.heap.size) 32)) (w.heap.size + 1) m 0 [] := by
    intro B hB
    have hs : (w.alloc (.map #[] 0)).heap.size = w.heap.size + 1 := World.size_alloc ..
    refine ⟨none, 0, w.heap.size, #[], 0, ?_, ?_, entOk_nil, ownN_nil _ _ _ _, by omega, hB⟩
    · rw [← hs]
      exact alloc_at _ _
    · rw [(below_alloc (w.alloc (.map #[] 0)) (.cells (tC m 0 none 0 0 w.heap.size) 32)).block w.heap.size (by omega)]
      exact alloc_at _ _
  have hmm : ∀ x : World, (Instr.makeMap 30 none).run Tryd.prog x = .ok (.map (some x.heap.size)) (x.alloc (.map #[] 0)) := fun _ => rfl
  have e1 : min (max (9 : Int) 0) 1048576 = 9 := by decide
  have e2 : min (max (60 : Int) 0) 1048576 = 60 := by decide
  have e3 : min (max (0 : Int) 0) 1048576 = 0 := by decide
  rcases hm with rfl | rfl | rfl <;>
  (go_enter Tryd.func9, Tryd.ntmps9
   go_wp2
   go_ret
   exact ⟨_, rfl, key, by (repeat (first | exact Below.refl _ _ | refine Below.drew ?_ | refine bl_drewN ?_ _ | (refine Below.alloc ?_ (by first | exact Nat.le_refl _ | (simp; done) | (simp; omega)) _)))⟩)
end Go.Proofs.YtfbhpkhpkaeagaaDoor

/- Package tree: keep (made by gen_tr3.py). (hM) -/
namespace Go.Proofs.YtfbhpkhpkaeagaaDoor
set_option linter.unusedVariables false
set_option linter.unusedSimpArgs false
open Go.RowKit

theorem eltNd : Elt Tryd.prog 29 44 (ndV nd0) 106 160 := ⟨Tryd.underlying29, by kernel_rfl, rfl, by decide, by decide⟩
def uL (n : Int) : List Value := [.int .u64 (P0 n), .int .u64 (P1 n), .int .u64 (P2 n), .int .u64 (P3 n)]
theorem uL_len (n : Int) : (uL n).length = 4 := rfl
theorem nd_range_w {w : World} {b o : Nat} {x : Nd} (h : w.rangeAt b o (ndL x)) : w.rangeAt b (o + 102) (uL x.wk) := fun j v hj => by
  have hlt : j < 4 := by have := (List.getElem?_eq_some_iff.1 hj).1; rwa [uL_len] at this
  have h1 := h (102 + j) v (by
    rw [show 102 + j = 100 + (2 + j) by omega, ndL_s]
    have h4 : j = 0 ∨ j = 1 ∨ j = 2 ∨ j = 3 := by omega
    rcases h4 with rfl | rfl | rfl | rfl <;> exact hj)
  rw [show o + 102 + j = o + (102 + j) by omega]
  exact h1
theorem nd_range_id {w : World} {b : Nat} {x : Nd} (h : w.rangeAt b 0 (ndL x)) : w.rangeAt b 0 (b8l x.id 32) := fun j v hj => by
  have hlt : j < 32 := by have := (List.getElem?_eq_some_iff.1 hj).1; rwa [b8l_len] at this
  refine h j v ?_
  rw [ndL_id _ _ hlt, ← b8l_get x.id 32 j hlt]
  exact hj
set_option maxRecDepth 100000 in
theorem bslice_nd (x : Nd) (w : World) : (Instr.buildSlice 29 1 #[(0, ndV x)]).run Tryd.prog w = .ok (.slice (some ⟨w.heap.size, 0, none⟩) 1 1) (w.alloc (.cells (ndL x).toArray 44)) := by kernel_rfl
theorem step_bsNd {w : World} {ops : Array Oper} {o : Oper} {a : Act} {K : Act → World → Prop} {Q : Exit → Act → World → Prop} {E' : Prop} (hgd : o.guard = none) (y : Operand) (x : Nd)
    (ho : o.op = .buildSlice 29 1 #[(0, y)]) (hx : a.eval y = ndV x)
    (h : K (a.put o.dst (.slice (some ⟨w.heap.size, 0, none⟩) 1 1)) (w.alloc (.cells (ndL x).toArray 44))) :
    if Region.wanted o (yielded ops a.tmps) = true then Oper.wp Tryd.prog o a w K Q else E' := by
  have hw : Region.wanted o (yielded ops a.tmps) = true := by simp [Region.wanted, hgd]
  rw [if_pos hw]
  have hb := bslice_nd x w
  unfold Oper.wp execOp
  rw [ho]
  simp only [List.map_toArray, List.map_cons, List.map_nil, hx]
  rw [Sem.run_bind]
  simp only [hb, Result.andThen_ok]
  exact h
theorem row_nd (W : World) (x : Nd) : Row (W.alloc (.cells (ndL x).toArray 44)) (some ⟨W.heap.size, 0, none⟩) 1 1 106 (ndL x) := by
  have := row_new W (ndL x).toArray 44 1 1 106 (by rw [nA_size]) (Nat.le_refl _) (by simpa using ndL_one x)
  simpa using this
theorem step_mapUp {w : World} {ops : Array Oper} {o : Oper} {a : Act} {K : Act → World → Prop} {Q : Exit → Act → World → Prop} {E' : Prop} (hgd : o.guard = none) (T : TypeId) (m k v : Operand) (ho : o.op = .mapUpdate T m k v)
    (M Kv V : Value) (hm : a.eval m = M) (hk : a.eval k = Kv) (hv : a.eval v = V) (w' : World) (hr : (Instr.mapUpdate T M Kv V).run Tryd.prog w = .ok () w') (h : K (a.put o.dst undef) w') :
    if Region.wanted o (yielded ops a.tmps) = true then Oper.wp Tryd.prog o a w K Q else E' := by
  have hw : Region.wanted o (yielded ops a.tmps) = true := by simp [Region.wanted, hgd]
  rw [if_pos hw]
  unfold Oper.wp execOp
  rw [ho]
  simp only [hm, hk, hv]
  rw [Sem.run_bind]
  simp only [hr, Result.andThen_ok]
  exact h
/-- the blocks of cells behind another map -/
theorem putM_at {w : World} {r : Nat} {o : Obj} (hr : r < w.heap.size) : (putM w r o).heap[r]? = some o := by simp [putM, hr]
theorem putM_far {w : World} {r k : Nat} {o : Obj} (h : k ≠ r) : (putM w r o).heap[k]? = w.heap[k]? := by
  simp only [putM]
  exact Array.getElem?_setIfInBounds_ne (Ne.symm h)
theorem putM_size {w : World} {r : Nat} {o : Obj} : (putM w r o).heap.size = w.heap.size := by simp [putM]
theorem below_putM {B : Nat} {a w : World} {r : Nat} {o : Obj} (h : Below B a w) (hr : B ≤ r) : Below B a (putM w r o) :=
  ⟨h.os, h.tape, h.output, by rw [putM_size]; exact h.size, fun k hk => (putM_far (by omega)).trans (h.block k hk)⟩
theorem below_setB {B : Nat} {a w : World} {g i : Nat} {v : Value} (h : Below B a w) (hg : B ≤ g) : Below B a (w.setCell ⟨g, i, none⟩ v) :=
  ⟨h.os, h.tape, h.output, by simpa [World.setCell] using h.size, fun k hk => (obj_far v (by omega)).trans (h.block k hk)⟩
theorem cells_ne {w : World} {a b : Nat} {o o' : Obj} (ha : w.heap[a]? = some o) (hb : w.heap[b]? = some o') (h : o ≠ o') : a ≠ b := fun e => by
  subst e
  rw [ha] at hb
  exact h (Option.some.inj hb)

/-- blocks of cells that are no tree's and no nodes' stand as they were -/
def KeepT (w w' : World) : Prop := ∀ (k : Nat) (cs : Array Value) (T : TypeId) (fz : Nat × Nat), w.heap[k]? = some (Obj.cells cs T fz) → T ≠ 32 → T ≠ 44 → w'.heap[k]? = some (Obj.cells cs T fz)
theorem keepT_below {w w' : World} (h : Below w.heap.size w w') : KeepT w w' := fun k cs T fz hk _ _ => (h.block k (heap_lt hk)).trans hk
theorem KeepT.trans {a b c : World} (h : KeepT a b) (k : KeepT b c) : KeepT a c := fun j cs T fz hj h1 h2 => k j cs T fz (h j cs T fz hj h1 h2) h1 h2
theorem cell_keep {w : World} {p : Addr} {v : Value} (h : w.cell? p = some v) (o : Obj) : (w.alloc o).cell? p = some v :=
  ((below_alloc w o).cell (p := p) (World.block_lt_of_cell? w p h)).trans h
theorem own_obj {B : Nat} {E : TypeId} {sz : Nat} {w : World} {k n c : Nat} {xs : List Value} (h : OwnN B E sz w (some ⟨k, 0, none⟩) n c xs) : ∃ cur, w.heap[k]? = some (.cells cur E (0, 0)) := by
  rcases h with ⟨h, _⟩ | ⟨g, h1, h2⟩
  · cases h
  · cases h1
    rcases h2.2 with ⟨h0, _⟩ | ⟨g', cap, cur, hv, _, hg, _⟩
    · cases h0
    · cases hv
      exact ⟨cur, hg⟩
theorem own_heap {w w' : World} {B : Nat} {E : TypeId} {sz g n cap : Nat} {xs : List Value} (h : w.ownsRow B E sz (.slice (some ⟨g, 0, none⟩) n cap) n xs) (hh : w'.heap[g]? = w.heap[g]?) : w'.ownsRow B E sz (.slice (some ⟨g, 0, none⟩) n cap) n xs := by
  refine ⟨h.1, ?_⟩
  rcases h.2 with ⟨h0, _⟩ | ⟨g', cap', cur, hv, h1, hg, hrest⟩
  · cases h0
  · cases hv
    exact .inr ⟨g, cap, cur, rfl, h1, hh.trans hg, hrest⟩
theorem ty_ne {w : World} {a b : Nat} {cs cs' : Array Value} {T T' : TypeId} {f f' : Nat × Nat} (ha : w.heap[a]? = some (.cells cs T f)) (hb : w.heap[b]? = some (.cells cs' T' f')) (h : T ≠ T') : a ≠ b :=
  cells_ne ha hb fun e => h (by injection e)
theorem map_ne {w : World} {a b : Nat} {cs : Array Value} {T : TypeId} {f : Nat × Nat} {es : Array MapEntry} {clk : Nat} (ha : w.heap[a]? = some (.cells cs T f)) (hb : w.heap[b]? = some (.map es clk)) : a ≠ b :=
  cells_ne ha hb fun e => by cases e

set_option maxRecDepth 100000 in
set_option maxHeartbeats 8000000 in
theorem tkeep_any {B : Nat} {w : World} {g : Nat} {most best : Int} {l : List Nd} (h : TreeAt B w g most best l) (x : Nd) (hx : findT l x.id = none) (hwx : 0 ≤ x.wk ∧ x.wk < WW) (k : Nat) (hk : best = (k : Int)) (z : Nd) (hz : (l ++ [x])[k]? = some z) (hwz : 0 ≤ z.wk ∧ z.wk < WW) (hlen : l.length ≤ 1000000) :
    Calls Tryd.prog 23 #[.pointer (some ⟨g, 0, none⟩), ndV x] w fun e w' => e = .returned (.tuple #[]) ∧ TreeAt B w' g most (if z.wk < x.wk then (l.length : Int) else best) (l ++ [x]) ∧ Below B w w' ∧ KeepT w w' := by
  obtain ⟨ao, cap, r, es, clk, hg, hr, he, ho, hBg, hBr⟩ := h
  subst hk
  obtain ⟨n, hn⟩ : ∃ n, l.length = n := ⟨_, rfl⟩
  have hkn : k < n + 1 := by have := (List.getElem?_eq_some_iff.1 hz).1; simp [hn] at this; omega
  rw [hn] at hg ho hlen
  have hgl := heap_lt hg
  have hrl := heap_lt hr
  have hBw : B ≤ w.heap.size := by omega
  have hb1 := below_alloc w (.cells (ndL x).toArray 44)
  have hM1 := Mem.al (mem_nil w) (ndL x) 44
  have hg1 := (hb1.block g hgl).trans hg
  have hr1 := (hb1.block r hrl).trans hr
  have ho1 := ho.alloc (.cells (ndL x).toArray 44)
  have c2 := obj_cell (i := 2) hg1 rfl
  have c2d : (w.alloc (.cells (ndL x).toArray 44)).drew.cell? ⟨g, 2, none⟩ = some (.slice ao n cap) := c2
  have hrow0 : ∀ j, ao = some ⟨j, 0, none⟩ → B ≤ j ∧ j < w.heap.size ∧ j ≠ g ∧ j ≠ r ∧ ∃ cur, w.heap[j]? = some (.cells cur 44 (0, 0)) := by
    rintro j rfl
    obtain ⟨cur, hcur⟩ := own_obj ho
    exact ⟨ho.lt.1, ho.lt.2, ty_ne hcur hg (by decide), map_ne hcur hr, cur, hcur⟩
  have HG0 := Lib.hid (And.intro hg hr)
  have HRow0 := Lib.hid hrow0
  have hgr := map_ne hg hr
  have HA := Lib.hid (And.intro hg1 (And.intro hr1 (And.intro ho1 (And.intro hM1 (And.intro hgl (And.intro hrl hgr))))))
  have HE := Lib.hid (And.intro he (And.intro hx (And.intro hn (And.intro hz (And.intro hkn hlen)))))
  have HBB := Lib.hid (And.intro hBg (And.intro hBr hBw))
  have HB1 := Lib.hid (hb1.mono hBw)
  obtain ⟨c, hc⟩ : ∃ c, cmpN x.wk z.wk = c := ⟨_, rfl⟩
  have HCm := Lib.hid (show ∀ (y : World), Calls Tryd.prog 21 #[.agg (uL x.wk).toArray, .agg (uL z.wk).toArray] y fun e w' => e = .returned (.int .i64 c) ∧ Below y.heap.size y w' from fun (y : World) => hc ▸ cmp_u hwx hwz y)
  have hcz : decide (0 < c) = decide (z.wk < x.wk) := by
    rw [← hc]
    unfold cmpN
    by_cases h1 : x.wk < z.wk
    · rw [if_pos h1, decide_eq_false (by omega), decide_eq_false (by omega)]
    · rw [if_neg h1]
      by_cases h2 : z.wk < x.wk
      · rw [if_pos h2, decide_eq_true (by omega), decide_eq_true (by omega)]
      · rw [if_neg h2, decide_eq_false (by omega), decide_eq_false (by omega)]
  have hnc : k < n + 1 := hkn
  have hnci : (k : Int) < (n : Int) + 1 := by omega
  have hn1 : n + 1 ≤ 1000001 := by omega
  clear hg hr he ho hBg hBr hgl hrl hb1 hM1 hg1 hr1 ho1 hrow0 hgr hx hwx hwz hlen hBw hc hkn hn hz
  by_cases hlt : z.wk < x.wk
  · rw [if_pos hlt]
    have hci : (0 : Int) < c := by rw [decide_eq_true hlt] at hcz; exact of_decide_eq_true hcz
    clear hlt hcz
    go_enter Tryd.func23, Tryd.ntmps23
    go_wp2
    refine wp_planU 10 (fun y => Mem y [(w.heap.size, ndL x)] ∧ y.cell? ⟨g, 2, none⟩ = some (.slice ao n cap)) [6, 7, 8, 9, 10] [0, 1, 2, 3, 4, 5, 6, 7, 8, 9, 10] (by kernel_rfl) (by kernel_rfl) ⟨HA.out.2.2.2.1.drew, c2d⟩ (fun hHeld => ?_)
    iterate 5 (refine wpU_take rfl (by rfl) (by rfl) (by intro w' hSw; (try dsimp only [Mem, cellsAt] at hSw); go_simp; (try with_reducible rfl)) (by assumption) ?_; (try simp only [Act.put, List.setIfInBounds_toArray, List.set_cons_zero, List.set_cons_succ]))
    (refine wpU_yield rfl (by rfl) (Go.yieldsIf_load_mid (by rfl) 44 (.tmp 3) rfl w.heap.size 0 rfl (ndL x) _ (fun w' h => rangeAt_of (Mem.get h.1 (by simp))) Tryd.underlying44 rfl (by rw [ndL_len]; kernel_rfl)) (by assumption) ?_; (try simp only [Act.put, List.setIfInBounds_toArray, List.set_cons_zero, List.set_cons_succ]))
    (refine wpU_step rfl (by rfl) (fun K hK => ?_))
    (refine step_bsNd rfl (.tmp 15) x rfl rfl ?_; (refine hK.out _ _ _ (fun _ h => h) (⟨Mem.skip hHeld.1 _, (cell_keep hHeld.2 _)⟩) (fun hHeld => ?_); clear hK; clear K; (try simp only [Act.put, List.setIfInBounds_toArray, List.set_cons_zero, List.set_cons_succ])))
    (refine wpU_step rfl (by rfl) (fun K hK => ?_))
    (refine step_appN eltNd _ rfl (.tmp 14) (.tmp 16) rfl B (by have := HBB.out.2.2; show B ≤ ((w.alloc (.cells (ndL x).toArray 44)).drew.alloc _).heap.size; rw [World.size_alloc]; show B ≤ (w.alloc (.cells (ndL x).toArray 44)).heap.size + 1; rw [World.size_alloc]; omega) ao n cap (ndsL l) rfl ((HA.out.2.2.1.later (Below.refl _ _).drew).alloc _) (some ⟨(w.alloc (.cells (ndL x).toArray 44)).drew.heap.size, 0, none⟩) 1 1 (ndL x) rfl (row_nd _ x) (fun _ => by decide) (by omega) ?_; intro g2 cp2 w7 row hown hgrow hrow)
    have HG := Lib.hid (And.intro hown (And.intro hgrow hrow))
    have hs1 : (w.alloc (.cells (ndL x).toArray 44)).heap.size = w.heap.size + 1 := World.size_alloc ..
    have hrn : ∀ j, row = some j → B ≤ j ∧ j < w.heap.size ∧ j ≠ g ∧ j ≠ r ∧ ∃ cur, w.heap[j]? = some (.cells cur 44 (0, 0)) := fun j hj => HRow0.out j (hrow j hj)
    have hfar : ∀ j, j < w.heap.size + 1 → some j ≠ row → w7.heap[j]? = (w.alloc (.cells (ndL x).toArray 44)).heap[j]? := fun j hj hne => (hgrow.block j (by rw [World.size_alloc]; show j < (w.alloc (.cells (ndL x).toArray 44)).heap.size + 1; omega) hne).trans (Below.heap_alloc _ _ j (by show j < (w.alloc (.cells (ndL x).toArray 44)).heap.size; omega))
    have hg7 := (hfar g (by have := HA.out.2.2.2.2.1; omega) (fun e => (hrn g e.symm).2.2.1 rfl)).trans HA.out.1
    have hr7 := (hfar r (by have := HA.out.2.2.2.2.2.1; omega) (fun e => (hrn r e.symm).2.2.2.1 rfl)).trans HA.out.2.1
    have hM7 := Mem.grown hgrow (fun p hp j hj => by simp only [List.mem_singleton] at hp; subst hp; have := (hrn j hj).2.1; show w.heap.size ≠ j; omega) hHeld.1
    have hB7 : Below B w w7 := (((HB1.out.drew).trans ((below_alloc _ _).mono (by have := HBB.out.2.2; show B ≤ (w.alloc (.cells (ndL x).toArray 44)).heap.size; omega))).grown hgrow (by rw [World.size_alloc]; show B ≤ (w.alloc (.cells (ndL x).toArray 44)).heap.size + 1; have := HBB.out.2.2; omega) (fun j hj => (hrn j hj).1))
    have hK7 : KeepT w w7 := fun q cs T fz hq hT1 hT2 => (hfar q (by have := heap_lt hq; omega) (fun e => by obtain ⟨cur, hcur⟩ := (hrn q e.symm).2.2.2.2; exact ty_ne hq hcur hT2 rfl)).trans ((Below.heap_alloc _ _ q (heap_lt hq)).trans hq)
    have c27 := obj_cell (i := 2) hg7 rfl
    have f27 := obj_free hg7 2
    (refine hK.out _ _ _ (fun _ h => h) (⟨hM7, c27⟩) (fun hHeld => ?_); clear hK; clear K; (try simp only [Act.put, List.setIfInBounds_toArray, List.set_cons_zero, List.set_cons_succ]))
    (refine wpU_step rfl (by rfl) (fun K hK => ?_); go_simp)
    (refine hK.out _ _ _ (fun _ h => h) (hHeld) (fun hHeld => ?_); clear hK; clear K; (try simp only [Act.put, List.setIfInBounds_toArray, List.set_cons_zero, List.set_cons_succ]))
    (refine wpU_step rfl (by rfl) (fun K hK => ?_); go_simp)
    (refine hK.out _ _ _ (fun _ h => h) (hHeld) (fun hHeld => ?_); clear hK; clear K; (try simp only [Act.put, List.setIfInBounds_toArray, List.set_cons_zero, List.set_cons_succ]))
    have HK7 := Lib.hid hK7
    have H7 := Lib.hid (And.intro hg7 (And.intro hr7 (And.intro hM7 hB7)))
    clear hown hgrow hrow hrn hfar hg7 hr7 hM7 hB7 hs1 hK7
    (refine wpU_last rfl (by rfl) (fun K hK => ?_); go_simp)
    (refine hK.out _ _ ?_; clear hK; clear K; (try simp only [Act.put, List.setIfInBounds_toArray, List.set_cons_zero, List.set_cons_succ]))
    refine wpU_nil ?_
    obtain ⟨cur2, hcur2⟩ := own_obj (.inr ⟨g2, rfl, HG.out.1⟩)
    have hg2g := ty_ne hcur2 H7.out.1 (by decide)
    have hg2r := map_ne hcur2 H7.out.2.1
    have hg8 : (w7.setCell ⟨g, 2, none⟩ (.slice (some ⟨g2, 0, none⟩) (n + 1) cp2)).heap[g]? = some (.cells (tC most (k : Int) (some ⟨g2, 0, none⟩) (n + 1) cp2 r) 32 (0, 0)) := (obj_set H7.out.1 _).trans rfl
    have hr8 : (w7.setCell ⟨g, 2, none⟩ (.slice (some ⟨g2, 0, none⟩) (n + 1) cp2)).heap[r]? = some (.map es clk) := (obj_far _ (Ne.symm HA.out.2.2.2.2.2.2)).trans H7.out.2.1
    have hM8 : Mem (w7.setCell ⟨g, 2, none⟩ (.slice (some ⟨g2, 0, none⟩) (n + 1) cp2)) [(w.heap.size, ndL x)] := Mem.far (fun p hp => by simp only [List.mem_singleton] at hp; subst hp; have := HA.out.2.2.2.2.1; show w.heap.size ≠ g; omega) H7.out.2.2.1
    have hown8 := own_heap (w' := w7.setCell ⟨g, 2, none⟩ (.slice (some ⟨g2, 0, none⟩) (n + 1) cp2)) HG.out.1 (obj_far _ hg2g)
    have hB8 := below_setB (i := 2) (v := .slice (some ⟨g2, 0, none⟩) (n + 1) cp2) H7.out.2.2.2 HBB.out.1
    have HK8 := Lib.hid (show KeepT w (w7.setCell ⟨g, 2, none⟩ (.slice (some ⟨g2, 0, none⟩) (n + 1) cp2)) from fun q cs T fz hq hT1 hT2 => (obj_far _ (ty_ne hq HG0.out.1 hT1)).trans (HK7.out q cs T fz hq hT1 hT2))
    have H8 := Lib.hid (And.intro hg8 (And.intro hr8 (And.intro hM8 (And.intro hown8 (And.intro hB8 (And.intro hg2g hg2r))))))
    clear hcur2 hg2g hg2r hg8 hr8 hM8 hown8 hB8 c2 c2d c27 f27 hHeld
    obtain ⟨W8, hW8⟩ : ∃ y, w7.setCell ⟨g, 2, none⟩ (.slice (some ⟨g2, 0, none⟩) (n + 1) cp2) = y := ⟨_, rfl⟩
    rw [hW8] at H8 HK8
    simp only [hW8]
    clear hW8
    go_wp2
    have c38 : W8.drew.cell? ⟨g, 3, none⟩ = some (.map (some r)) := obj_cell (i := 3) H8.out.1 rfl
    refine wp_planU 7 (fun y => y.cell? ⟨g, 3, none⟩ = some (.map (some r)) ∧ Mem y [(w.heap.size, ndL x)]) [7] [0, 1, 2, 3, 4, 5, 6, 7] (by kernel_rfl) (by kernel_rfl) ⟨c38, H8.out.2.2.1.drew⟩ (fun hHeld => ?_)
    iterate 5 (refine wpU_take rfl (by rfl) (by rfl) (by intro w' hSw; (try dsimp only [Mem, cellsAt] at hSw); go_simp; (try with_reducible rfl)) (by assumption) ?_; (try simp only [Act.put, List.setIfInBounds_toArray, List.set_cons_zero, List.set_cons_succ]))
    (refine wpU_yield rfl (by rfl) (Go.yieldsIf_load_mid (by rfl) 24 (.tmp 24) rfl w.heap.size 0 rfl (b8l x.id 32) _ (fun w' h => nd_range_id (rangeAt_of (Mem.get h.2 (by simp)))) Tryd.underlying24 rfl (by rw [b8l_len]; kernel_rfl)) (by assumption) ?_; (try simp only [Act.put, List.setIfInBounds_toArray, List.set_cons_zero, List.set_cons_succ]))
    iterate 1 (refine wpU_take rfl (by rfl) (by rfl) (by intro w' hSw; (try dsimp only [Mem, cellsAt] at hSw); go_simp; (try with_reducible rfl)) (by assumption) ?_; (try simp only [Act.put, List.setIfInBounds_toArray, List.set_cons_zero, List.set_cons_succ]))
    (refine wpU_last rfl (by rfl) (fun K hK => ?_))
    (refine step_mapUp rfl 30 (.tmp 23) (.tmp 25) (.tmp 26) rfl (.map (some r)) (arr32 x.id) (.int .i64 (n : Int)) rfl rfl rfl _ (update_h 30 Tryd.underlying30 (show W8.drew.heap[r]? = some (.map es clk) from H8.out.2.1) HE.out.1 x.id HE.out.2.1 (.int .i64 (n : Int))) ?_)
    (refine hK.out _ _ ?_; clear hK; clear K; (try simp only [Act.put, List.setIfInBounds_toArray, List.set_cons_zero, List.set_cons_succ]))
    refine wpU_nil ?_
    have hrl8 : r < W8.drew.heap.size := heap_lt (show W8.drew.heap[r]? = some (.map es clk) from H8.out.2.1)
    have hsh : w.heap.size ≠ r := by have := HA.out.2.2.2.2.2.1; omega
    obtain ⟨W9, hW9⟩ : ∃ y, putM W8.drew r (.map (es.push { key := arr32 x.id, val := .int .i64 (n : Int), born := clk }) (clk + 1)) = y := ⟨_, rfl⟩
    have HK9 : Hid (KeepT w W9) := Lib.hid (by rw [← hW9]; exact fun q cs T fz hq hT1 hT2 => (putM_far (map_ne hq HG0.out.2)).trans (HK8.out q cs T fz hq hT1 hT2))
    have hg9 : W9.heap[g]? = some (.cells (tC most (k : Int) (some ⟨g2, 0, none⟩) (n + 1) cp2 r) 32 (0, 0)) := by rw [← hW9]; exact (putM_far HA.out.2.2.2.2.2.2).trans H8.out.1
    have hr9 : W9.heap[r]? = some (.map (es.push { key := arr32 x.id, val := .int .i64 (n : Int), born := clk }) (clk + 1)) := by rw [← hW9]; exact putM_at hrl8
    have he9 : EntOk (es.push { key := arr32 x.id, val := .int .i64 (n : Int), born := clk }) ((l ++ [x]).map Nd.id) := by
      have := HE.out.1.push x.id clk
      rw [List.length_map, HE.out.2.2.1] at this
      rw [List.map_append]
      exact this
    have hown9 : W9.ownsRow B 44 106 (.slice (some ⟨g2, 0, none⟩) (n + 1) cp2) (n + 1) (ndsL l ++ ndL x) := own_heap H8.out.2.2.2.1 (by rw [← hW9]; exact putM_far H8.out.2.2.2.2.2.2)
    have hb9 : W9.heap[w.heap.size]? = W8.heap[w.heap.size]? := by rw [← hW9]; exact putM_far hsh
    have hrg9 : W9.rangeAt w.heap.size 0 (ndL x) := fun j v hj => by
      have := rangeAt_of (Mem.get (b := w.heap.size) (vs := ndL x) H8.out.2.2.1 (by simp)) j v hj
      rw [← this]
      exact World.cell?_of_block (a := ⟨w.heap.size, 0 + j, none⟩) hb9
    have hB9 : Below B w W9 := by rw [← hW9]; exact below_putM H8.out.2.2.2.2.1.drew HBB.out.2.1
    have hsl9 : w.heap.size < W9.heap.size := by
      rw [← hW9, putM_size]
      exact H8.out.2.2.1.1.1
    have hgl9 := heap_lt hg9
    obtain ⟨cur9, hcur9⟩ := own_obj (.inr ⟨g2, rfl, hown9⟩)
    have hg2l9 := heap_lt hcur9
    have hz9 : W9.rangeAt g2 (k * 106) (ndL z) := by
      have h1 := HE.out.2.2.1
      have hoN : OwnN B 44 106 W9 (some ⟨g2, 0, none⟩) (l ++ [x]).length cp2 (ndsL (l ++ [x])) := by
        rw [ndsL_app, ndsL_sing, List.length_append, h1]
        exact .inr ⟨g2, rfl, hown9⟩
      obtain ⟨gn, hgn, _, _, h5⟩ := own_node hoN HE.out.2.2.2.1
      cases hgn
      exact h5
    have HS9 := Lib.hid (show ∀ y, Below W9.heap.size W9 y → y.rangeAt w.heap.size 102 (uL x.wk) ∧ y.cell? ⟨g, 2, none⟩ = some (.slice (some ⟨g2, 0, none⟩) (n + 1) cp2) ∧ y.cell? ⟨g, 1, none⟩ = some (.int .i64 (k : Int)) ∧ y.rangeAt g2 (k * 106 + 102) (uL z.wk) from fun y hy =>
      ⟨fun j v hj => (hy.cell (p := ⟨w.heap.size, _, none⟩) hsl9).trans ((by have := nd_range_w hrg9; rwa [Nat.zero_add] at this : W9.rangeAt w.heap.size 102 (uL x.wk)) j v hj), obj_cell (i := 2) ((hy.block g hgl9).trans hg9) rfl, obj_cell (i := 1) ((hy.block g hgl9).trans hg9) rfl, fun j v hj => (hy.cell (p := ⟨g2, _, none⟩) hg2l9).trans (nd_range_w hz9 j v hj)⟩)
    have HT9 := Lib.hid (And.intro hg9 (And.intro hr9 (And.intro he9 (And.intro hown9 (And.intro (ty_ne hcur9 hg9 (by decide)) hB9)))))
    clear hrl8 hsh hg9 hr9 he9 hown9 hb9 hrg9 hB9 hsl9 hgl9 hcur9 hg2l9 hz9 hHeld c38
    simp only [hW9]
    clear hW9
    go_wp2
    refine wp_plan (fun y => y.rangeAt w.heap.size 102 (uL x.wk) ∧ y.cell? ⟨g, 2, none⟩ = some (.slice (some ⟨g2, 0, none⟩) (n + 1) cp2) ∧ y.cell? ⟨g, 1, none⟩ = some (.int .i64 (k : Int)) ∧ y.rangeAt g2 (k * 106 + 102) (uL z.wk)) [13] [0, 1, 2, 3, 4, 5, 6, 7, 8, 9, 10, 11, 12, 13, 14] (by kernel_rfl) (by kernel_rfl) (HS9.out _ (Below.refl _ _).drew) (fun hHeld => ?_)
    iterate 1 (refine wpT_take rfl (by rfl) (by rfl) (by intro w' hSw; (try dsimp only [Mem, cellsAt] at hSw); go_simp; (try with_reducible rfl)) (by assumption) ?_; (try simp only [Act.put, List.setIfInBounds_toArray, List.set_cons_zero, List.set_cons_succ]))
    (refine wpT_yield rfl (by rfl) (Go.yieldsIf_load_mid (by rfl) 42 (.tmp 27) rfl w.heap.size (102) rfl (uL x.wk) _ (fun w' h' => h'.1) Tryd.underlying42 rfl (by rw [uL_len]; kernel_rfl)) (by assumption) ?_; (try simp only [Act.put, List.setIfInBounds_toArray, List.set_cons_zero, List.set_cons_succ]))
    iterate 10 (refine wpT_take rfl (by rfl) (by rfl) (by intro w' hSw; (try dsimp only [Mem, cellsAt] at hSw); go_simp; (try with_reducible rfl)) (by assumption) ?_; (try simp only [Act.put, List.setIfInBounds_toArray, List.set_cons_zero, List.set_cons_succ]))
    (refine wpT_yield rfl (by rfl) (Go.yieldsIf_load_mid (by rfl) 42 (.tmp 38) rfl g2 (k * 106 + 102) rfl (uL z.wk) _ (fun w' h' => h'.2.2.2) Tryd.underlying42 rfl (by rw [uL_len]; kernel_rfl)) (by assumption) ?_; (try simp only [Act.put, List.setIfInBounds_toArray, List.set_cons_zero, List.set_cons_succ]))
    (refine wpT_step rfl (by rfl) (fun K hK => ?_); go_simp)
    ((with_reducible refine (HCm.out _).mono ?_); rintro e w10 ⟨rfl, hb⟩; have HB10 := Lib.hid (bl_then (Below.refl W9.heap.size W9).drew hb); clear hb; (refine hK.out _ _ _ (fun _ h => h) (HS9.out _ HB10.out) (fun hHeld => ?_); clear hK; clear K; (try simp only [Act.put, List.setIfInBounds_toArray, List.set_cons_zero, List.set_cons_succ])))
    iterate 1 (refine wpT_take rfl (by rfl) (by rfl) (by intro w' hSw; (try dsimp only [Mem, cellsAt] at hSw); go_simp; (try with_reducible rfl)) (by assumption) ?_; (try simp only [Act.put, List.setIfInBounds_toArray, List.set_cons_zero, List.set_cons_succ]))
    (refine wpT_nil ?_)
    have HT := Lib.hid (show w10.heap[g]? = some (.cells (tC most (k : Int) (some ⟨g2, 0, none⟩) (n + 1) cp2 r) 32 (0, 0)) ∧ w10.heap[r]? = some (.map (es.push { key := arr32 x.id, val := .int .i64 (n : Int), born := clk }) (clk + 1)) ∧ EntOk (es.push { key := arr32 x.id, val := .int .i64 (n : Int), born := clk }) ((l ++ [x]).map Nd.id) ∧ w10.ownsRow B 44 106 (.slice (some ⟨g2, 0, none⟩) (n + 1) cp2) (n + 1) (ndsL l ++ ndL x) ∧ g2 ≠ g from
      ⟨(HB10.out.block g (heap_lt HT9.out.1)).trans HT9.out.1, (HB10.out.block r (heap_lt HT9.out.2.1)).trans HT9.out.2.1, HT9.out.2.2.1, ownsRow_later HT9.out.2.2.2.1 HB10.out, HT9.out.2.2.2.2.1⟩)
    have HBT := Lib.hid (show Below B w w10 from HT9.out.2.2.2.2.2.trans (HB10.out.mono (by have := HBB.out.2.2; have := HT9.out.2.2.2.2.2.size; show B ≤ W9.heap.size; omega)))
    have c1x := obj_cell (i := 1) HT.out.1 rfl
    have f1x := obj_free HT.out.1 1
    go_wp2
    go_end0
    have HK10 := HK9.out.trans (keepT_below HB10.out)
    refine ⟨rfl, ?_, below_setB HBT.out HBB.out.1, fun q cs T fz hq hT1 hT2 => (obj_far _ (ty_ne hq HG0.out.1 hT1)).trans (HK10 q cs T fz hq hT1 hT2)⟩
    have hl5 := HE.out.2.2.1
    refine ⟨some ⟨g2, 0, none⟩, cp2, r, _, _, ?_, (obj_far _ (Ne.symm HA.out.2.2.2.2.2.2)).trans HT.out.2.1, HT.out.2.2.1, ?_, HBB.out.1, HBB.out.2.1⟩
    · rw [List.length_append, hl5]
      exact (obj_set HT.out.1 _).trans rfl
    · rw [ndsL_app, ndsL_sing, List.length_append, hl5]
      exact .inr ⟨g2, rfl, own_heap HT.out.2.2.2.1 (obj_far _ HT.out.2.2.2.2)⟩
  · rw [if_neg hlt]
    have hci : ¬ (0 : Int) < c := by rw [decide_eq_false hlt] at hcz; exact of_decide_eq_false hcz
    clear hlt hcz
    go_enter Tryd.func23, Tryd.ntmps23
    go_wp2
    refine wp_planU 10 (fun y => Mem y [(w.heap.size, ndL x)] ∧ y.cell? ⟨g, 2, none⟩ = some (.slice ao n cap)) [6, 7, 8, 9, 10] [0, 1, 2, 3, 4, 5, 6, 7, 8, 9, 10] (by kernel_rfl) (by kernel_rfl) ⟨HA.out.2.2.2.1.drew, c2d⟩ (fun hHeld => ?_)
    iterate 5 (refine wpU_take rfl (by rfl) (by rfl) (by intro w' hSw; (try dsimp only [Mem, cellsAt] at hSw); go_simp; (try with_reducible rfl)) (by assumption) ?_; (try simp only [Act.put, List.setIfInBounds_toArray, List.set_cons_zero, List.set_cons_succ]))
    (refine wpU_yield rfl (by rfl) (Go.yieldsIf_load_mid (by rfl) 44 (.tmp 3) rfl w.heap.size 0 rfl (ndL x) _ (fun w' h => rangeAt_of (Mem.get h.1 (by simp))) Tryd.underlying44 rfl (by rw [ndL_len]; kernel_rfl)) (by assumption) ?_; (try simp only [Act.put, List.setIfInBounds_toArray, List.set_cons_zero, List.set_cons_succ]))
    (refine wpU_step rfl (by rfl) (fun K hK => ?_))
    (refine step_bsNd rfl (.tmp 15) x rfl rfl ?_; (refine hK.out _ _ _ (fun _ h => h) (⟨Mem.skip hHeld.1 _, (cell_keep hHeld.2 _)⟩) (fun hHeld => ?_); clear hK; clear K; (try simp only [Act.put, List.setIfInBounds_toArray, List.set_cons_zero, List.set_cons_succ])))
    (refine wpU_step rfl (by rfl) (fun K hK => ?_))
    (refine step_appN eltNd _ rfl (.tmp 14) (.tmp 16) rfl B (by have := HBB.out.2.2; show B ≤ ((w.alloc (.cells (ndL x).toArray 44)).drew.alloc _).heap.size; rw [World.size_alloc]; show B ≤ (w.alloc (.cells (ndL x).toArray 44)).heap.size + 1; rw [World.size_alloc]; omega) ao n cap (ndsL l) rfl ((HA.out.2.2.1.later (Below.refl _ _).drew).alloc _) (some ⟨(w.alloc (.cells (ndL x).toArray 44)).drew.heap.size, 0, none⟩) 1 1 (ndL x) rfl (row_nd _ x) (fun _ => by decide) (by omega) ?_; intro g2 cp2 w7 row hown hgrow hrow)
    have HG := Lib.hid (And.intro hown (And.intro hgrow hrow))
    have hs1 : (w.alloc (.cells (ndL x).toArray 44)).heap.size = w.heap.size + 1 := World.size_alloc ..
    have hrn : ∀ j, row = some j → B ≤ j ∧ j < w.heap.size ∧ j ≠ g ∧ j ≠ r ∧ ∃ cur, w.heap[j]? = some (.cells cur 44 (0, 0)) := fun j hj => HRow0.out j (hrow j hj)
    have hfar : ∀ j, j < w.heap.size + 1 → some j ≠ row → w7.heap[j]? = (w.alloc (.cells (ndL x).toArray 44)).heap[j]? := fun j hj hne => (hgrow.block j (by rw [World.size_alloc]; show j < (w.alloc (.cells (ndL x).toArray 44)).heap.size + 1; omega) hne).trans (Below.heap_alloc _ _ j (by show j < (w.alloc (.cells (ndL x).toArray 44)).heap.size; omega))
    have hg7 := (hfar g (by have := HA.out.2.2.2.2.1; omega) (fun e => (hrn g e.symm).2.2.1 rfl)).trans HA.out.1
    have hr7 := (hfar r (by have := HA.out.2.2.2.2.2.1; omega) (fun e => (hrn r e.symm).2.2.2.1 rfl)).trans HA.out.2.1
    have hM7 := Mem.grown hgrow (fun p hp j hj => by simp only [List.mem_singleton] at hp; subst hp; have := (hrn j hj).2.1; show w.heap.size ≠ j; omega) hHeld.1
    have hB7 : Below B w w7 := (((HB1.out.drew).trans ((below_alloc _ _).mono (by have := HBB.out.2.2; show B ≤ (w.alloc (.cells (ndL x).toArray 44)).heap.size; omega))).grown hgrow (by rw [World.size_alloc]; show B ≤ (w.alloc (.cells (ndL x).toArray 44)).heap.size + 1; have := HBB.out.2.2; omega) (fun j hj => (hrn j hj).1))
    have hK7 : KeepT w w7 := fun q cs T fz hq hT1 hT2 => (hfar q (by have := heap_lt hq; omega) (fun e => by obtain ⟨cur, hcur⟩ := (hrn q e.symm).2.2.2.2; exact ty_ne hq hcur hT2 rfl)).trans ((Below.heap_alloc _ _ q (heap_lt hq)).trans hq)
    have c27 := obj_cell (i := 2) hg7 rfl
    have f27 := obj_free hg7 2
    (refine hK.out _ _ _ (fun _ h => h) (⟨hM7, c27⟩) (fun hHeld => ?_); clear hK; clear K; (try simp only [Act.put, List.setIfInBounds_toArray, List.set_cons_zero, List.set_cons_succ]))
    (refine wpU_step rfl (by rfl) (fun K hK => ?_); go_simp)
    (refine hK.out _ _ _ (fun _ h => h) (hHeld) (fun hHeld => ?_); clear hK; clear K; (try simp only [Act.put, List.setIfInBounds_toArray, List.set_cons_zero, List.set_cons_succ]))
    (refine wpU_step rfl (by rfl) (fun K hK => ?_); go_simp)
    (refine hK.out _ _ _ (fun _ h => h) (hHeld) (fun hHeld => ?_); clear hK; clear K; (try simp only [Act.put, List.setIfInBounds_toArray, List.set_cons_zero, List.set_cons_succ]))
    have HK7 := Lib.hid hK7
    have H7 := Lib.hid (And.intro hg7 (And.intro hr7 (And.intro hM7 hB7)))
    clear hown hgrow hrow hrn hfar hg7 hr7 hM7 hB7 hs1 hK7
    (refine wpU_last rfl (by rfl) (fun K hK => ?_); go_simp)
    (refine hK.out _ _ ?_; clear hK; clear K; (try simp only [Act.put, List.setIfInBounds_toArray, List.set_cons_zero, List.set_cons_succ]))
    refine wpU_nil ?_
    obtain ⟨cur2, hcur2⟩ := own_obj (.inr ⟨g2, rfl, HG.out.1⟩)
    have hg2g := ty_ne hcur2 H7.out.1 (by decide)
    have hg2r := map_ne hcur2 H7.out.2.1
    have hg8 : (w7.setCell ⟨g, 2, none⟩ (.slice (some ⟨g2, 0, none⟩) (n + 1) cp2)).heap[g]? = some (.cells (tC most (k : Int) (some ⟨g2, 0, none⟩) (n + 1) cp2 r) 32 (0, 0)) := (obj_set H7.out.1 _).trans rfl
    have hr8 : (w7.setCell ⟨g, 2, none⟩ (.slice (some ⟨g2, 0, none⟩) (n + 1) cp2)).heap[r]? = some (.map es clk) := (obj_far _ (Ne.symm HA.out.2.2.2.2.2.2)).trans H7.out.2.1
    have hM8 : Mem (w7.setCell ⟨g, 2, none⟩ (.slice (some ⟨g2, 0, none⟩) (n + 1) cp2)) [(w.heap.size, ndL x)] := Mem.far (fun p hp => by simp only [List.mem_singleton] at hp; subst hp; have := HA.out.2.2.2.2.1; show w.heap.size ≠ g; omega) H7.out.2.2.1
    have hown8 := own_heap (w' := w7.setCell ⟨g, 2, none⟩ (.slice (some ⟨g2, 0, none⟩) (n + 1) cp2)) HG.out.1 (obj_far _ hg2g)
    have hB8 := below_setB (i := 2) (v := .slice (some ⟨g2, 0, none⟩) (n + 1) cp2) H7.out.2.2.2 HBB.out.1
    have HK8 := Lib.hid (show KeepT w (w7.setCell ⟨g, 2, none⟩ (.slice (some ⟨g2, 0, none⟩) (n + 1) cp2)) from fun q cs T fz hq hT1 hT2 => (obj_far _ (ty_ne hq HG0.out.1 hT1)).trans (HK7.out q cs T fz hq hT1 hT2))
    have H8 := Lib.hid (And.intro hg8 (And.intro hr8 (And.intro hM8 (And.intro hown8 (And.intro hB8 (And.intro hg2g hg2r))))))
    clear hcur2 hg2g hg2r hg8 hr8 hM8 hown8 hB8 c2 c2d c27 f27 hHeld
    obtain ⟨W8, hW8⟩ : ∃ y, w7.setCell ⟨g, 2, none⟩ (.slice (some ⟨g2, 0, none⟩) (n + 1) cp2) = y := ⟨_, rfl⟩
    rw [hW8] at H8 HK8
    simp only [hW8]
    clear hW8
    go_wp2
    have c38 : W8.drew.cell? ⟨g, 3, none⟩ = some (.map (some r)) := obj_cell (i := 3) H8.out.1 rfl
    refine wp_planU 7 (fun y => y.cell? ⟨g, 3, none⟩ = some (.map (some r)) ∧ Mem y [(w.heap.size, ndL x)]) [7] [0, 1, 2, 3, 4, 5, 6, 7] (by kernel_rfl) (by kernel_rfl) ⟨c38, H8.out.2.2.1.drew⟩ (fun hHeld => ?_)
    iterate 5 (refine wpU_take rfl (by rfl) (by rfl) (by intro w' hSw; (try dsimp only [Mem, cellsAt] at hSw); go_simp; (try with_reducible rfl)) (by assumption) ?_; (try simp only [Act.put, List.setIfInBounds_toArray, List.set_cons_zero, List.set_cons_succ]))
    (refine wpU_yield rfl (by rfl) (Go.yieldsIf_load_mid (by rfl) 24 (.tmp 24) rfl w.heap.size 0 rfl (b8l x.id 32) _ (fun w' h => nd_range_id (rangeAt_of (Mem.get h.2 (by simp)))) Tryd.underlying24 rfl (by rw [b8l_len]; kernel_rfl)) (by assumption) ?_; (try simp only [Act.put, List.setIfInBounds_toArray, List.set_cons_zero, List.set_cons_succ]))
    iterate 1 (refine wpU_take rfl (by rfl) (by rfl) (by intro w' hSw; (try dsimp only [Mem, cellsAt] at hSw); go_simp; (try with_reducible rfl)) (by assumption) ?_; (try simp only [Act.put, List.setIfInBounds_toArray, List.set_cons_zero, List.set_cons_succ]))
    (refine wpU_last rfl (by rfl) (fun K hK => ?_))
    (refine step_mapUp rfl 30 (.tmp 23) (.tmp 25) (.tmp 26) rfl (.map (some r)) (arr32 x.id) (.int .i64 (n : Int)) rfl rfl rfl _ (update_h 30 Tryd.underlying30 (show W8.drew.heap[r]? = some (.map es clk) from H8.out.2.1) HE.out.1 x.id HE.out.2.1 (.int .i64 (n : Int))) ?_)
    (refine hK.out _ _ ?_; clear hK; clear K; (try simp only [Act.put, List.setIfInBounds_toArray, List.set_cons_zero, List.set_cons_succ]))
    refine wpU_nil ?_
    have hrl8 : r < W8.drew.heap.size := heap_lt (show W8.drew.heap[r]? = some (.map es clk) from H8.out.2.1)
    have hsh : w.heap.size ≠ r := by have := HA.out.2.2.2.2.2.1; omega
    obtain ⟨W9, hW9⟩ : ∃ y, putM W8.drew r (.map (es.push { key := arr32 x.id, val := .int .i64 (n : Int), born := clk }) (clk + 1)) = y := ⟨_, rfl⟩
    have HK9 : Hid (KeepT w W9) := Lib.hid (by rw [← hW9]; exact fun q cs T fz hq hT1 hT2 => (putM_far (map_ne hq HG0.out.2)).trans (HK8.out q cs T fz hq hT1 hT2))
    have hg9 : W9.heap[g]? = some (.cells (tC most (k : Int) (some ⟨g2, 0, none⟩) (n + 1) cp2 r) 32 (0, 0)) := by rw [← hW9]; exact (putM_far HA.out.2.2.2.2.2.2).trans H8.out.1
    have hr9 : W9.heap[r]? = some (.map (es.push { key := arr32 x.id, val := .int .i64 (n : Int), born := clk }) (clk + 1)) := by rw [← hW9]; exact putM_at hrl8
    have he9 : EntOk (es.push { key := arr32 x.id, val := .int .i64 (n : Int), born := clk }) ((l ++ [x]).map Nd.id) := by
      have := HE.out.1.push x.id clk
      rw [List.length_map, HE.out.2.2.1] at this
      rw [List.map_append]
      exact this
    have hown9 : W9.ownsRow B 44 106 (.slice (some ⟨g2, 0, none⟩) (n + 1) cp2) (n + 1) (ndsL l ++ ndL x) := own_heap H8.out.2.2.2.1 (by rw [← hW9]; exact putM_far H8.out.2.2.2.2.2.2)
    have hb9 : W9.heap[w.heap.size]? = W8.heap[w.heap.size]? := by rw [← hW9]; exact putM_far hsh
    have hrg9 : W9.rangeAt w.heap.size 0 (ndL x) := fun j v hj => by
      have := rangeAt_of (Mem.get (b := w.heap.size) (vs := ndL x) H8.out.2.2.1 (by simp)) j v hj
      rw [← this]
      exact World.cell?_of_block (a := ⟨w.heap.size, 0 + j, none⟩) hb9
    have hB9 : Below B w W9 := by rw [← hW9]; exact below_putM H8.out.2.2.2.2.1.drew HBB.out.2.1
    have hsl9 : w.heap.size < W9.heap.size := by
      rw [← hW9, putM_size]
      exact H8.out.2.2.1.1.1
    have hgl9 := heap_lt hg9
    obtain ⟨cur9, hcur9⟩ := own_obj (.inr ⟨g2, rfl, hown9⟩)
    have hg2l9 := heap_lt hcur9
    have hz9 : W9.rangeAt g2 (k * 106) (ndL z) := by
      have h1 := HE.out.2.2.1
      have hoN : OwnN B 44 106 W9 (some ⟨g2, 0, none⟩) (l ++ [x]).length cp2 (ndsL (l ++ [x])) := by
        rw [ndsL_app, ndsL_sing, List.length_append, h1]
        exact .inr ⟨g2, rfl, hown9⟩
      obtain ⟨gn, hgn, _, _, h5⟩ := own_node hoN HE.out.2.2.2.1
      cases hgn
      exact h5
    have HS9 := Lib.hid (show ∀ y, Below W9.heap.size W9 y → y.rangeAt w.heap.size 102 (uL x.wk) ∧ y.cell? ⟨g, 2, none⟩ = some (.slice (some ⟨g2, 0, none⟩) (n + 1) cp2) ∧ y.cell? ⟨g, 1, none⟩ = some (.int .i64 (k : Int)) ∧ y.rangeAt g2 (k * 106 + 102) (uL z.wk) from fun y hy =>
      ⟨fun j v hj => (hy.cell (p := ⟨w.heap.size, _, none⟩) hsl9).trans ((by have := nd_range_w hrg9; rwa [Nat.zero_add] at this : W9.rangeAt w.heap.size 102 (uL x.wk)) j v hj), obj_cell (i := 2) ((hy.block g hgl9).trans hg9) rfl, obj_cell (i := 1) ((hy.block g hgl9).trans hg9) rfl, fun j v hj => (hy.cell (p := ⟨g2, _, none⟩) hg2l9).trans (nd_range_w hz9 j v hj)⟩)
    have HT9 := Lib.hid (And.intro hg9 (And.intro hr9 (And.intro he9 (And.intro hown9 (And.intro (ty_ne hcur9 hg9 (by decide)) hB9)))))
    clear hrl8 hsh hg9 hr9 he9 hown9 hb9 hrg9 hB9 hsl9 hgl9 hcur9 hg2l9 hz9 hHeld c38
    simp only [hW9]
    clear hW9
    go_wp2
    refine wp_plan (fun y => y.rangeAt w.heap.size 102 (uL x.wk) ∧ y.cell? ⟨g, 2, none⟩ = some (.slice (some ⟨g2, 0, none⟩) (n + 1) cp2) ∧ y.cell? ⟨g, 1, none⟩ = some (.int .i64 (k : Int)) ∧ y.rangeAt g2 (k * 106 + 102) (uL z.wk)) [13] [0, 1, 2, 3, 4, 5, 6, 7, 8, 9, 10, 11, 12, 13, 14] (by kernel_rfl) (by kernel_rfl) (HS9.out _ (Below.refl _ _).drew) (fun hHeld => ?_)
    iterate 1 (refine wpT_take rfl (by rfl) (by rfl) (by intro w' hSw; (try dsimp only [Mem, cellsAt] at hSw); go_simp; (try with_reducible rfl)) (by assumption) ?_; (try simp only [Act.put, List.setIfInBounds_toArray, List.set_cons_zero, List.set_cons_succ]))
    (refine wpT_yield rfl (by rfl) (Go.yieldsIf_load_mid (by rfl) 42 (.tmp 27) rfl w.heap.size (102) rfl (uL x.wk) _ (fun w' h' => h'.1) Tryd.underlying42 rfl (by rw [uL_len]; kernel_rfl)) (by assumption) ?_; (try simp only [Act.put, List.setIfInBounds_toArray, List.set_cons_zero, List.set_cons_succ]))
    iterate 10 (refine wpT_take rfl (by rfl) (by rfl) (by intro w' hSw; (try dsimp only [Mem, cellsAt] at hSw); go_simp; (try with_reducible rfl)) (by assumption) ?_; (try simp only [Act.put, List.setIfInBounds_toArray, List.set_cons_zero, List.set_cons_succ]))
    (refine wpT_yield rfl (by rfl) (Go.yieldsIf_load_mid (by rfl) 42 (.tmp 38) rfl g2 (k * 106 + 102) rfl (uL z.wk) _ (fun w' h' => h'.2.2.2) Tryd.underlying42 rfl (by rw [uL_len]; kernel_rfl)) (by assumption) ?_; (try simp only [Act.put, List.setIfInBounds_toArray, List.set_cons_zero, List.set_cons_succ]))
    (refine wpT_step rfl (by rfl) (fun K hK => ?_); go_simp)
    ((with_reducible refine (HCm.out _).mono ?_); rintro e w10 ⟨rfl, hb⟩; have HB10 := Lib.hid (bl_then (Below.refl W9.heap.size W9).drew hb); clear hb; (refine hK.out _ _ _ (fun _ h => h) (HS9.out _ HB10.out) (fun hHeld => ?_); clear hK; clear K; (try simp only [Act.put, List.setIfInBounds_toArray, List.set_cons_zero, List.set_cons_succ])))
    iterate 1 (refine wpT_take rfl (by rfl) (by rfl) (by intro w' hSw; (try dsimp only [Mem, cellsAt] at hSw); go_simp; (try with_reducible rfl)) (by assumption) ?_; (try simp only [Act.put, List.setIfInBounds_toArray, List.set_cons_zero, List.set_cons_succ]))
    (refine wpT_nil ?_)
    have HT := Lib.hid (show w10.heap[g]? = some (.cells (tC most (k : Int) (some ⟨g2, 0, none⟩) (n + 1) cp2 r) 32 (0, 0)) ∧ w10.heap[r]? = some (.map (es.push { key := arr32 x.id, val := .int .i64 (n : Int), born := clk }) (clk + 1)) ∧ EntOk (es.push { key := arr32 x.id, val := .int .i64 (n : Int), born := clk }) ((l ++ [x]).map Nd.id) ∧ w10.ownsRow B 44 106 (.slice (some ⟨g2, 0, none⟩) (n + 1) cp2) (n + 1) (ndsL l ++ ndL x) ∧ g2 ≠ g from
      ⟨(HB10.out.block g (heap_lt HT9.out.1)).trans HT9.out.1, (HB10.out.block r (heap_lt HT9.out.2.1)).trans HT9.out.2.1, HT9.out.2.2.1, ownsRow_later HT9.out.2.2.2.1 HB10.out, HT9.out.2.2.2.2.1⟩)
    have HBT := Lib.hid (show Below B w w10 from HT9.out.2.2.2.2.2.trans (HB10.out.mono (by have := HBB.out.2.2; have := HT9.out.2.2.2.2.2.size; show B ≤ W9.heap.size; omega)))
    go_wp2
    go_end0
    refine ⟨rfl, ?_, HBT.out, HK9.out.trans (keepT_below HB10.out)⟩
    have hl5 := HE.out.2.2.1
    refine ⟨some ⟨g2, 0, none⟩, cp2, r, _, _, ?_, HT.out.2.1, HT.out.2.2.1, ?_, HBB.out.1, HBB.out.2.1⟩
    · rw [List.length_append, hl5]
      exact HT.out.1
    · rw [ndsL_app, ndsL_sing, List.length_append, hl5]
      exact .inr ⟨g2, rfl, HT.out.2.2.2.1⟩
end Go.Proofs.YtfbhpkhpkaeagaaDoor
