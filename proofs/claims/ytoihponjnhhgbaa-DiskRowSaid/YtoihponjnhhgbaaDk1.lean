/- Disk: small contracts: sector, count, New, slices.Clone at []byte. -/
import Derived.Test.YtoihponjnhhgbaaApp
import Derived.Test.YtoihponjnhhgbaaOpen2
import Derived.Test.YtoihponjnhhgbaaUnd
namespace Go.Proofs.Ytoihponjnhhgbaa
set_option linter.unusedVariables false
set_option linter.unusedSimpArgs false
open Go.RowKit

theorem bl_then {a w w' : World} (h : Below a.heap.size a w) (k : Below w.heap.size w w') : Below a.heap.size a w' := h.trans (k.mono h.size)
theorem bl_al {a w : World} (h : Below a.heap.size a w) (o : Obj) : Below a.heap.size a (w.alloc o) := h.alloc h.size o
theorem getD_lt {α : Type} (l : List α) (d : α) {i : Nat} (h : i < l.length) : l.getD i d = l[i] := by simp [List.getD, h]

theorem eltU8 : Elt Try.prog 22 5 (.int .u8 0) 1 1 := ⟨Try.underlying22, by kernel_rfl, rfl, by decide, by decide⟩
def b8 (l : List Int) : List Value := l.map (Value.int .u8)
theorem b8_len (l : List Int) : (b8 l).length = l.length := by simp [b8]
theorem b8_one (l : List Int) : ∀ u ∈ b8 l, u.oneCell' = true := by
  intro u hu
  simp only [b8, List.mem_map] at hu
  obtain ⟨x, _, rfl⟩ := hu
  rfl
theorem b8_app (a b : List Int) : b8 (a ++ b) = b8 a ++ b8 b := by simp [b8]
theorem b8_drop (a : List Int) (k : Nat) : (b8 a).drop k = b8 (a.drop k) := by simp [b8]
theorem b8_take (a : List Int) (k : Nat) : (b8 a).take k = b8 (a.take k) := by simp [b8]
theorem b8_get (l : List Int) (i : Nat) (h : i < l.length) : (b8 l)[i]? = some (.int .u8 (l.getD i 0)) := by simp [b8, h, List.getD]

theorem Row.drop {w : World} {b off n c : Nat} {xs : List Value} (h : Row w (some ⟨b, off, none⟩) n c 1 xs) (k : Nat) (hk : k ≤ n) : Row w (some ⟨b, off + k, none⟩) (n - k) (c - k) 1 (xs.drop k) := by
  have hl := h.len
  have hle := h.le
  refine ⟨by rw [List.length_drop]; omega, by omega, fun h => (by cases h), ?_, fun u hu => h.one u (List.mem_of_mem_drop hu)⟩
  intro ad ha i u hu
  simp only [Option.some.injEq] at ha
  subst ha
  rw [List.getElem?_drop] at hu
  have := (h.cells _ rfl (k + i) u hu).2
  exact ⟨rfl, by rwa [← Nat.add_assoc] at this⟩
theorem Row.cell8 {w : World} {b off n c : Nat} {l : List Int} (h : Row w (some ⟨b, off, none⟩) n c 1 (b8 l)) (i : Nat) (hi : i < n) : w.cell? ⟨b, off + i, none⟩ = some (.int .u8 (l.getD i 0)) :=
  (h.cells _ rfl i _ (b8_get l i (by have := h.len; rw [b8_len] at this; omega))).2
theorem Row.len8 {w : World} {ao : Option Addr} {n c : Nat} {l : List Int} (h : Row w ao n c 1 (b8 l)) : n = l.length := by have := h.len; rw [b8_len] at this; omega
theorem row_mt (w : World) (ao : Option Addr) (c sz : Nat) (h : ao = none → c = 0) : Row w ao 0 c sz [] :=
  ⟨by simp, Nat.zero_le _, h, fun _ _ i u hu => by simp at hu, fun _ h => by cases h⟩

set_option maxHeartbeats 400000 in
theorem clone_any (ao : Option Addr) (n c : Nat) (xs : List Value) (w : World) (hr : Row w ao n c 1 xs) (hn : n ≤ 10000000000) :
    Calls Try.prog 34 #[.slice ao n c] w fun e w' => ∃ ao' c', e = .returned (.slice ao' n c') ∧ OwnN w.heap.size 5 1 w' ao' n c' xs ∧ Below w.heap.size w w' := by
  cases ao with
  | none =>
    have hc := hr.nil rfl
    have hn0 : n = 0 := by have := hr.le; omega
    subst hc
    subst hn0
    have hx : xs = [] := List.eq_nil_of_length_eq_zero (by simpa using hr.len)
    subst hx
    clear hr
    have heq : (binOp .eql 22 (.slice none 0 0) (.slice none 0 0)).run Try.prog w = .ok (.bool true) w := Lib.run_eql_slice_nil w _ _ none 0 0 0 0 Try.underlying22
    go_enter Try.func34, Try.ntmps34
    go_wp2
    go_ret
    exact ⟨none, 0, rfl, .inl ⟨rfl, rfl, rfl, rfl⟩, Below.refl _ _⟩
  | some ad =>
    have HO := Lib.hid (ownN_lit0 w.heap.size 5 1 w (Nat.le_refl _))
    have HR := Lib.hid hr
    clear hr
    have heq : (binOp .eql 22 (.slice (some ad) n c) (.slice none 0 0)).run Try.prog w = .ok (.bool false) w := Lib.run_eql_slice_nil w _ _ (some ad) n c 0 0 Try.underlying22
    go_enter Try.func34, Try.ntmps34
    go_wp2_with (at_builtin; refine wpList_appN eltU8 w _ (below_alloc w _) rfl _ _ rfl _ 0 0 [] rfl HO.out _ n c _ rfl (HR.out.alloc _) (fun h => by cases h) (by omega) ?_; intro g' cap w' hown hb; replace hown := Lib.hid hown)
    go_ret
    refine ⟨_, _, rfl, .inr ⟨g', rfl, ?_⟩, hb⟩
    simpa using hown.out

set_option maxHeartbeats 400000 in
theorem sector_any (b off n c : Nat) (k : Nat) (w : World) (hk : 32 * k + 32 ≤ n) (hc : n ≤ c) (hn : n ≤ 1000000) :
    Calls Try.prog 32 #[.slice (some ⟨b, off, none⟩) n c, .int .i64 (k : Int)] w fun e w' => e = .returned (.slice (some ⟨b, off + k * 32, none⟩) 32 32) ∧ w' = w := by
  have h1 : (k : Int) ≤ 31250 := by omega
  have h2 : 0 ≤ (k : Int) := by omega
  have h3 : (k : Int) * 32 + 32 ≤ (c : Int) := by omega
  have h4 : (k : Int) * 32 < (c : Int) := by omega
  go_enter Try.func32, Try.ntmps32
  go_wp2
  go_ret
  refine ⟨?_, rfl⟩
  simp only [show k * 32 + 32 - k * 32 = 32 by omega]
  rfl

set_option maxHeartbeats 400000 in
theorem count_any (ao : Option Addr) (n c : Nat) (po : Option Addr) (m pc : Nat) (w : World) (hn : n ≤ 1000000) :
    Calls Try.prog 31 #[.agg #[.slice ao n c, .slice po m pc]] w fun e w' => e = .returned (.int .i64 ((n : Int) / 32)) ∧ Below w.heap.size w w' := by
  go_enter Try.func31, Try.ntmps31
  go_wp2
  go_ret
  exact ⟨rfl, below_alloc _ _⟩

/-- make([]byte, n) -/
theorem wpList_make8 {P : Program} {T E : TypeId} (he : Elt P T E (.int .u8 0) 1 1) (w : World) {ops : Array Oper} {rest : List Oper} {o : Oper} {a : Act} {Q : Exit → Act → World → Prop} (hgd : o.guard = none) (l : Operand) (hop : o.op = Op.makeSlice T l l)
    (n : Nat) (hl : a.eval l = .int .i64 (n : Int)) (hn : n ≤ 1000000)
    (h : ∀ w', w'.ownsRow w.heap.size E 1 (.slice (some ⟨w.heap.size, 0, none⟩) n n) n (b8 (List.replicate n 0)) → w.grownBy w' none → wpList P ops Q rest (a.put o.dst (.slice (some ⟨w.heap.size, 0, none⟩) n n)) w') : wpList P ops Q (o :: rest) a w := by
  obtain ⟨i, hi, hz0, hz1, hz2⟩ := info_parts he.hi
  refine wpList_make_full w hgd l l T hop w.heap.size E i (.int .u8 0) 1 he.ht hi hz0 hz1 .i64 .i64 n n n hl hl rfl rfl (by rw [hz2]; omega) (by unfold maxLen; omega) (Nat.le_refl _) fun w' h1 h2 => h w' ?_ h2
  have e : (madeCells (Value.cells (.int .u8 0)) (n * 1)).toList = b8 (List.replicate n 0) := by
    rw [show (Value.cells (.int .u8 0)) = #[Value.int .u8 0] from rfl, toList_madeCells_one, Nat.mul_one]
    simp [b8]
  rw [← e]
  exact h1

theorem box2 {w w1 : World} {u v : Value} {T : TypeId} (hb : Below (w.alloc (.cells #[u, v] T)).heap.size (w.alloc (.cells #[u, v] T)) w1) :
    w1.cell? ⟨w.heap.size, 0, none⟩ = some u ∧ w1.cell? ⟨w.heap.size, 1, none⟩ = some v ∧ w1.frozen? ⟨w.heap.size, 0, none⟩ = false ∧ w1.frozen? ⟨w.heap.size, 1, none⟩ = false ∧ w.heap.size < w1.heap.size := by
  have hlt : w.heap.size < (w.alloc (.cells #[u, v] T)).heap.size := by simp
  refine ⟨?_, ?_, ?_, ?_, Nat.lt_of_lt_of_le hlt hb.size⟩
  · rw [hb.cell (p := ⟨w.heap.size, 0, none⟩) hlt]; simp
  · rw [hb.cell (p := ⟨w.heap.size, 1, none⟩) hlt]; simp
  · rw [hb.frozen (p := ⟨w.heap.size, 0, none⟩) hlt]; exact World.frozen?_alloc_new w _ T 0
  · rw [hb.frozen (p := ⟨w.heap.size, 1, none⟩) hlt]; exact World.frozen?_alloc_new w _ T 1
theorem Row.far {w : World} {ao : Option Addr} {n c sz : Nat} {xs : List Value} (h : Row w ao n c sz xs) {b k : Nat} {v : Value} (hne : ∀ ad, ao = some ad → b ≠ ad.block) : Row (w.setCell ⟨b, k, none⟩ v) ao n c sz xs :=
  ⟨h.len, h.le, h.nil, fun ad ha i u hu => ⟨(h.cells ad ha i u hu).1, by
    rw [World.cell?_setCell_far _ _ _ _ (by exact hne ad ha)]
    exact (h.cells ad ha i u hu).2⟩, h.one⟩

/-- so many sectors -/
def secN (k : Int) : Nat := (min (max k 0) 4096).toNat
theorem new_fin {w w1 : World} {s : Nat} (h1 : w1.ownsRow (w.heap.size + 1) 5 1 (.slice (some ⟨w.heap.size + 1, 0, none⟩) s s) s (b8 (List.replicate s 0))) (h2 : (w.alloc (.cells #[.slice none 0 0, .slice none 0 0] 30)).grownBy w1 none) (v u : Value) :
    Row ((w1.setCell ⟨w.heap.size, 0, none⟩ v).setCell ⟨w.heap.size, 1, none⟩ u) (some ⟨w.heap.size + 1, 0, none⟩) s s 1 (b8 (List.replicate s 0)) ∧ Below w.heap.size w ((w1.setCell ⟨w.heap.size, 0, none⟩ v).setCell ⟨w.heap.size, 1, none⟩ u) := by
  have hb := below_grown (below_alloc w (.cells #[.slice none 0 0, .slice none 0 0] 30)) h2 (fun _ h => by cases h)
  exact ⟨((row_own h1 (b8_one _)).far (fun ad ha => by cases ha; show w.heap.size ≠ w.heap.size + 1; omega)).far (fun ad ha => by cases ha; show w.heap.size ≠ w.heap.size + 1; omega), (hb.setCell (Nat.le_refl _) _).setCell (Nat.le_refl _) _⟩
theorem below_new {a w : World} {o : Obj} (h : (a.alloc o).grownBy w none) : Below (a.alloc o).heap.size (a.alloc o) w := below_grown (Below.refl _ _) h (fun _ h => by cases h)

set_option maxHeartbeats 1000000 in
theorem new_any (k : Int) (w : World) : Calls Try.prog 28 #[.int .i64 k] w fun e w' => ∃ ao c, e = .returned (.agg #[.slice ao (secN k * 32) c, .slice none 0 0]) ∧ Row w' ao (secN k * 32) c 1 (b8 (List.replicate (secN k * 32) 0)) ∧ Below w.heap.size w w' := by
  rcases Int.lt_or_le k 0 with h0 | h0
  · have hs := Lib.hid (show secN k = 0 by unfold secN; omega)
    go_enter Try.func28, Try.ntmps28
    go_wp2_with (refine wpList_make8 eltU8 _ rfl (.tmp 7) rfl 0 rfl (by omega) ?_; intro w1 hown hgrow; obtain ⟨hc1, hc2, hc3, hc4, hc5⟩ := box2 (below_new hgrow); replace hown := Lib.hid hown; replace hgrow := Lib.hid hgrow)
    refine bodyPost_ret (v := .agg #[.slice (some ⟨w.heap.size + 1, 0, none⟩) (0) (0), .slice none 0 0]) (by simp [results, Try.results28, go_sem, hc1, hc2]) rfl ?_
    have := new_fin (s := 0) (by have h := hown.out; simp only [World.size_alloc] at h; exact h) hgrow.out
    exact ⟨_, _, by rw [hs.out], by rw [hs.out]; exact (this _ _).1, (this _ _).2⟩
  rcases Int.lt_or_le 4096 k with h1 | h1
  · have hs := Lib.hid (show secN k = 4096 by unfold secN; omega)
    go_enter Try.func28, Try.ntmps28
    go_wp2_with (refine wpList_make8 eltU8 _ rfl (.tmp 7) rfl 131072 rfl (by omega) ?_; intro w1 hown hgrow; obtain ⟨hc1, hc2, hc3, hc4, hc5⟩ := box2 (below_new hgrow); replace hown := Lib.hid hown; replace hgrow := Lib.hid hgrow)
    refine bodyPost_ret (v := .agg #[.slice (some ⟨w.heap.size + 1, 0, none⟩) (131072) (131072), .slice none 0 0]) (by simp [results, Try.results28, go_sem, hc1, hc2]) rfl ?_
    have := new_fin (s := 131072) (by have h := hown.out; simp only [World.size_alloc] at h; exact h) hgrow.out
    exact ⟨_, _, by rw [hs.out], by rw [hs.out]; exact (this _ _).1, (this _ _).2⟩
  · obtain ⟨s, rfl⟩ := Int.eq_ofNat_of_zero_le h0
    have hs := Lib.hid (show secN (s : Int) = s by unfold secN; omega)
    have hs' : s ≤ 4096 := by omega
    go_enter Try.func28, Try.ntmps28
    go_wp2_with (refine wpList_make8 eltU8 _ rfl (.tmp 7) rfl (s * 32) (by simp [Act.eval, go_sem]) (by omega) ?_; intro w1 hown hgrow; obtain ⟨hc1, hc2, hc3, hc4, hc5⟩ := box2 (below_new hgrow); replace hown := Lib.hid hown; replace hgrow := Lib.hid hgrow)
    refine bodyPost_ret (v := .agg #[.slice (some ⟨w.heap.size + 1, 0, none⟩) (s * 32) (s * 32), .slice none 0 0]) (by simp [results, Try.results28, go_sem, hc1, hc2]) rfl ?_
    have := new_fin (s := s * 32) (by have h := hown.out; simp only [World.size_alloc] at h; exact h) hgrow.out
    exact ⟨_, _, by rw [hs.out], by rw [hs.out]; exact (this _ _).1, (this _ _).2⟩
end Go.Proofs.Ytoihponjnhhgbaa
