/- Clock: small contracts: slices.Clone at []uint32, the order that sort.Slice is handed, bounded. -/
import Derived.Test.YtppbnanhippdaaaCk0
import Derived.Test.YtppbnanhippdaaaOpen
import Derived.Laws.OwnMore
namespace Go.Proofs.Ytppbnanhippdaaa
set_option linter.unusedVariables false
set_option linter.unusedSimpArgs false
open Go.RowKit

theorem eltU32 : Elt Try.prog 23 22 (.int .u32 0) 1 4 := ⟨Try.underlying23, by kernel_rfl, rfl, by decide, by decide⟩
def c32 (l : List Int) : List Value := l.map (Value.int .u32)
theorem c32_len (l : List Int) : (c32 l).length = l.length := by simp [c32]
theorem c32_one (l : List Int) : ∀ u ∈ c32 l, u.oneCell' = true := by
  intro u hu
  simp only [c32, List.mem_map] at hu
  obtain ⟨x, _, rfl⟩ := hu
  rfl
theorem c32_app (a b : List Int) : c32 (a ++ b) = c32 a ++ c32 b := by simp [c32]
theorem c32_drop (a : List Int) (k : Nat) : (c32 a).drop k = c32 (a.drop k) := by simp [c32]
theorem c32_get (l : List Int) (i : Nat) (h : i < l.length) : (c32 l)[i]? = some (.int .u32 (l.getD i 0)) := by simp [c32, h, List.getD]

theorem Row.drop {w : World} {b off n c : Nat} {xs : List Value} (h : Row w (some ⟨b, off, none⟩) n c 1 xs) (k : Nat) (hk : k ≤ n) : Row w (some ⟨b, off + k, none⟩) (n - k) (c - k) 1 (xs.drop k) := by
  have hl := h.len
  have hle := h.le
  refine ⟨by rw [List.length_drop]; omega, by omega, fun h => (by cases h), ?_, fun u hu => h.one u (List.mem_of_mem_drop hu)⟩
  intro ad ha i u hu
  simp only [Option.some.injEq] at ha
  subst ha
  rw [List.getElem?_drop] at hu
  have := (h.cells _ rfl (k + i) u hu).2
  exact ⟨rfl, by rwa [← Nat.add_assoc] at this⟩
theorem Row.cell32 {w : World} {b off n c : Nat} {l : List Int} (h : Row w (some ⟨b, off, none⟩) n c 1 (c32 l)) (i : Nat) (hi : i < n) : w.cell? ⟨b, off + i, none⟩ = some (.int .u32 (l.getD i 0)) :=
  (h.cells _ rfl i _ (c32_get l i (by have := h.len; rw [c32_len] at this; omega))).2
theorem Row.len32 {w : World} {ao : Option Addr} {n c : Nat} {l : List Int} (h : Row w ao n c 1 (c32 l)) : n = l.length := by have := h.len; rw [c32_len] at this; omega

/-- What slices.Clone gives: nil, or a new row. -/
def Cloned (B : Nat) (w : World) (ao : Option Addr) (n c : Nat) (xs : List Value) : Prop :=
  (ao = none ∧ n = 0 ∧ c = 0 ∧ xs = []) ∨ ∃ g, ao = some ⟨g, 0, none⟩ ∧ w.ownsRow B 22 1 (.slice (some ⟨g, 0, none⟩) n c) n xs

set_option maxHeartbeats 400000 in
theorem clone_any (ao : Option Addr) (n c : Nat) (xs : List Value) (w : World) (hr : Row w ao n c 1 xs) (hn : n ≤ 10000000000) :
    Calls Try.prog 18 #[.slice ao n c] w fun e w' => ∃ ao' c', e = .returned (.slice ao' n c') ∧ Cloned w.heap.size w' ao' n c' xs ∧ Below w.heap.size w w' := by
  cases ao with
  | none =>
    have hc := hr.nil rfl
    have hn0 : n = 0 := by have := hr.le; omega
    subst hc
    subst hn0
    have hx : xs = [] := List.eq_nil_of_length_eq_zero (by simpa using hr.len)
    subst hx
    clear hr
    have heq : (binOp .eql 23 (.slice none 0 0) (.slice none 0 0)).run Try.prog w = .ok (.bool true) w := Lib.run_eql_slice_nil w _ _ none 0 0 0 0 Try.underlying23
    go_enter Try.func18, Try.ntmps18
    go_wp2
    go_ret
    exact ⟨none, 0, rfl, .inl ⟨rfl, rfl, rfl, rfl⟩, Below.refl _ _⟩
  | some ad =>
    have hO : (w.alloc (.cells #[] 22)).ownsRow w.heap.size 22 1 (.slice (some ⟨w.heap.size, 0, none⟩) 0 0) 0 [] :=
      World.ownsRow_lit w #[] 0 (Nat.le_refl _) (by unfold maxLen; omega) (by simp)
    have HO := Lib.hid hO
    have HR := Lib.hid hr
    clear hr hO
    have heq : (binOp .eql 23 (.slice (some ad) n c) (.slice none 0 0)).run Try.prog w = .ok (.bool false) w := Lib.run_eql_slice_nil w _ _ (some ad) n c 0 0 Try.underlying23
    go_enter Try.func18, Try.ntmps18
    go_wp2_with (at_builtin; refine wpList_appO eltU32 _ rfl _ _ rfl w.heap.size w.heap.size 0 0 [] rfl HO.out _ n c _ rfl (HR.out.alloc _) (by omega) (by simp) ?_; intro g' cap w' hown hgrow hg hB hlt)
    have HW := Lib.hid hown
    clear hown
    go_ret
    refine ⟨_, _, rfl, .inr ⟨g', ?_⟩, ?_⟩
    · exact ⟨rfl, by simpa using HW.out⟩
    · exact below_grown (below_alloc w _) hgrow (fun k hk => by cases hk; exact Nat.le_refl _)

set_option maxHeartbeats 400000 in
theorem less_any (blk off c Bs size : Nat) (W : World) (G : Nat → Int) (hs : W.cell? ⟨Bs, 0, none⟩ = some (.slice (some ⟨blk, off, none⟩) size c))
    (hc : ∀ t, t < size → W.cell? ⟨blk, off + t, none⟩ = some (.int .u32 (G t))) (i j : Nat) (hi : i < size) (hj : j < size) :
    Calls Try.prog 20 #[.int .i64 i, .int .i64 j, .pointer (some ⟨Bs, 0, none⟩)] W fun e w' => e = .returned (.bool (decide (G i < G j))) ∧ ∃ q, w' = W.drewN q := by
  have ci := hc i hi
  have cj := hc j hj
  go_enter Try.func20, Try.ntmps20
  go_wp2
  go_quiet (fail)
  go_wp2
  go_ret
  exact ⟨rfl, nq, rfl⟩

def bndN (n : Int) : Int := min (max n 0) 1099511627776
theorem bndN_range (n : Int) : 0 ≤ bndN n ∧ bndN n ≤ 1099511627776 := by unfold bndN; omega
set_option maxHeartbeats 400000 in
theorem bounded_any (n : Int) (w : World) : Calls Try.prog 21 #[.int .i64 n] w fun e w' => e = .returned (.int .i64 (bndN n)) ∧ w' = w := by
  by_cases h0 : n < 0
  · have hb := Lib.hid (show bndN n = 0 by unfold bndN; omega)
    go_enter Try.func21, Try.ntmps21
    go_wp2
    all_goals first | omega | (go_ret; rw [hb.out]; exact ⟨rfl, rfl⟩)
  by_cases h1 : 1099511627776 < n
  · have hb := Lib.hid (show bndN n = 1099511627776 by unfold bndN; omega)
    go_enter Try.func21, Try.ntmps21
    go_wp2
    all_goals first | omega | (go_ret; rw [hb.out]; exact ⟨rfl, rfl⟩)
  · have hb := Lib.hid (show bndN n = n by unfold bndN; omega)
    go_enter Try.func21, Try.ntmps21
    go_wp2
    all_goals first | omega | (go_ret; rw [hb.out]; exact ⟨rfl, rfl⟩)
end Go.Proofs.Ytppbnanhippdaaa
