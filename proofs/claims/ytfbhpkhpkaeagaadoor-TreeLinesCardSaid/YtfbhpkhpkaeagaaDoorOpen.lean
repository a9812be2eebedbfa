/- Open: what the row tells of an argument ('Rd': it reads, as data of its type, in the world of the call), opened type by type. -/
import Derived.Test.YtfbhpkhpkaeagaaDoorBase
import Derived.ProofKit
import Derived.OpenShut
import Derived.ShutString
import Derived.ChangeOld
namespace Go.Proofs.YtfbhpkhpkaeagaaDoor
set_option linter.unusedVariables false
set_option linter.unusedSimpArgs false
open Go.RowKit Go.ChangeShapes Go.WideShapes

/-- The value v reads as data of type t in the world w. -/
def Rd (P : Program) (w : World) (t : TypeId) (v : Value) : Prop :=
  ∃ (H : Type) (enc : TypeId × Value → H) (d : DataW H) (ps : List MemPlace) (r : Reach) (b : Nat), DataW.Trod enc P w 0 (fun _ => true) true t v d ps ∧ Value.okWide P w r b t v

/-- The cells cs read as data of type t. -/
def RdC (P : Program) (w : World) (t : TypeId) (cs : List Value) : Prop :=
  ∃ (H : Type) (enc : TypeId × Value → H) (fuel : Nat) (x : DataW H × List MemPlace), DataW.trod enc P w 0 (fun _ => true) true fuel t cs = some x

section
variable {P : Program} {w : World} {t e : TypeId} {v : Value} {cs : List Value}
theorem Rd.cells (h : Rd P w t v) : RdC P w t v.cells.toList := by
  obtain ⟨H, enc, d, ps, r, b, ⟨fuel, hf⟩, _⟩ := h
  exact ⟨H, enc, fuel, _, hf⟩
theorem Rd.int {k : IntKind} (hu : P.underlying t = some (.int k)) (h : Rd P w t v) : ∃ n, v = .int k n ∧ (Lit.int k n).wf = true := by
  obtain ⟨H, enc, d, ps, r, b, hr, ho⟩ := h
  obtain ⟨n, rfl, _, _, hw⟩ := open_int hu ho hr
  exact ⟨n, rfl, hw⟩
theorem Rd.bool (hu : P.underlying t = some .bool) (h : Rd P w t v) : ∃ b : Bool, v = .bool b := by
  obtain ⟨H, enc, d, ps, r, b, hr, ho⟩ := h
  obtain ⟨n, rfl, _⟩ := open_bool hu ho hr
  exact ⟨n, rfl⟩
theorem Rd.string (hu : P.underlying t = some .string) (h : Rd P w t v) : ∃ s : ByteArray, v = .string s ∧ s.size ≤ maxLen := by
  obtain ⟨H, enc, d, ps, r, b, hr, ho⟩ := h
  obtain ⟨s, rfl, _, _, hw⟩ := ChangeMaps.open_string hu ho hr
  exact ⟨s, rfl, hw⟩
theorem RdC.int {k : IntKind} (hu : P.underlying t = some (.int k)) (h : RdC P w t cs) : ∃ n, cs = [.int k n] ∧ (Lit.int k n).wf = true := by
  obtain ⟨H, enc, fuel, x, hf⟩ := h
  obtain ⟨n, rfl, _, hw⟩ := DataW.trod_int hu hf
  exact ⟨n, rfl, hw⟩
theorem RdC.array {n : Nat} (hu : P.underlying t = some (.array n e)) (h : RdC P w t cs) : cs.length = P.cellsOf t ∧ ∀ i, i < n → RdC P w e ((cs.drop (i * P.cellsOf e)).take (P.cellsOf e)) := by
  obtain ⟨H, enc, fuel, x, hf⟩ := h
  obtain ⟨xs, m, _, _, hl, hx, hi⟩ := DataW.trod_array hu hf
  refine ⟨hl, fun i hin => ⟨H, enc, m, xs[i]'(by omega), ?_⟩⟩
  rw [hi i hin]
  simp [hx, hin]
theorem RdC.struct {fs : Array Field} (hu : P.underlying t = some (.struct fs)) (h : RdC P w t cs) : cs.length = P.cellsOf t ∧ ∀ (i : Nat) (f : Field), fs[i]? = some f → RdC P w f.type ((cs.drop f.offset).take (P.cellsOf f.type)) := by
  obtain ⟨H, enc, fuel, x, hf⟩ := h
  obtain ⟨xs, m, _, _, hl, hx, hi⟩ := DataW.trod_struct hu hf
  refine ⟨hl, fun i f hif => ?_⟩
  have hlt : i < fs.size := (Array.getElem?_eq_some_iff.1 hif).1
  refine ⟨H, enc, m, xs[i]'(by omega), ?_⟩
  rw [hi i f hif]
  simp [hx, hlt]
/-- An array, or a struct, by value. -/
theorem Rd.agg (hu : (∃ fs, P.underlying t = some (.struct fs)) ∨ (∃ n e, P.underlying t = some (.array n e))) (h : Rd P w t v) : ∃ cs, v = .agg cs ∧ cs.size = P.cellsOf t ∧ RdC P w t cs.toList := by
  have hc := h.cells
  obtain ⟨H, enc, d, ps, r, b, hr, ho⟩ := h
  have : ∃ cs, v = .agg cs ∧ cs.size = P.cellsOf t := by
    rcases hu with ⟨fs, hu⟩ | ⟨n, e, hu⟩
    · simp only [Value.okWide, hu] at ho
      obtain ⟨cs, h1, h2, _⟩ := ho
      exact ⟨cs, h1, h2⟩
    · simp only [Value.okWide, hu] at ho
      obtain ⟨cs, h1, h2, _⟩ := ho
      exact ⟨cs, h1, h2⟩
  obtain ⟨cs, rfl, hs⟩ := this
  exact ⟨cs, rfl, hs, hc⟩
/-- An array of integers, by value. -/
theorem Rd.arrInts {n : Nat} {k : IntKind} (hu : P.underlying t = some (.array n e)) (he : P.underlying e = some (.int k)) (hce : P.cellsOf e = 1) (hct : P.cellsOf t = n) (h : Rd P w t v) :
    ∃ zs : List Int, v = .agg (zs.map (Value.int k)).toArray ∧ zs.length = n ∧ ∀ z ∈ zs, (Lit.int k z).wf = true := by
  obtain ⟨cs, rfl, hs, hc⟩ := h.agg (.inr ⟨n, e, hu⟩)
  rw [hct] at hs
  have key : ∀ m, m ≤ n → ∃ zs : List Int, cs.toList.take m = zs.map (Value.int k) ∧ zs.length = m ∧ ∀ z ∈ zs, (Lit.int k z).wf = true := by
    intro m
    induction m with
    | zero => intro _; exact ⟨[], by simp, rfl, by simp⟩
    | succ m ih =>
      intro hm
      obtain ⟨zs, h1, h2, h3⟩ := ih (by omega)
      obtain ⟨z, hz, hw⟩ := RdC.int he ((RdC.array hu hc).2 m (by omega))
      rw [hce, Nat.mul_one] at hz
      have hlt : m < cs.toList.length := by simp; omega
      have hget : cs.toList[m] = Value.int k z := by
        rw [List.drop_eq_getElem_cons hlt, List.take_succ_cons, List.take_zero] at hz
        exact (List.cons.inj hz).1
      refine ⟨zs ++ [z], ?_, by simp [h2], ?_⟩
      · rw [List.take_succ_eq_append_getElem hlt, h1, hget]; simp
      · intro y hy
        rcases List.mem_append.1 hy with hy | hy
        · exact h3 y hy
        · simp at hy; subst hy; exact hw
  obtain ⟨zs, h1, h2, h3⟩ := key n (Nat.le_refl _)
  refine ⟨zs, ?_, h2, h3⟩
  rw [← h1, List.take_of_length_le (by simp; omega)]
/-- A slice of integers. -/
theorem RdC.ints {k : IntKind} (hu : P.underlying t = some (.slice e)) (he : P.underlying e = some (.int k)) (hce : P.cellsOf e = 1) (h : RdC P w t cs) :
    ∃ (ao : Option Addr) (len cap : Nat) (f : Nat → Int), cs = [.slice ao len cap] ∧ (∀ i, (Lit.int k (f i)).wf = true) ∧ Row w ao len cap 1 ((List.range len).map fun i => .int k (f i)) ∧ len ≤ maxLen := by
  obtain ⟨H, enc, fuel, x, hf⟩ := h
  have hk0 : (Lit.int k 0).wf = true := by cases k <;> decide
  rcases open_ints hu he hce hf with ⟨hcs, _⟩ | ⟨ad, len, cap, zs, hcs, _, hl, hm, hz, _, hcell, hwz⟩
  · exact ⟨none, 0, 0, fun _ => 0, hcs, fun _ => hk0, row_nil w 1, Nat.zero_le _⟩
  · have hz' : zs.length = cap := by simpa using hz
    refine ⟨some ad, len, cap, fun i => zs.getD i 0, hcs, fun i => ?_, ⟨by simp, hl, fun h => (by cases h), ?_, ?_⟩, by omega⟩
    · rcases Nat.lt_or_ge i zs.length with hi | hi
      · exact hwz _ (by simp [List.getD, List.getElem?_eq_getElem hi])
      · simpa [List.getD, List.getElem?_eq_none hi] using hk0
    · intro a ha i u hu'
      simp only [Option.some.injEq] at ha
      subst ha
      have hi : i < len := by
        obtain ⟨h, _⟩ := List.getElem?_eq_some_iff.1 hu'
        simpa using h
      have hx := hcell 0 (by omega)
      have hs : ad.spot = none := by simpa [Addr.add] using World.cell?_spot hx
      simp [hi] at hu'
      have := hcell i (by omega)
      rw [addr_add hs] at this
      subst hu'
      exact ⟨hs, by simpa [List.getD] using this⟩
    · intro u hu'
      simp only [List.mem_map] at hu'
      obtain ⟨i, _, rfl⟩ := hu'
      rfl
theorem Rd.ints {k : IntKind} (hu : P.underlying t = some (.slice e)) (he : P.underlying e = some (.int k)) (hce : P.cellsOf e = 1) (h : Rd P w t v) :
    ∃ (ao : Option Addr) (len cap : Nat) (f : Nat → Int), v = .slice ao len cap ∧ (∀ i, (Lit.int k (f i)).wf = true) ∧ Row w ao len cap 1 ((List.range len).map fun i => .int k (f i)) ∧ len ≤ maxLen := by
  have hc := h.cells
  obtain ⟨H, enc, d, ps, r, b, hr, ho⟩ := h
  obtain ⟨a, len, cap, rfl⟩ := okWide_slice hu ho
  obtain ⟨ao, l, c, f, h1, h2⟩ := hc.ints hu he hce
  simp [Value.cells] at h1
  obtain ⟨rfl, rfl, rfl⟩ := h1
  exact ⟨_, _, _, f, rfl, h2⟩
theorem Rd.bytes (hu : P.underlying t = some (.slice e)) (he : P.underlying e = some (.int .u8)) (hce : P.cellsOf e = 1) (h : Rd P w t v) :
    ∃ (ao : Option Addr) (len cap : Nat) (f : Nat → Int), v = .slice ao len cap ∧ (∀ i, 0 ≤ f i ∧ f i < 256) ∧ Row w ao len cap 1 (bcells f len) ∧ len ≤ maxLen := by
  obtain ⟨ao, len, cap, f, h1, h2, h3, h4⟩ := h.ints hu he hce
  exact ⟨ao, len, cap, f, h1, fun i => u8_of_wf (h2 i), h3, h4⟩
end
end Go.Proofs.YtfbhpkhpkaeagaaDoor
