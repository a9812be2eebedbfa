/- Open2: slices of elements of several cells: 'SRow' (in the world w the slice's element i is the cells X i), and how a row's argument is opened so. -/
import Derived.Test.YtfbhpkhpkaeagaaDoorOpen
import Derived.Deep.Slices
namespace Go.Proofs.YtfbhpkhpkaeagaaDoor
set_option linter.unusedVariables false
set_option linter.unusedSimpArgs false
open Go.RowKit Go.ChangeShapes Go.WideShapes Go.Deep

/-- In w a slice of n elements of sz cells each: element i is the cells X i. -/
structure SRow (w : World) (ao : Option Addr) (n c sz : Nat) (X : Nat → List Value) : Prop where
  len : ∀ i, i < n → (X i).length = sz
  le : n ≤ c
  nil : ao = none → c = 0
  cells : ∀ ad, ao = some ad → ∀ i, i < n → ∀ j u, (X i)[j]? = some u → ad.spot = none ∧ w.cell? ⟨ad.block, ad.off + (i * sz + j), none⟩ = some u

theorem SRow.lt {w : World} {ao : Option Addr} {n c sz : Nat} {X : Nat → List Value} (h : SRow w ao n c sz X) (hs : 0 < sz) (hn : 0 < n) : ∀ ad, ao = some ad → ad.block < w.heap.size := by
  intro ad ha
  have hl := h.len 0 hn
  have := (h.cells ad ha 0 hn 0 ((X 0)[0]'(by omega)) (List.getElem?_eq_getElem _)).2
  exact World.block_lt_of_cell? w ⟨ad.block, ad.off + (0 * sz + 0), none⟩ this
theorem SRow.later {w w' : World} {ao : Option Addr} {n c sz : Nat} {X : Nat → List Value} (h : SRow w ao n c sz X) (hs : 0 < sz) (hb : Below w.heap.size w w') : SRow w' ao n c sz X :=
  ⟨h.len, h.le, h.nil, fun ad ha i hi j u hu => by
    have hl := h.lt hs (by omega) ad ha
    have hc := h.cells ad ha i hi j u hu
    exact ⟨hc.1, (hb.cell (p := ⟨ad.block, ad.off + (i * sz + j), none⟩) hl).trans hc.2⟩⟩
theorem SRow.addr {w : World} {ao : Option Addr} {n c sz : Nat} {X : Nat → List Value} (h : SRow w ao n c sz X) (hs : 0 < sz) (hn : 0 < n) : ∃ b off, ao = some ⟨b, off, none⟩ := by
  cases ao with
  | none => have := h.nil rfl; have := h.le; omega
  | some ad =>
    have hl := h.len 0 hn
    obtain ⟨b, off, sp⟩ := ad
    have := (h.cells _ rfl 0 hn 0 ((X 0)[0]'(by omega)) (List.getElem?_eq_getElem _)).1
    simp only at this
    subst this
    exact ⟨b, off, rfl⟩

section
variable {P : Program} {w : World} {t e : TypeId} {v : Value} {cs : List Value}
theorem RdC.slice {sz : Nat} (hu : P.underlying t = some (.slice e)) (hce : P.cellsOf e = sz) (hpos : 0 < sz) (h : RdC P w t cs) :
    ∃ (ao : Option Addr) (len cap : Nat) (X : Nat → List Value), cs = [.slice ao len cap] ∧ (∀ i, i < len → RdC P w e (X i)) ∧ SRow w ao len cap sz X ∧ len ≤ maxLen := by
  obtain ⟨H, enc, fuel, x, hf⟩ := h
  rcases open_slice hu hf with ⟨hcs, _⟩ | ⟨ad, len, cap, m, n, D, Pl, hcs, _, hl, hm, hm2, _, hel⟩
  · exact ⟨none, 0, 0, fun _ => [], hcs, fun _ h => absurd h (Nat.not_lt_zero _), ⟨fun _ h => absurd h (Nat.not_lt_zero _), Nat.le_refl _, fun _ => rfl, fun _ h => (by cases h)⟩, Nat.zero_le _⟩
  · have hlm : len ≤ m := by rw [hm2]; simpa using hl
    rw [hce] at hel
    have hX : ∃ X : Nat → List Value, ∀ i, i < len → w.cells? 0 (ad.add (i * sz)) sz = some (X i) ∧ RdC P w e (X i) := by
      refine ⟨fun i => (w.cells? 0 (ad.add (i * sz)) sz).getD [], fun i hi => ?_⟩
      obtain ⟨cs', h1, h2⟩ := hel i (by omega)
      show w.cells? 0 (ad.add (i * sz)) sz = some ((w.cells? 0 (ad.add (i * sz)) sz).getD []) ∧ RdC P w e ((w.cells? 0 (ad.add (i * sz)) sz).getD [])
      rw [h1]
      exact ⟨rfl, H, enc, n, _, h2⟩
    obtain ⟨X, hX⟩ := hX
    refine ⟨some ad, len, cap, X, hcs, fun i hi => (hX i hi).2, ⟨fun i hi => ?_, hl, fun h => (by cases h), ?_⟩, by omega⟩
    · exact (World.cells?_some (hX i hi).1).2.1
    · intro a ha i hi j u hu'
      simp only [Option.some.injEq] at ha
      subst ha
      obtain ⟨_, hlen, hc⟩ := World.cells?_some (hX i hi).1
      have hj : j < sz := by rw [← hlen]; exact (List.getElem?_eq_some_iff.1 hu').1
      have hn0 : 0 < len := by omega
      obtain ⟨_, hlen0, hc0⟩ := World.cells?_some (hX 0 hn0).1
      have h0 := hc0 0 hpos
      rw [List.getElem?_eq_getElem (by omega), Nat.zero_mul] at h0
      have hs : ad.spot = none := by simpa [Addr.add] using World.cell?_spot h0
      have h1 := hc j hj
      rw [addr_add hs, addr_add rfl, hu', Nat.add_assoc] at h1
      exact ⟨hs, h1⟩
theorem Rd.slice {sz : Nat} (hu : P.underlying t = some (.slice e)) (hce : P.cellsOf e = sz) (hpos : 0 < sz) (h : Rd P w t v) :
    ∃ (ao : Option Addr) (len cap : Nat) (X : Nat → List Value), v = .slice ao len cap ∧ (∀ i, i < len → RdC P w e (X i)) ∧ SRow w ao len cap sz X ∧ len ≤ maxLen := by
  have hc := h.cells
  obtain ⟨H, enc, d, ps, r, b, hr, ho⟩ := h
  obtain ⟨a, len, cap, rfl⟩ := okWide_slice hu ho
  obtain ⟨ao, l, c, X, h1, h2⟩ := hc.slice hu hce hpos
  simp [Value.cells] at h1
  obtain ⟨rfl, rfl, rfl⟩ := h1
  exact ⟨_, _, _, X, rfl, h2⟩
end
end Go.Proofs.YtfbhpkhpkaeagaaDoor
