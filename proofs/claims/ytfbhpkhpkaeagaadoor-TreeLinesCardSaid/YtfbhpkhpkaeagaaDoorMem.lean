/- Blocks that a walk has laid, and what stands in them, carried along behind calls. -/
import Derived.Test.YtfbhpkhpkaeagaaDoorBuf
import Derived.Test.YtfbhpkhpkaeagaaDoorFork
namespace Go.Proofs.YtfbhpkhpkaeagaaDoor
set_option linter.unusedVariables false
set_option linter.unusedSimpArgs false
open Go.RowKit

theorem size_drew (w : World) : w.drew.heap.size = w.heap.size := rfl
def cellsAt (w : World) (b : Nat) : Nat → List Value → Prop
  | _, [] => True
  | i, u :: r => w.cell? ⟨b, i, none⟩ = some u ∧ cellsAt w b (i + 1) r
def Mem (w : World) : List (Nat × List Value) → Prop
  | [] => True
  | (b, vs) :: l => (b < w.heap.size ∧ (∀ i, w.frozen? ⟨b, i, none⟩ = false) ∧ cellsAt w b 0 vs) ∧ Mem w l

theorem cellsAt.map {w w' : World} {b : Nat} (h : ∀ i u, w.cell? ⟨b, i, none⟩ = some u → w'.cell? ⟨b, i, none⟩ = some u) : ∀ (vs : List Value) (i : Nat), cellsAt w b i vs → cellsAt w' b i vs
  | [], _, _ => trivial
  | _ :: r, i, hc => ⟨h i _ hc.1, cellsAt.map h r (i + 1) hc.2⟩
theorem cellsAt.map' {w w' : World} {b : Nat} : ∀ {vs : List Value} {i : Nat}, cellsAt w b i vs → (∀ j, i ≤ j → ∀ u, w.cell? ⟨b, j, none⟩ = some u → w'.cell? ⟨b, j, none⟩ = some u) → cellsAt w' b i vs
  | [], _, _, _ => trivial
  | _ :: r, i, hc, h => ⟨h i (Nat.le_refl _) _ hc.1, hc.2.map' fun j hj => h j (by omega)⟩
theorem Mem.later {w w' : World} (hb : Below w.heap.size w w') : ∀ {l : List (Nat × List Value)}, Mem w l → Mem w' l
  | [], _ => trivial
  | (b, vs) :: l, h => ⟨⟨Nat.lt_of_lt_of_le h.1.1 hb.size, fun i => (hb.frozen (p := ⟨b, i, none⟩) h.1.1).trans (h.1.2.1 i), cellsAt.map (fun i u hu => (hb.cell (p := ⟨b, i, none⟩) h.1.1).trans hu) vs 0 h.1.2.2⟩, Mem.later hb h.2⟩
theorem Mem.drew {w : World} {l : List (Nat × List Value)} (h : Mem w l) : Mem w.drew l := h.later (Below.refl _ _).drew
theorem Mem.drewN {w : World} {l : List (Nat × List Value)} (h : Mem w l) (n : Nat) : Mem (w.drewN n) l := h.later (bl_drewN (Below.refl _ _) n)
theorem Mem.skip {w : World} {l : List (Nat × List Value)} (h : Mem w l) (o : Obj) : Mem (w.alloc o) l := h.later (below_alloc _ _)
theorem cellsAt_new (w : World) (cs : List Value) (t : TypeId) : ∀ (vs : List Value) (i : Nat), cs.drop i = vs → cellsAt (w.alloc (.cells cs.toArray t)) w.heap.size i vs
  | [], _, _ => trivial
  | u :: r, i, h => by
    have hl : i < cs.length := by
      rcases Nat.lt_or_ge i cs.length with h1 | h1
      · exact h1
      · rw [List.drop_of_length_le h1] at h; cases h
    rw [List.drop_eq_getElem_cons hl] at h
    simp only [List.cons.injEq] at h
    refine ⟨?_, cellsAt_new w cs t r (i + 1) h.2⟩
    rw [World.cell?_alloc_new]
    simp [hl, h.1]
theorem Mem.al {w : World} {l : List (Nat × List Value)} (h : Mem w l) (vs : List Value) (t : TypeId) : Mem (w.alloc (.cells vs.toArray t)) ((w.heap.size, vs) :: l) :=
  ⟨⟨by simp, fun i => World.frozen?_alloc_new w _ t i, cellsAt_new w vs t vs 0 rfl⟩, h.skip _⟩
theorem Mem.lt {w : World} : ∀ {l : List (Nat × List Value)}, Mem w l → ∀ p ∈ l, p.1 < w.heap.size
  | [], _, _, hp => by cases hp
  | _ :: _, h, p, hp => by
    rcases List.mem_cons.1 hp with rfl | hp
    · exact h.1.1
    · exact Mem.lt h.2 p hp
theorem cellsAt_far {w : World} {b b' : Nat} {k : Nat} {v : Value} (hne : b' ≠ b) {vs : List Value} {i : Nat} (h : cellsAt w b' i vs) : cellsAt (w.setCell ⟨b, k, none⟩ v) b' i vs :=
  h.map fun j u hu => by rw [World.cell?_setCell_far _ _ _ _ (by exact Ne.symm hne)]; exact hu
theorem Mem.far {w : World} {b k : Nat} {v : Value} : ∀ {l : List (Nat × List Value)}, (∀ p ∈ l, p.1 ≠ b) → Mem w l → Mem (w.setCell ⟨b, k, none⟩ v) l
  | [], _, _ => trivial
  | (b', vs) :: l, hd, h => ⟨⟨by simpa using h.1.1, fun i => by rw [World.frozen?_setCell]; exact h.1.2.1 i, cellsAt_far (hd (b', vs) (by simp)) h.1.2.2⟩, Mem.far (fun p hp => hd p (by simp [hp])) h.2⟩
theorem cellsAt_set {w : World} {b k : Nat} {v : Value} : ∀ {vs : List Value} {i : Nat}, i ≤ k → cellsAt w b i vs → cellsAt (w.setCell ⟨b, k, none⟩ v) b i (vs.set (k - i) v)
  | [], _, _, _ => trivial
  | u :: r, i, hi, h => by
    by_cases hk : k = i
    · subst hk
      rw [Nat.sub_self, List.set_cons_zero]
      refine ⟨World.cell?_setCell_same _ _ _ h.1, h.2.map' fun j hj u hu => ?_⟩
      rw [World.cell?_setCell_other _ _ _ _ (by intro e; simp at e <;> omega)]
      exact hu
    · obtain ⟨m, rfl⟩ : ∃ m, k = i + 1 + m := ⟨k - i - 1, by omega⟩
      rw [show i + 1 + m - i = m + 1 by omega, List.set_cons_succ]
      refine ⟨?_, ?_⟩
      · rw [World.cell?_setCell_other _ _ _ _ (by intro e; simp at e <;> omega)]
        exact h.1
      · have := cellsAt_set (k := i + 1 + m) (v := v) (by omega) h.2
        rwa [show i + 1 + m - (i + 1) = m by omega] at this
theorem Mem.set {w : World} {b k : Nat} {v : Value} {vs : List Value} {l : List (Nat × List Value)} (hd : ∀ p ∈ l, p.1 < b) (h : Mem w ((b, vs) :: l)) : Mem (w.setCell ⟨b, k, none⟩ v) ((b, vs.set k v) :: l) :=
  ⟨⟨by simpa using h.1.1, fun i => by rw [World.frozen?_setCell]; exact h.1.2.1 i, cellsAt_set (Nat.zero_le _) h.1.2.2⟩, Mem.far (fun p hp => Nat.ne_of_lt (hd p hp)) h.2⟩
theorem mem_name {w : World} {l : List (Nat × List Value)} (h : Mem w l) : ∃ L, Hid (L = l) ∧ Mem w L := ⟨l, rfl, h⟩
theorem mem_nil (w : World) : Mem w [] := trivial
end Go.Proofs.YtfbhpkhpkaeagaaDoor
