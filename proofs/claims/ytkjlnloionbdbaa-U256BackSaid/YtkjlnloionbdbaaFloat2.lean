/- Float, part two: boxes that float. -/
import Derived.Test.YtkjlnloionbdbaaFloat
namespace Go.Proofs.Ytkjlnloionbdbaa
set_option linter.unusedVariables false
set_option linter.unusedSimpArgs false
open Go.RowKit

def dstOf (ops : Array Oper) (k : Nat) : Option Tmp := (ops[k]?).bind (·.dst)
def ptrOf (g : Nat) : Value := .pointer (some ⟨g, 0, none⟩)
/-- the pointers of the boxes that are done -/
def putAll (ops : Array Oper) (G : Nat → Option Nat) : List Nat → Act → Act
  | [], a => a
  | k :: r, a => match G k with
    | some g => (putAll ops G r a).put (dstOf ops k) (ptrOf g)
    | none => putAll ops G r a
def setG (G : Nat → Option Nat) (k g : Nat) : Nat → Option Nat := fun i => if i = k then some g else G i

section
variable {P : Program} {ops : Array Oper} {S : World → Prop} {G : Nat → Option Nat}
theorem putAll_congr {G' : Nat → Option Nat} {a : Act} : ∀ {al : List Nat}, (∀ k ∈ al, G k = G' k) → putAll ops G al a = putAll ops G' al a
  | [], _ => rfl
  | k :: r, h => by
    have h1 := h k (by simp)
    have h2 := putAll_congr (al := r) (a := a) fun k hk => h k (by simp [hk])
    simp only [putAll, h1, h2]
theorem putAll_put {a : Act} {dst : Option Tmp} {v : Value} : ∀ {al : List Nat}, (∀ k ∈ al, ∀ d, dst = some d → dstOf ops k ≠ some d) → putAll ops G al (a.put dst v) = (putAll ops G al a).put dst v
  | [], _ => rfl
  | k :: r, h => by
    have h2 := putAll_put (al := r) (a := a) (dst := dst) (v := v) fun k hk => h k (by simp [hk])
    simp only [putAll, h2]
    cases G k with
    | none => rfl
    | some g => exact Act.put_comm _ _ _ (h k (by simp))
theorem putAll_set {a : Act} {k g : Nat} : ∀ {al : List Nat}, k ∈ al → al.Nodup → G k = none → (∀ k' ∈ al, k' ≠ k → ∀ d, dstOf ops k' = some d → dstOf ops k ≠ some d) → putAll ops (setG G k g) al a = (putAll ops G al a).put (dstOf ops k) (ptrOf g)
  | [], h, _, _, _ => by cases h
  | k0 :: r, hk, hn, hG, hd => by
    rw [List.nodup_cons] at hn
    by_cases h0 : k0 = k
    · subst h0
      have h2 : putAll ops (setG G k0 g) r a = putAll ops G r a := putAll_congr fun i hi => by
        have : i ≠ k0 := fun e => hn.1 (e ▸ hi)
        simp [setG, this]
      simp [putAll, setG, hG] at h2 ⊢
      rw [h2]
    · have hkr : k ∈ r := by
        rcases List.mem_cons.1 hk with h | h
        · exact absurd h.symm h0
        · exact h
      have h2 := putAll_set (a := a) (g := g) hkr hn.2 hG fun k' hk' => hd k' (by simp [hk'])
      have h3 : setG G k g k0 = G k0 := by simp [setG, h0]
      simp only [putAll, h3, h2]
      cases hg : G k0 with
      | none => rfl
      | some g0 => exact (Act.put_comm _ (ptrOf g0) (ptrOf g) (hd k0 (by simp) h0)).symm
theorem YG_putAll {o : Oper} {v : Value} (hs : ∀ cs b, o.op ≠ .select cs b) {a : Act} : ∀ {al : List Nat}, (∀ k ∈ al, ∀ d, dstOf ops k = some d → d ∉ o.looksAt ops) → (YG P ops S o v (putAll ops G al a) ↔ YG P ops S o v a)
  | [], _ => Iff.rfl
  | k :: r, h => by
    have h2 := YG_putAll (al := r) (a := a) (v := v) hs fun k hk => h k (by simp [hk])
    simp only [putAll]
    cases G k with
    | none => exact h2
    | some g => exact (YG.put_iff hs (h k (by simp))).trans h2

theorem YG.wpOp {Q : Exit → Act → World → Prop} {i : Nat} {o : Oper} {v : Value} {a : Act} (hi : ops[i]? = some o) (hy : YG P ops S o v a) {K : Act → World → Prop} {w : World} (hS : S w)
    (h : ∀ w', S w' → Below w.heap.size w w' → K (a.put o.dst v) w') : wpOp P ops Q i K a w := by
  unfold Go.wpOp
  simp only [hi]
  rcases hy with ⟨hw, hv⟩ | ⟨hw, rfl⟩
  · rw [if_pos hw]
    exact .inl ((hv w hS).wp fun w' hw' => h w' hw'.1 hw'.2)
  · rw [if_neg (by rw [hw]; decide)]
    exact h w hS (Below.refl _ _)

/-- the blocks of the boxes that are done -/
structure Boxes (Z : Nat → Obj) (base : Nat) (al : List Nat) (G : Nat → Option Nat) (w : World) : Prop where
  at_ : ∀ k ∈ al, ∀ g, G k = some g → base ≤ g ∧ g < w.heap.size ∧ w.heap[g]? = some (Z k)
  unlike : ∀ k ∈ al, ∀ k' ∈ al, k ≠ k' → ∀ g, G k = some g → G k' ≠ some g
theorem Boxes.later {Z : Nat → Obj} {base : Nat} {al : List Nat} {w w' : World} (h : Boxes Z base al G w) (hb : Below w.heap.size w w') : Boxes Z base al G w' :=
  ⟨fun k hk g hg => by
    obtain ⟨h1, h2, h3⟩ := h.at_ k hk g hg
    exact ⟨h1, Nat.lt_of_lt_of_le h2 hb.size, by rw [hb.block g h2]; exact h3⟩, h.unlike⟩
theorem Boxes.add {Z : Nat → Obj} {base : Nat} {al : List Nat} {w : World} (h : Boxes Z base al G w) (k : Nat) (hb : base ≤ w.heap.size) : Boxes Z base al (setG G k w.heap.size) (w.alloc (Z k)) := by
  have h' := h.later (below_alloc w (Z k))
  refine ⟨fun i hi g hg => ?_, fun i hi i' hi' hne g hg hg' => ?_⟩
  · by_cases hik : i = k
    · subst hik
      simp [setG] at hg
      subst hg
      exact ⟨hb, by simp, heap_alloc_new w _⟩
    · exact h'.at_ i hi g (by simpa [setG, hik] using hg)
  · by_cases hik : i = k <;> by_cases hik' : i' = k
    · exact hne (hik.trans hik'.symm)
    · subst hik
      simp [setG] at hg
      simp [setG, hik'] at hg'
      have := (h.at_ i' hi' g hg').2.1
      omega
    · subst hik'
      simp [setG] at hg'
      simp [setG, hik] at hg
      have := (h.at_ i hi g hg).2.1
      omega
    · simp [setG, hik] at hg
      simp [setG, hik'] at hg'
      exact h.unlike i hi i' hi' hne g hg hg'
end
end Go.Proofs.Ytkjlnloionbdbaa
