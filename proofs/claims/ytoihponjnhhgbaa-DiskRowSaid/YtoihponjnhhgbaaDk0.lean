/- Disk, the plain side: a disk as bytes and pending writes. -/
import Derived.Test.YtoihponjnhhgbaaDk1
namespace Go.Proofs.Ytoihponjnhhgbaa
set_option linter.unusedVariables false
set_option linter.unusedSimpArgs false
open Go.RowKit

/-- a pending write, as it lies: its place, its bytes' slice, its bytes -/
structure Rep where
  at_ : Int
  ao : Option Addr
  n : Nat
  c : Nat
  data : List Int

def Rep.plain (r : Rep) : Int × List Int := (r.at_, r.data)
def wc (R : List Rep) : List Value := R.flatMap fun r => [.int .i64 r.at_, .slice r.ao r.n r.c]
theorem wc_len (R : List Rep) : (wc R).length = R.length * 2 := by
  induction R with
  | nil => rfl
  | cons r R ih => simp only [wc, List.flatMap_cons, List.length_append, List.length_cons] at *; simp at *; omega
theorem wc_app (R S : List Rep) : wc (R ++ S) = wc R ++ wc S := by simp [wc]
theorem wc_get (R : List Rep) (j : Nat) (r : Rep) (h : R[j]? = some r) : (wc R)[j * 2]? = some (.int .i64 r.at_) ∧ (wc R)[j * 2 + 1]? = some (.slice r.ao r.n r.c) := by
  induction R generalizing j with
  | nil => simp at h
  | cons x R ih =>
    cases j with
    | zero => simp at h; subst h; simp [wc]
    | succ j =>
      have := ih j (by simpa using h)
      simp only [wc, List.flatMap_cons] at *
      rw [show (j + 1) * 2 = j * 2 + 2 by omega, show j * 2 + 2 + 1 = (j * 2 + 1) + 2 by omega]
      exact this
theorem wc_one (R : List Rep) : ∀ u ∈ wc R, u.oneCell' = true := by
  intro u hu
  simp only [wc, List.mem_flatMap] at hu
  obtain ⟨r, _, hr⟩ := hu
  simp at hr
  rcases hr with rfl | rfl <;> rfl
theorem Row.wcell {w : World} {b off m pc : Nat} {R : List Rep} (h : Row w (some ⟨b, off, none⟩) m pc 2 (wc R)) (j : Nat) (r : Rep) (hr : R[j]? = some r) :
    w.cell? ⟨b, off + j * 2, none⟩ = some (.int .i64 r.at_) ∧ w.cell? ⟨b, off + j * 2 + 1, none⟩ = some (.slice r.ao r.n r.c) := by
  obtain ⟨h1, h2⟩ := wc_get R j r hr
  refine ⟨(h.cells _ rfl _ _ h1).2, ?_⟩
  have := (h.cells _ rfl _ _ h2).2
  rwa [← Nat.add_assoc] at this
theorem Row.lenw {w : World} {po : Option Addr} {m pc : Nat} {R : List Rep} (h : Row w po m pc 2 (wc R)) : m = R.length := by have := h.len; rw [wc_len] at this; omega

/-- In w the disk's two slices read so. -/
structure DP (w : World) (ao : Option Addr) (n c : Nat) (base : List Int) (po : Option Addr) (m pc : Nat) (R : List Rep) : Prop where
  row : Row w ao n c 1 (b8 base)
  pend : Row w po m pc 2 (wc R)
  data : ∀ r ∈ R, Row w r.ao r.n r.c 1 (b8 r.data)
theorem DP.later {w w' : World} {ao : Option Addr} {n c : Nat} {base : List Int} {po : Option Addr} {m pc : Nat} {R : List Rep} (h : DP w ao n c base po m pc R) (hb : Below w.heap.size w w') : DP w' ao n c base po m pc R :=
  ⟨h.row.later hb, h.pend.later hb, fun r hr => (h.data r hr).later hb⟩

def okW (k : Int) (p : Int × List Int) : Bool := decide (0 ≤ p.1) && decide (p.1 < k) && decide (p.2.length = 32)
def saneD (base : List Int) (pend : List (Int × List Int)) : Bool :=
  decide (base.length % 32 = 0) && decide (base.length / 32 ≤ 4096) && decide (pend.length ≤ 100000) && pend.all (okW ((base.length : Int) / 32))
end Go.Proofs.Ytoihponjnhhgbaa
