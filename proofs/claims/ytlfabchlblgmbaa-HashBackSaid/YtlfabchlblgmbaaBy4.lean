/- Package hash: turned, Number, FromNumber. (hM) -/
import Derived.Test.YtlfabchlblgmbaaBy3
namespace Go.Proofs.Ytlfabchlblgmbaa
set_option linter.unusedVariables false
set_option linter.unusedSimpArgs false
open Go.RowKit

theorem cellsAt_of {w : World} {b : Nat} : ∀ {vs : List Value} {i : Nat}, (∀ j v, vs[j]? = some v → w.cell? ⟨b, i + j, none⟩ = some v) → cellsAt w b i vs
  | [], _, _ => trivial
  | u :: r, i, h => ⟨h 0 u rfl, cellsAt_of fun j v hv => by
    have := h (j + 1) v (by simpa using hv)
    rwa [show i + (j + 1) = i + 1 + j by omega] at this⟩
/-- a box, made and filled -/
theorem store_box {w : World} {L : List (Nat × List Value)} (hm : Mem w L) (z vs : List Value) (T : TypeId) (hz : z.length = vs.length) : Mem ((w.alloc (.cells z.toArray T)).setCells w.heap.size 0 vs) ((w.heap.size, vs) :: L) := by
  have hth : (w.alloc (.cells z.toArray T)).there w.heap.size 0 vs.length := fun j hj => by
    rw [Nat.zero_add]
    refine ⟨?_, by simp⟩
    rw [World.cell?_alloc_new]
    simp [hz, hj]
  have hb : Below w.heap.size w ((w.alloc (.cells z.toArray T)).setCells w.heap.size 0 vs) := bl_setCells (Nat.le_refl _) vs 0 _ (below_alloc w _)
  have hr := World.rangeAt_setCells_same (w.alloc (.cells z.toArray T)) w.heap.size 0 vs hth
  refine ⟨⟨?_, fun i => by rw [World.frozen?_setCells]; simp, cellsAt_of fun j v h => hr j v h⟩, Mem.later hb hm⟩
  have h1 : (w.alloc (.cells z.toArray T)).heap.size ≤ ((w.alloc (.cells z.toArray T)).setCells w.heap.size 0 vs).heap.size := by
    have := bl_setCells (a := w.alloc (.cells z.toArray T)) (b := w.heap.size) 
    clear this
    have key : ∀ (us : List Value) (o : Nat) (x : World), x.heap.size ≤ (x.setCells w.heap.size o us).heap.size := by
      intro us
      induction us with
      | nil => intro o x; exact Nat.le_refl _
      | cons u r ih =>
        intro o x
        rw [World.setCells]
        exact Nat.le_trans (by simp) (ih (o + 1) _)
    exact key vs 0 _
  rw [World.size_alloc] at h1
  omega
theorem there_of {w : World} {b n : Nat} {vs : List Value} (h : b < w.heap.size ∧ (∀ i, w.frozen? ⟨b, i, none⟩ = false) ∧ cellsAt w b 0 vs) (hl : vs.length = n) : w.there b 0 n := fun j hj => by
  rw [Nat.zero_add]
  refine ⟨?_, h.2.1 j⟩
  rw [cellsAt_get h.2.2 (List.getElem?_eq_getElem (by omega))]
  rfl
theorem row_of {w : World} {b n : Nat} {f : Nat → Int} (h : cellsAt w b 0 (b8l f n)) : Row w (some ⟨b, 0, none⟩) n n 1 (b8l f n) :=
  ⟨by rw [b8l_len, Nat.mul_one], Nat.le_refl _, fun h => (by cases h), fun ad ha i u hu => by
    simp only [Option.some.injEq] at ha
    subst ha
    refine ⟨rfl, ?_⟩
    rw [Nat.zero_add]
    exact cellsAt_get h hu, b8l_one f n⟩

set_option maxRecDepth 100000 in
set_option maxHeartbeats 1000000 in
theorem turned_any (f : Nat → Int) (w : World) :
    Calls Try.prog 53 #[arr32 f] w fun e w' => e = .returned (arr32 fun k => f (31 - k)) ∧ Below w.heap.size w w' := by
  obtain ⟨g, hg⟩ : ∃ g : Nat → Int, g = fun k => f (31 - k) := ⟨_, rfl⟩
  rw [← hg]
  have HR := Lib.hid (fun (w : World) (x : World) (hL : ∀ p ∈ [(w.heap.size + 1, b8l (fun _ => 0) 32)], p.1 ≠ w.heap.size) (hm : Mem x [(w.heap.size, b8l f 32), (w.heap.size + 1, b8l (fun _ => 0) 32)]) => hg ▸ rev_any w.heap.size w.heap.size (Nat.le_refl _) f _ hL x hm)
  clear hg
  go_enter Try.func53, Try.ntmps53
  go_wp2_with (first | (go_at_call 54; refine (HR.out w _ (by intro p hp; simp at hp; subst hp; simp) (by have h := Mem.swap (Mem.al (Mem.al (mem_nil w) (b8l f 32) 61) (b8l (fun _ => 0) 32) 61); simp only [World.size_alloc] at h; exact h)).mono ?_; rintro e w1 ⟨rfl, hm1, hb1⟩; replace hm1 := Lib.hid hm1) | (refine Go.wpList_load_mid rfl 61 (.tmp 1) rfl w.heap.size 0 rfl (b8l g 32) _ (rangeAt_of hm1.out.1.2.2) Try.underlying61 rfl (by rw [b8l_len]; kernel_rfl) ?_) | (refine Go.wpList_store_mid rfl 61 (.tmp 2) (.tmp 5) rfl (w.heap.size + 1) 0 (b8l g 32).toArray rfl rfl (by have h := there_of hm1.out.2.1 (b8l_len _ 32); simpa [b8l_len] using h) (by simp only [List.size_toArray, b8l_len]; kernel_rfl) (Go.all_oneCell_toArray (b8l_one g 32)) ?_))
  have hl := Go.run_loadVar_mid (P := Try.prog) (w1.setCells (w.heap.size + 1) 0 (b8l g 32)) (w.heap.size + 1) 0 61 (b8l g 32) _ (World.rangeAt_setCells_same w1 (w.heap.size + 1) 0 (b8l g 32) (by rw [b8l_len]; exact there_of hm1.out.2.1 (b8l_len _ 32))) Try.underlying61 rfl (by rw [b8l_len]; kernel_rfl)
  refine bodyPost_ret (v := arr32 g) (by simp [results, Try.results53, asAddr, hl, arr32, Act.put]) rfl ⟨rfl, bl_setCells (Nat.le_succ _) _ _ _ ?_⟩
  exact (bl_al (bl_al (Below.refl _ _) _) _).trans hb1
end Go.Proofs.Ytlfabchlblgmbaa
