/- Disk: a statement's disk, opened; plain facts on syncs and crashes. -/
import Derived.Test.YtoihponjnhhgbaaDk10
namespace Go.Proofs.Ytoihponjnhhgbaa
set_option linter.unusedVariables false
set_option linter.unusedSimpArgs false
open Go.RowKit Go.ChangeShapes Go.WideShapes

theorem flat_get {α : Type} (X : Nat → List α) (sz : Nat) (hs : 0 < sz) : ∀ (n : Nat), (∀ i, i < n → (X i).length = sz) → ((List.range n).flatMap X).length = n * sz ∧ ∀ k, k < n * sz → ((List.range n).flatMap X)[k]? = (X (k / sz))[k % sz]?
  | 0, _ => ⟨by simp, fun k hk => by simp at hk⟩
  | n + 1, h => by
    obtain ⟨hl, hg⟩ := flat_get X sz hs n (fun i hi => h i (by omega))
    have hn := h n (by omega)
    rw [List.range_succ, List.flatMap_append]
    have e : (n + 1) * sz = n * sz + sz := by rw [Nat.add_mul, Nat.one_mul]
    refine ⟨by simp only [List.length_append, hl, List.flatMap_cons, List.flatMap_nil, List.append_nil, hn, e], fun k hk => ?_⟩
    rcases Nat.lt_or_ge k (n * sz) with h1 | h1
    · rw [List.getElem?_append_left (by omega)]; exact hg k h1
    · rw [List.getElem?_append_right (by omega), hl]
      have e1 : k / sz = n := by
        rw [Nat.div_eq_of_lt_le] <;> omega
      have e2 : k % sz = k - n * sz := by
        have := Nat.div_add_mod k sz
        rw [e1, Nat.mul_comm] at this
        omega
      rw [e1, e2]
      simp

theorem fm_congr {α β : Type} {l : List α} {f g : α → List β} (h : ∀ x ∈ l, f x = g x) : l.flatMap f = l.flatMap g := by
  induction l with
  | nil => rfl
  | cons a l ih => rw [List.flatMap_cons, List.flatMap_cons, h a (by simp), ih (fun x hx => h x (by simp [hx]))]

theorem SRow.row {w : World} {ao : Option Addr} {n c sz : Nat} {X : Nat → List Value} (h : SRow w ao n c sz X) (hs : 0 < sz) (h1 : ∀ i, i < n → ∀ u ∈ X i, u.oneCell' = true) : Row w ao n c sz ((List.range n).flatMap X) := by
  obtain ⟨hl, hg⟩ := flat_get X sz hs n h.len
  refine ⟨hl, h.le, h.nil, fun ad ha k u hu => ?_, fun u hu => ?_⟩
  · have hk : k < n * sz := by rw [← hl]; exact (List.getElem?_eq_some_iff.1 hu).1
    rw [hg k hk] at hu
    have hk1 : k / sz < n := by rw [Nat.div_lt_iff_lt_mul hs]; exact hk
    have := h.cells ad ha (k / sz) hk1 (k % sz) u hu
    rwa [show k / sz * sz + k % sz = k by rw [Nat.mul_comm]; exact Nat.div_add_mod k sz] at this
  · obtain ⟨i, hi, hu⟩ := List.mem_flatMap.1 hu
    exact h1 i (List.mem_range.1 hi) u hu

theorem b8_range (f : Nat → Int) (n : Nat) : b8 ((List.range n).map f) = (List.range n).map fun i => .int .u8 (f i) := by simp [b8]

/-- A disk of the document's, as it came in. -/
theorem rd_disk {w : World} {v : Value} (k : Rd Try.prog w 25 v) :
    ∃ ao n c base po m pc R, v = .agg #[.slice ao n c, .slice po m pc] ∧ DP w ao n c base po m pc R ∧ n ≤ maxLen ∧ m ≤ maxLen ∧ (∀ r ∈ R, -9223372036854775808 ≤ r.at_ ∧ r.at_ ≤ 9223372036854775807) := by
  obtain ⟨cs, rfl, hsz, hc⟩ := k.agg (.inl ⟨_, Try.underlying25⟩)
  obtain ⟨_, hf⟩ := hc.struct Try.underlying25
  have f0 : RdC Try.prog w 22 ((cs.toList.drop 0).take (Try.prog.cellsOf 22)) := hf 0 _ rfl
  have f1 : RdC Try.prog w 23 ((cs.toList.drop 1).take (Try.prog.cellsOf 23)) := hf 1 _ rfl
  have c22 : Try.prog.cellsOf 22 = 1 := by kernel_rfl
  have c23 : Try.prog.cellsOf 23 = 1 := by kernel_rfl
  have cD : Try.prog.cellsOf 25 = 2 := by kernel_rfl
  rw [c22] at f0
  rw [c23] at f1
  obtain ⟨ao, n, c, f, e0, hb, hr, hn⟩ := f0.ints Try.underlying22 Try.underlying5 (by kernel_rfl)
  obtain ⟨po, m, pc, X, e1, hX, hs, hm⟩ := f1.slice (sz := 2) Try.underlying23 (by kernel_rfl) (by decide)
  have hX2 : ∀ i, i < m → ∃ (a : Int) (bo : Option Addr) (l d : Nat) (g : Nat → Int), X i = [.int .i64 a, .slice bo l d] ∧ (-9223372036854775808 ≤ a ∧ a ≤ 9223372036854775807) ∧ Row w bo l d 1 (b8 ((List.range l).map g)) := by
    intro i hi
    obtain ⟨_, hg⟩ := (hX i hi).struct Try.underlying54
    have g0 : RdC Try.prog w 3 (((X i).drop 0).take (Try.prog.cellsOf 3)) := hg 0 _ rfl
    have g1 : RdC Try.prog w 22 (((X i).drop 1).take (Try.prog.cellsOf 22)) := hg 1 _ rfl
    have c3 : Try.prog.cellsOf 3 = 1 := by kernel_rfl
    rw [c3] at g0
    rw [c22] at g1
    obtain ⟨a, ha, hw⟩ := g0.int Try.underlying3
    obtain ⟨bo, l, d, g, hd, _, hr, _⟩ := g1.ints Try.underlying22 Try.underlying5 (by kernel_rfl)
    have hl := hs.len i hi
    refine ⟨a, bo, l, d, g, ?_, i64_of_wf hw, by rw [b8_range]; exact hr⟩
    match hx : X i, hl with
    | [x, y], _ =>
      rw [hx] at ha hd
      simp at ha hd
      rw [ha, hd]
  have hch : ∃ rp : Nat → Rep, ∀ i, i < m → X i = [.int .i64 (rp i).at_, .slice (rp i).ao (rp i).n (rp i).c] ∧ (-9223372036854775808 ≤ (rp i).at_ ∧ (rp i).at_ ≤ 9223372036854775807) ∧ Row w (rp i).ao (rp i).n (rp i).c 1 (b8 (rp i).data) := by
    have : ∀ i, ∃ r : Rep, i < m → X i = [.int .i64 r.at_, .slice r.ao r.n r.c] ∧ (-9223372036854775808 ≤ r.at_ ∧ r.at_ ≤ 9223372036854775807) ∧ Row w r.ao r.n r.c 1 (b8 r.data) := by
      intro i
      by_cases hi : i < m
      · obtain ⟨a, bo, l, d, g, h1, h2, h3⟩ := hX2 i hi
        exact ⟨⟨a, bo, l, d, (List.range l).map g⟩, fun _ => ⟨h1, h2, h3⟩⟩
      · exact ⟨⟨0, none, 0, 0, []⟩, fun h => absurd h hi⟩
    exact ⟨fun i => (this i).choose, fun i hi => (this i).choose_spec hi⟩
  obtain ⟨rp, hrp⟩ := hch
  have hwc : wc ((List.range m).map rp) = (List.range m).flatMap X := by
    simp only [wc, List.flatMap_map]
    apply fm_congr
    intro i hi
    exact (hrp i (List.mem_range.1 hi)).1.symm
  refine ⟨ao, n, c, (List.range n).map f, po, m, pc, (List.range m).map rp, ?_, ⟨by rw [b8_range]; exact hr, ?_, fun r hr => ?_⟩, hn, hm, fun r hr => ?_⟩
  · rw [cD] at hsz
    match cs, hsz with
    | ⟨[x, y]⟩, _ =>
      simp at e0 e1
      rw [e0, e1]
  · rw [hwc]
    exact hs.row (by decide) (fun i hi u hu => by
      rw [(hrp i hi).1] at hu
      simp at hu
      rcases hu with rfl | rfl <;> rfl)
  · obtain ⟨i, hi, rfl⟩ := List.mem_map.1 hr
    exact (hrp i (List.mem_range.1 hi)).2.2
  · obtain ⟨i, hi, rfl⟩ := List.mem_map.1 hr
    exact (hrp i (List.mem_range.1 hi)).2.1
end Go.Proofs.Ytoihponjnhhgbaa
