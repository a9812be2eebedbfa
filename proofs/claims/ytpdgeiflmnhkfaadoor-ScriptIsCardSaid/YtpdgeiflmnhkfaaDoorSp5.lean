/- script: Name; florinref23: Same; florinlaw23: awake (made by gen_sp5.py). (hM) -/
import Derived.Test.YtpdgeiflmnhkfaaDoorSp4
namespace Go.Proofs.YtpdgeiflmnhkfaaDoor
set_option linter.unusedVariables false
set_option linter.unusedSimpArgs false
open Go.RowKit

/-- the names of the kinds -/
def NML : List (List UInt8) := [[99, 111, 110, 110, 101, 99, 116], [98, 121, 116, 101, 115], [116, 105, 99, 107], [119, 97, 116, 99, 104], [97, 115, 107], [116, 105, 112], [116, 120], [115, 121, 110, 99], [99, 114, 97, 115, 104], [99, 111, 109, 112, 97, 99, 116]]
def nmS (i : Nat) : ByteArray := ⟨(NML.getD i []).toArray⟩
def TabN (w : World) : Prop := 2 < w.heap.size ∧ ∀ i, i < 10 → w.cell? ⟨2, i, none⟩ = some (.string (nmS i))
theorem TabN.later {w w' : World} (h : TabN w) (hb : Below w.heap.size w w') : TabN w' := ⟨Nat.lt_of_lt_of_le h.1 hb.size, fun i hi => (hb.cell (p := ⟨2, i, none⟩) h.1).trans (h.2 i hi)⟩
theorem nmS_ne (j : Nat) (hj : j < 10) : (nmS j).toList.isEmpty = false := by
  have : j = 0 ∨ j = 1 ∨ j = 2 ∨ j = 3 ∨ j = 4 ∨ j = 5 ∨ j = 6 ∨ j = 7 ∨ j = 8 ∨ j = 9 := by omega
  rcases this with rfl | rfl | rfl | rfl | rfl | rfl | rfl | rfl | rfl | rfl <;> decide +kernel
theorem within_same (a b : Int) (w : World) : Calls Tryd.prog 138 #[.int .i64 a, .int .i64 b] w fun e w' => e = .returned (.bool (decide (0 ≤ a) && decide (a ≤ b))) ∧ w = w' := by
  by_cases h0 : 0 ≤ a
  · have h1 : decide (0 ≤ a) = true := by simpa using h0
    rw [h1, Bool.true_and]
    go_enter Tryd.func138, Tryd.ntmps138
    go_wp2
    go_ret
    exact ⟨rfl, rfl⟩
  · have h1 : decide (0 ≤ a) = false := by simpa using h0
    rw [h1, Bool.false_and]
    go_enter Tryd.func138, Tryd.ntmps138
    go_wp2
    go_ret
    exact ⟨rfl, rfl⟩
theorem name_any (j : Nat) (hj : j < 10) (w : World) (hT : TabN w) : Calls Tryd.prog 101 #[.int .i64 (j : Int)] w fun e w' => e = .returned (.string (nmS j)) ∧ w = w' := by
  have hc := hT.2 j hj
  have h1 := within_same (j : Int) 9
  have e : (decide (0 ≤ (j : Int)) && decide ((j : Int) ≤ 9)) = true := by simp; omega
  simp only [e] at h1
  have H1 := Lib.hid h1
  have hji : (j : Int) < 10 := by omega
  clear h1 e hT
  go_enter Tryd.func101, Tryd.ntmps101
  go_wp2_with (go_at_call 138; (with_reducible refine (H1.out _).mono ?_); rintro e w1 ⟨rfl, rfl⟩)
  go_ret
  exact ⟨rfl, rfl⟩
theorem name_none (k : Int) (hk : ¬ (0 ≤ k ∧ k ≤ 9)) (w : World) : Calls Tryd.prog 101 #[.int .i64 k] w fun e w' => e = .returned (.string ⟨#[]⟩) ∧ w = w' := by
  have h1 := within_same k 9
  have e : (decide (0 ≤ k) && decide (k ≤ 9)) = false := by simp; omega
  simp only [e] at h1
  have H1 := Lib.hid h1
  clear h1 e hk
  go_enter Tryd.func101, Tryd.ntmps101
  go_wp2_with (go_at_call 138; (with_reducible refine (H1.out _).mono ?_); rintro e w1 ⟨rfl, rfl⟩)
  go_ret
  exact ⟨rfl, rfl⟩

def SameRel (w : World) (n : Nat) (i : Value) (wr : World) : Prop := ∃ j : Nat, j ≤ n ∧ i = .int .i64 j ∧ Below w.heap.size w wr
set_option maxRecDepth 100000 in
set_option maxHeartbeats 4000000 in
theorem same23_any (ao : Option Addr) (n c : Nat) (A : List Stp) (bo : Option Addr) (m d : Nat) (B : List Stp) (w : World) (hA : Sts w ao n c A) (hB : Sts w bo m d B) (h : A.map psOf = B.map psOf) (hn : n ≤ 1000000) :
    Calls Tryd.prog 97 #[.slice ao n c, .slice bo m d] w fun e w' => e = .returned (.bool true) ∧ Below w.heap.size w w' := by
  have hlen : A.length = B.length := by have := congrArg List.length h; simpa using this
  obtain rfl : n = m := by rw [← hA.len, ← hB.len, hlen]
  have HA := Lib.hid hA
  have HB := Lib.hid hB
  have HE := Lib.hid h
  have HN := Lib.hid hn
  have hB0 := Below.refl w.heap.size w
  clear hA hB h hn hlen
  go_enter Tryd.func97, Tryd.ntmps97
  go_wp2
  go_loopw [5] (fun i wr => SameRel w n i wr) (fun i _ => n - (intOf i).toNat)
  case atStart => exact ⟨0, Nat.zero_le _, rfl, hB0⟩
  case round =>
    obtain ⟨j, hj, rfl, hbr⟩ := hrel
    by_cases hlt : j < n
    · obtain ⟨s, hs⟩ : ∃ s, A[j]? = some s := ⟨_, List.getElem?_eq_getElem (by have := HA.out.len; omega)⟩
      obtain ⟨t, ht⟩ : ∃ t, B[j]? = some t := ⟨_, List.getElem?_eq_getElem (by have := HB.out.len; omega)⟩
      obtain ⟨b, off, rfl⟩ := HA.out.addr (by omega)
      obtain ⟨d, of2, rfl⟩ := HB.out.addr (by omega)
      have hst : psOf s = psOf t := by
        have e := congrArg (fun l => l[j]?) HE.out
        simpa [hs, ht] using e
      simp only [psOf, PS.mk.injEq] at hst
      obtain ⟨e1, e2, e3, e4⟩ := hst
      have hSA := HA.out.later hbr
      have hSB := HB.out.later hbr
      have hca := hSA.cells hs
      have hcb := hSB.cells ht
      rw [← e1, ← e2, ← e3] at hcb
      have hca' : wr.drew.cell? ⟨b, off + j * 4, none⟩ = some (.int .i64 s.k) ∧ wr.drew.cell? ⟨b, off + j * 4 + 1, none⟩ = some (.int .i64 s.p) ∧ wr.drew.cell? ⟨b, off + j * 4 + 2, none⟩ = some (.int .i64 s.n) ∧ wr.drew.cell? ⟨b, off + j * 4 + 3, none⟩ = some (.slice s.ao s.m s.c) := hca
      have hcb' : wr.drew.cell? ⟨d, of2 + j * 4, none⟩ = some (.int .i64 s.k) ∧ wr.drew.cell? ⟨d, of2 + j * 4 + 1, none⟩ = some (.int .i64 s.p) ∧ wr.drew.cell? ⟨d, of2 + j * 4 + 2, none⟩ = some (.int .i64 s.n) ∧ wr.drew.cell? ⟨d, of2 + j * 4 + 3, none⟩ = some (.slice t.ao t.m t.c) := hcb
      have hv1 := row_string (P := Tryd.prog) (T := 22) (S := 9) (zs := s.d) wr.drew Tryd.underlying22 Tryd.underlying5 Tryd.underlying9 (ao := s.ao) (n := s.m) (c := s.c) (hSA.ok s (List.mem_of_getElem? hs)).row.drew
      have hv2 := row_string (P := Tryd.prog) (T := 22) (S := 9) (zs := t.d) wr.drew Tryd.underlying22 Tryd.underlying5 Tryd.underlying9 (ao := t.ao) (n := t.m) (c := t.c) (hSB.ok t (List.mem_of_getElem? ht)).row.drew
      rw [← e4] at hv2
      obtain ⟨sx, hsx⟩ : ∃ z, strOfNums s.d = z := ⟨_, rfl⟩
      rw [hsx] at hv1 hv2
      have HV := Lib.hid (And.intro hca' (And.intro hcb' (And.intro hv1 hv2)))
      have hjn : (j : Int) < (n : Int) := by omega
      have hw3 : IntKind.i64.wrap ((j : Int) + 1) = ((j + 1 : Nat) : Int) := by rw [IntKind.wrap_i64]; have := HN.out; omega
      clear hs ht e1 e2 e3 e4 hSA hSB hca hcb hca' hcb' hv1 hv2 hsx
      go_wp2
      refine wp_plan (fun x => (x.cell? ⟨b, off + j * 4, none⟩ = some (.int .i64 s.k) ∧ x.cell? ⟨b, off + j * 4 + 1, none⟩ = some (.int .i64 s.p) ∧ x.cell? ⟨b, off + j * 4 + 2, none⟩ = some (.int .i64 s.n) ∧ x.cell? ⟨b, off + j * 4 + 3, none⟩ = some (.slice s.ao s.m s.c)) ∧ (x.cell? ⟨d, of2 + j * 4, none⟩ = some (.int .i64 s.k) ∧ x.cell? ⟨d, of2 + j * 4 + 1, none⟩ = some (.int .i64 s.p) ∧ x.cell? ⟨d, of2 + j * 4 + 2, none⟩ = some (.int .i64 s.n) ∧ x.cell? ⟨d, of2 + j * 4 + 3, none⟩ = some (.slice t.ao t.m t.c)) ∧ (convert 22 9 (.slice s.ao s.m s.c)).run Tryd.prog x = .ok (.string sx) x ∧ (convert 22 9 (.slice t.ao t.m t.c)).run Tryd.prog x = .ok (.string sx) x) [] [0, 1, 2, 3, 4, 5, 6, 7, 8, 9, 10, 11, 12, 13, 14, 15, 16, 17, 18, 19, 20, 21, 22, 23, 24, 25, 26, 27, 28, 29, 30, 31, 32, 33, 34, 35, 36, 37, 38, 39, 40, 41, 42, 43, 44, 45, 46, 47, 48, 49, 50, 51] (by kernel_rfl) (by kernel_rfl) HV.out (fun hHeld => ?_)
      iterate 52 (refine wpT_take rfl (by rfl) (by rfl) (by intro w' hSw; (try dsimp only [Mem, cellsAt] at hSw); go_simp; (try with_reducible rfl)) (by assumption) ?_; (try simp only [Act.put, List.setIfInBounds_toArray, List.set_cons_zero, List.set_cons_succ]))
      (refine wpT_nil ?_)
      go_wp2
      refine ⟨⟨j + 1, by omega, by first | rfl | go_num, hbr.drew⟩, by simp [intOf]; omega⟩
    · obtain rfl : j = n := by omega
      have hjj : ¬ (j : Int) < (j : Int) := by omega
      go_wp2
      go_ret
      exact ⟨rfl, hbr⟩
end Go.Proofs.YtpdgeiflmnhkfaaDoor
