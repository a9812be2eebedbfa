/- florinref03.Same of two rows of the same hashes (made by gen_mks.py). (hM) -/
import Derived.Test.YtddcceifblpmbaaDoorMkV
namespace Go.Proofs.YtddcceifblpmbaaDoor
set_option linter.unusedVariables false
set_option linter.unusedSimpArgs false
open Go.RowKit

theorem neq_h10 (f g : Nat → Int) (b : Bool) (hb : (!(hl f == hl g)) = b) (w : World) : (binOp .neq 23 (arr32 f) (arr32 g)).run Tryd.prog w = .ok (.bool b) w := by
  have := neqArr Tryd.prog 32 23 5 .u8 Tryd.underlying23 Tryd.underlying5 (by kernel_rfl) (hl f) (hl g) (hl_len f) (hl_len g) w
  rw [hb] at this
  unfold arr32
  rw [hl_cells, hl_cells]
  exact this
set_option maxRecDepth 100000 in
theorem same3_yes (ao bo : Option Addr) (n c d : Nat) (L : List HF) (w : World) (h1 : Row w ao n c 32 (hsL L)) (h2 : Row w bo n d 32 (hsL L)) (hn : n ≤ 100000) :
    Calls Tryd.prog 51 #[.slice ao n c, .slice bo n d] w fun e w' => e = .returned (.bool true) ∧ Below w.heap.size w w' := by
  have HL := Lib.hid (hs_len h1)
  have HN := Lib.hid hn
  have HR1 := Lib.hid h1
  have HR2 := Lib.hid h2
  clear h1 h2 hn
  go_enter Tryd.func51, Tryd.ntmps51
  go_wp2
  go_loopw [5] (fun k wr => ∃ i : Nat, i ≤ n ∧ k = .int .i64 (i : Int) ∧ Below w.heap.size w wr) (fun k _ => n + 1 - (intOf k).toNat)
  case atStart => exact ⟨0, Nat.zero_le _, rfl, Below.refl _ _⟩
  case round =>
    obtain ⟨i, hi, rfl, hbr⟩ := hrel
    by_cases hlt : i < n
    · obtain ⟨f, hf⟩ : ∃ f, L[i]? = some f := ⟨_, List.getElem?_eq_getElem (by have := HL.out; omega)⟩
      obtain ⟨b1, o1, rfl⟩ := row_addr HR1.out (by intro e; have := congrArg List.length e; rw [hsL_len, HL.out] at this; simp at this; omega)
      obtain ⟨b2, o2, rfl⟩ := row_addr HR2.out (by intro e; have := congrArg List.length e; rw [hsL_len, HL.out] at this; simp at this; omega)
      have HLi := Lib.hid hf
      have hne := neq_h10 f f false (by simp)
      have k1 : (i : Int) < (n : Int) := by omega
      have k2 : 0 ≤ (i : Int) := by omega
      have k3 : IntKind.i64.wrap ((i : Int) + 1) = ((i + 1 : Nat) : Int) := by rw [IntKind.wrap_i64]; have := HN.out; omega
      clear hf
      go_wp2
      refine wp_plan (fun x => Row x (some ⟨b1, o1, none⟩) n c 32 (hsL L) ∧ Row x (some ⟨b2, o2, none⟩) n d 32 (hsL L)) [] [0, 1, 2, 3, 4, 5, 6, 7, 8] (by kernel_rfl) (by kernel_rfl) (⟨(HR1.out.later hbr).drew, (HR2.out.later hbr).drew⟩) (fun hHeld => ?_)
      iterate 3 (refine wpT_take rfl (by rfl) (by rfl) (by intro w' hSw; (try dsimp only [Mem, cellsAt] at hSw); go_simp; (try with_reducible rfl)) (by assumption) ?_; (try simp only [Act.put, List.setIfInBounds_toArray, List.set_cons_zero, List.set_cons_succ]))
      (refine wpT_yield rfl (by rfl) (Go.yieldsIf_load_mid (by rfl) 23 (.tmp 19) rfl b1 ((o1 + i * 32)) rfl (b8l f 32) _ (fun w' h' => hs_range h'.1 HLi.out) Tryd.underlying23 rfl (by rw [b8l_len]; kernel_rfl)) (by assumption) ?_; (try simp only [Act.put, List.setIfInBounds_toArray, List.set_cons_zero, List.set_cons_succ]))
      iterate 3 (refine wpT_take rfl (by rfl) (by rfl) (by intro w' hSw; (try dsimp only [Mem, cellsAt] at hSw); go_simp; (try with_reducible rfl)) (by assumption) ?_; (try simp only [Act.put, List.setIfInBounds_toArray, List.set_cons_zero, List.set_cons_succ]))
      (refine wpT_yield rfl (by rfl) (Go.yieldsIf_load_mid (by rfl) 23 (.tmp 23) rfl b2 ((o2 + i * 32)) rfl (b8l f 32) _ (fun w' h' => hs_range h'.2 HLi.out) Tryd.underlying23 rfl (by rw [b8l_len]; kernel_rfl)) (by assumption) ?_; (try simp only [Act.put, List.setIfInBounds_toArray, List.set_cons_zero, List.set_cons_succ]))
      iterate 1 (refine wpT_take rfl (by rfl) (by rfl) (by intro w' hSw; (try dsimp only [Mem, cellsAt] at hSw); go_simp; (try with_reducible rfl)) (by assumption) ?_; (try simp only [Act.put, List.setIfInBounds_toArray, List.set_cons_zero, List.set_cons_succ]))
      (refine wpT_nil ?_)
      go_wp2
      refine ⟨⟨i + 1, by omega, by first | rfl | go_num | (congr 1), hbr.drew⟩, by simp [intOf]; omega⟩
    · have k1 : ¬ (i : Int) < (n : Int) := by omega
      go_wp2
      go_ret
      exact ⟨rfl, hbr⟩
end Go.Proofs.YtddcceifblpmbaaDoor
