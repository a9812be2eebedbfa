/- Package hash: Pair. (hM) -/
import Derived.Test.YtddcceifblpmbaaDoorLyes
import Derived.Test.YtddcceifblpmbaaDoorHx2
import Derived.Test.YtddcceifblpmbaaDoorSh9
namespace Go.Proofs.YtddcceifblpmbaaDoor
set_option linter.unusedVariables false
set_option linter.unusedSimpArgs false
open Go.RowKit

set_option maxRecDepth 100000 in
set_option maxHeartbeats 2000000 in
theorem pair_any (f g : Nat → Int) (hf : ∀ i, 0 ≤ f i ∧ f i < 256) (hg : ∀ i, 0 ≤ g i ∧ g i < 256) (w : World) (hT : Tab w) :
    Calls Tryd.prog 22 #[arr32 f, arr32 g] w fun e w' => e = .returned (arr32 (shaF (shaF (catF f 32 g) 64) 32)) ∧ Below w.heap.size w w' := by
  have hcb : ∀ i, 0 ≤ catF f 32 g i ∧ catF f 32 g i < 256 := fun i => by unfold catF; split; exact hf i; exact hg _
  have HD := Lib.hid (fun (x : World) (hb : Below w.heap.size w x) (ao : Option Addr) (c : Nat) (hr : Row x ao 64 c 1 (bcells (catF f 32 g) 64)) => double_any ao 64 c (catF f 32 g) x (hT.later hb) hr hcb (by omega))
  obtain ⟨F, hF0⟩ : ∃ F, shaF (shaF (catF f 32 g) 64) 32 = F := ⟨_, rfl⟩
  rw [hF0] at HD ⊢
  clear hT hcb hF0
  have hB := Below.refl w.heap.size w
  have hM := Lib.hid (Mem.al (Mem.al (Mem.al (mem_nil w) (b8l f 32) 23) (b8l g 32) 23) (b8l (fun _ => 0) 32) 23)
  have hF : True := trivial
  have hB1 := bl_al (bl_al (bl_al hB (.cells (b8l f 32).toArray 23)) (.cells (b8l g 32).toArray 23)) (.cells (b8l (fun _ => 0) 32).toArray 23)
  clear hB
  have hB := hB1
  clear hB1
  simp only [World.size_alloc] at hM
  go_enter Tryd.func22, Tryd.ntmps22
  go_wp2
  refine wp_plan (fun x => Mem x [(w.heap.size + 1, b8l g 32), (w.heap.size, b8l f 32)]) [2, 3, 4, 5] [0, 1, 2, 3, 4, 5] (by kernel_rfl) (by kernel_rfl) (Mem.drew hM.out).2 (fun hHeld => ?_)
  iterate 2 (refine wpT_take rfl (by rfl) (by rfl) (by intro w' hSw; (try dsimp only [Mem, cellsAt] at hSw); go_simp; (try with_reducible rfl)) (by assumption) ?_; (try simp only [Act.put, List.setIfInBounds_toArray, List.set_cons_zero, List.set_cons_succ]))
  (refine wpT_step rfl (by rfl) (fun K hK => ?_); go_simp)
  have hM2 := Mem.al hM.out [.slice (some ⟨w.heap.size, 0, none⟩) 32 32, .slice (some ⟨w.heap.size + 1, 0, none⟩) 32 32] 27
  have hMd := Mem.drew hM2
  have hBd := (bl_al hB (.cells #[.slice (some ⟨w.heap.size, 0, none⟩) 32 32, .slice (some ⟨w.heap.size + 1, 0, none⟩) 32 32] 27)).drew
  simp only [World.size_alloc, size_drew] at hM2 hMd
  have hC := hMd.1.2.2
  simp only [cellsAt, and_true] at hC
  have hq : Mem _ [(w.heap.size + 1 + 1, b8l (fun _ => 0) 32), (w.heap.size + 1, b8l g 32), (w.heap.size, b8l f 32)] := hMd.2
  have hR1 := row_ofW (f := f) (n := 32) hq.2.2.1.2.2
  have hR2 := row_ofW (f := g) (n := 32) hq.2.1.2.2
  (refine hK.out _ _ _ (fun _ h => h) (hq.2) (fun hHeld => ?_); clear hK; clear K; (try simp only [Act.put, List.setIfInBounds_toArray, List.set_cons_zero, List.set_cons_succ]))
  (refine wpT_step rfl (by rfl) (fun K hK => ?_); go_simp)
  refine (concat_any (w.heap.size + 1 + 1 + 1) 0 _ _ 32 32 32 32 f g _ hC.1 hC.2 hR1 hR2 (by omega)).mono ?_
  rintro e w1 ⟨ao, cap, rfl, hown, hb⟩
  have HO := Lib.hid (hown.row (bcells_one _ _))
  have hB3 := bl_then hBd hb
  have hM3 := Mem.later hb hq
  clear hb hown
  (refine hK.out _ _ _ (fun _ h => h) (hM3.2) (fun hHeld => ?_); clear hK; clear K; (try simp only [Act.put, List.setIfInBounds_toArray, List.set_cons_zero, List.set_cons_succ]))
  (refine wpT_step rfl (by rfl) (fun K hK => ?_); go_simp)
  refine (HD.out w1 hB3 ao cap HO.out).mono ?_
  rintro e w2 ⟨rfl, hb⟩
  have hM4 := Mem.later hb hM3
  have hB4 := bl_then hB3 hb
  clear hb
  (refine hK.out _ _ _ (fun _ h => h) (hM4.2) (fun hHeld => ?_); clear hK; clear K; (try simp only [Act.put, List.setIfInBounds_toArray, List.set_cons_zero, List.set_cons_succ]))
  (refine wpT_step rfl (by rfl) (fun K hK => ?_))
  have hth := thereW (n := 32) hM4.1 (Nat.le_refl _)
  have hov := Mem.over (us := bcells F 32) (b := w.heap.size + 1 + 1) (L := [(w.heap.size + 1, b8l g 32), (w.heap.size, b8l f 32)]) (by intro p hp; simp at hp; rcases hp with rfl | rfl <;> simp <;> omega) hM4 rfl
  refine step_storeW rfl 23 (.tmp 4) (.tmp 9) rfl (w.heap.size + 1 + 1) 0 (bcells F 32).toArray rfl rfl (by simpa [bcells_len] using hth) (by simp only [List.size_toArray, bcells_len]; kernel_rfl) (Go.all_oneCell_toArray (bcells_one _ 32)) ?_
  (refine hK.out _ _ _ (fun _ h => h) (hov.2) (fun hHeld => ?_); clear hK; clear K; (try simp only [Act.put, List.setIfInBounds_toArray, List.set_cons_zero, List.set_cons_succ]))
  (refine wpT_nil ?_)
  have hl := Go.run_loadVar_mid (P := Tryd.prog) (w2.setCells (w.heap.size + 1 + 1) 0 (bcells F 32)) (w.heap.size + 1 + 1) 0 23 (bcells F 32) _ (rangeAt_of hov.1.2.2) Tryd.underlying23 rfl (by rw [bcells_len]; kernel_rfl)
  go_wp2
  refine bodyPost_ret (v := h32 F) (by simp [results, Tryd.results22, asAddr, hl, Act.put]) rfl ⟨rfl, bl_setCellsW (by omega) _ _ _ hB4⟩
end Go.Proofs.YtddcceifblpmbaaDoor
