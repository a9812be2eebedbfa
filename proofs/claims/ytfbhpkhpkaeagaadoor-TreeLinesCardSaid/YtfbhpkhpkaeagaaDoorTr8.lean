/- Package tree: Add (made by gen_tr4.py). (hM) Merged: Tr4, Tr5, Tr6, Tr7, Tr8. -/
import Derived.Test.YtfbhpkhpkaeagaaDoorTr3
import Derived.Test.YtfbhpkhpkaeagaaDoorBoth
/- Package tree: Add (made by gen_tr4.py). (hM) -/
namespace Go.Proofs.YtfbhpkhpkaeagaaDoor
set_option linter.unusedVariables false
set_option linter.unusedSimpArgs false
open Go.RowKit

set_option maxRecDepth 100000 in
theorem build_nd {I : Nat → Int} {hd : Hd} {wk : Int} (x : World) : (Instr.build 44 #[(0, arr32 I), (1, hdV hd), (2, .int .i64 (-1)), (4, uV wk)]).run Tryd.prog x = .ok (ndV (Nd.mk I hd (-1) 0 wk)) x := by kernel_rfl
theorem run_buildN {P : Program} {a : Act} {o : Oper} {T : TypeId} {xs : Array (Nat × Operand)} (ho : o.op = .build T xs) (v : Value) {ys : Array (Nat × Value)} (hb : ∀ x, (Instr.build T ys).run P x = .ok v x) (hy : (xs.map fun p => (p.1, a.eval p.2)) = ys) (w : World) :
    (execOp a.eval o).run P w = .ok (.value v) w := by
  unfold execOp
  rw [ho]
  simp only [hy]
  rw [Sem.run_bind]
  simp only [hb, Result.andThen_ok]
  rfl

set_option maxRecDepth 100000 in
set_option maxHeartbeats 8000000 in
/-- it is there already -/
theorem tadd_known (B : Nat) (g : Nat) (n : Nat) (w : World) (I : Nat → Int) (hd : Hd) (wk : Int)
    (HId : Hid (∀ x, Below w.heap.size w x → Calls Tryd.prog 14 #[hdV hd] x fun e w' => e = .returned (arr32 I) ∧ Below x.heap.size x w'))
    (HWk : Hid (∀ x, Calls Tryd.prog 20 #[.int .u32 hd.b] x fun e w' => e = .returned (uV wk) ∧ Below x.heap.size x w'))
    (HLn : Hid (∀ x, Below w.heap.size w x → Calls Tryd.prog 16 #[.pointer (some ⟨g, 0, none⟩)] x fun e w' => e = .returned (.int .i64 (n : Int)) ∧ Below x.heap.size x w')) (j : Int) (HFd : Hid (∀ x, Below w.heap.size w x → Calls Tryd.prog 13 #[.pointer (some ⟨g, 0, none⟩), arr32 I] x fun e w' => e = .returned (.tuple #[.int .i64 j, .bool true]) ∧ Below x.heap.size x w')) :
    Calls Tryd.prog 10 #[.pointer (some ⟨g, 0, none⟩), hdV hd] w fun e w' => e = .returned (.tuple #[.int .i64 j, .int .i64 10]) ∧ Below w.heap.size w w' := by
  have hM := Lib.hid (Mem.al (mem_nil w) (hdL hd) 26)
  have hB := bl_al (Below.refl w.heap.size w) (.cells (hdL hd).toArray 26)
  have hF : True := trivial
  have hz : ∀ y : World, (zeroValue 44).run Tryd.prog y = .ok (.agg (ndL nd0).toArray) y := fun y => by kernel_rfl
  have hcb := hdL_b hd
  go_enter Tryd.func10, Tryd.ntmps10
  go_wp2_with (first |
    ((with_reducible_and_instances refine at_load 3 ?_); refine Go.wpList_load_mid rfl 26 (.tmp 3) rfl w.heap.size 0 rfl (hdL hd) _ (rangeAt_of (Mem.get hM.out (by simp))) Tryd.underlying26 rfl (by rw [hdL_len]; kernel_rfl) ?_) |
    (go_at_call 14; (with_reducible refine (HId.out _ hB).mono ?_); rintro e w1 ⟨rfl, hb⟩; have hB : Below w.heap.size w w1 := (by refine bl_then ?_ hb; (repeat (first | exact hB | refine bl_al ?_ _ | refine Below.setCell ?_ (by first | exact hgs | exact Nat.le_succ_of_le hgs | exact hgs2 | exact hgs3) _ | refine Below.drew ?_ | refine bl_drewN ?_ _))); (first | with_reducible have hM2 := Mem.later hb (hM.out) | with_reducible have hM2 := Mem.later hb (Mem.al (hM.out) _ _) | with_reducible have hM2 := Mem.later hb (Mem.al (Mem.al (hM.out) _ _) _ _) | with_reducible have hM2 := Mem.later hb (Mem.al (Mem.al (Mem.al (hM.out) _ _) _ _) _ _) | with_reducible have hM2 := Mem.later hb (Mem.al (Mem.al (Mem.al (Mem.al (hM.out) _ _) _ _) _ _) _ _) | with_reducible have hM2 := Mem.later hb (Mem.drew (hM.out)) | with_reducible have hM2 := Mem.later hb (Mem.drew (Mem.al (hM.out) _ _)) | with_reducible have hM2 := Mem.later hb (Mem.al (Mem.drew (hM.out)) _ _) | with_reducible have hM2 := Mem.later hb (Mem.al (Mem.drew (Mem.al (hM.out) _ _)) _ _) | with_reducible have hM2 := Mem.later hb (Mem.drew (Mem.al (Mem.al (hM.out) _ _) _ _)) | with_reducible have hM2 := Mem.later hb (Mem.al (Mem.al (Mem.drew (hM.out)) _ _) _ _) | with_reducible have hM2 := Mem.later hb (Mem.drew (Mem.drew (hM.out))) | with_reducible have hM2 := Mem.later hb (Mem.drew (Mem.al (Mem.drew (hM.out)) _ _)) | with_reducible have hM2 := Mem.later hb (Mem.drew (Mem.al (Mem.al (Mem.al (hM.out) _ _) _ _) _ _)) | with_reducible have hM2 := Mem.later hb (Mem.al (Mem.al (Mem.drew (Mem.al (hM.out) _ _)) _ _) _ _) | with_reducible have hM2 := Mem.later hb (Mem.drew (Mem.al (Mem.drew (Mem.al (hM.out) _ _)) _ _)) | with_reducible have hM2 := Mem.later hb (Mem.al (Mem.al (Mem.al (Mem.al (Mem.al (hM.out) _ _) _ _) _ _) _ _) _ _) | with_reducible have hM2 := Mem.later hb (Mem.al (Mem.al (Mem.al (Mem.al (Mem.al (Mem.al (hM.out) _ _) _ _) _ _) _ _) _ _) _ _) | with_reducible have hM2 := Mem.later hb (Mem.al (Mem.al (Mem.al (Mem.al (Mem.al (Mem.al (Mem.al (hM.out) _ _) _ _) _ _) _ _) _ _) _ _) _ _) | with_reducible have hM2 := Mem.later hb (Mem.al (Mem.al (Mem.al (Mem.al (Mem.al (Mem.al (Mem.al (Mem.al (hM.out) _ _) _ _) _ _) _ _) _ _) _ _) _ _) _ _)); (try simp only [World.size_alloc, size_drew] at hM2); clear hM; have hM := Lib.hid hM2; clear hF; have hF := hM2; (try simp only [Mem, cellsAt, World.size_alloc, Nat.zero_add, Nat.reduceAdd, and_true] at hF); clear hM2; clear hb; clear hF; have hF : True := trivial) |
    ((with_reducible_and_instances refine at_store 6 ?_); refine wpList_store_newV rfl (.tmp 6) (.tmp 14) 24 rfl _ (b8l I 32) _ Tryd.underlying24 rfl (by rw [b8l_len]; kernel_rfl) (by rw [b8l_len]; rfl) (b8l_one I 32) rfl (rfl) hM.out ?_; intro W2 hMW hbW; have hBW := bl_then hB hbW; obtain ⟨g6, hg6⟩ : ∃ b, w1.heap.size = b := ⟨_, rfl⟩; rw [hg6] at hMW; simp only [hg6]; clear hg6; clear hM hF hB; have hM := Lib.hid hMW; have hB := hBW; have hF : True := trivial; clear hMW hbW hBW) |
    ((with_reducible_and_instances refine at_load 6 ?_); refine Go.wpList_load_mid rfl 24 (.tmp 6) rfl g6 0 rfl (b8l I 32) _ (rangeAt_of (Mem.get hM.out (by simp))) Tryd.underlying24 rfl (by rw [b8l_len]; kernel_rfl) ?_) |
    (go_at_call 13; (with_reducible refine (HFd.out _ hB).mono ?_); rintro e w3 ⟨rfl, hb⟩; have hB : Below w.heap.size w w3 := (by refine bl_then ?_ hb; (repeat (first | exact hB | refine bl_al ?_ _ | refine Below.setCell ?_ (by first | exact hgs | exact Nat.le_succ_of_le hgs | exact hgs2 | exact hgs3) _ | refine Below.drew ?_ | refine bl_drewN ?_ _))); (first | with_reducible have hM2 := Mem.later hb (hM.out) | with_reducible have hM2 := Mem.later hb (Mem.al (hM.out) _ _) | with_reducible have hM2 := Mem.later hb (Mem.al (Mem.al (hM.out) _ _) _ _) | with_reducible have hM2 := Mem.later hb (Mem.al (Mem.al (Mem.al (hM.out) _ _) _ _) _ _) | with_reducible have hM2 := Mem.later hb (Mem.al (Mem.al (Mem.al (Mem.al (hM.out) _ _) _ _) _ _) _ _) | with_reducible have hM2 := Mem.later hb (Mem.drew (hM.out)) | with_reducible have hM2 := Mem.later hb (Mem.drew (Mem.al (hM.out) _ _)) | with_reducible have hM2 := Mem.later hb (Mem.al (Mem.drew (hM.out)) _ _) | with_reducible have hM2 := Mem.later hb (Mem.al (Mem.drew (Mem.al (hM.out) _ _)) _ _) | with_reducible have hM2 := Mem.later hb (Mem.drew (Mem.al (Mem.al (hM.out) _ _) _ _)) | with_reducible have hM2 := Mem.later hb (Mem.al (Mem.al (Mem.drew (hM.out)) _ _) _ _) | with_reducible have hM2 := Mem.later hb (Mem.drew (Mem.drew (hM.out))) | with_reducible have hM2 := Mem.later hb (Mem.drew (Mem.al (Mem.drew (hM.out)) _ _)) | with_reducible have hM2 := Mem.later hb (Mem.drew (Mem.al (Mem.al (Mem.al (hM.out) _ _) _ _) _ _)) | with_reducible have hM2 := Mem.later hb (Mem.al (Mem.al (Mem.drew (Mem.al (hM.out) _ _)) _ _) _ _) | with_reducible have hM2 := Mem.later hb (Mem.drew (Mem.al (Mem.drew (Mem.al (hM.out) _ _)) _ _)) | with_reducible have hM2 := Mem.later hb (Mem.al (Mem.al (Mem.al (Mem.al (Mem.al (hM.out) _ _) _ _) _ _) _ _) _ _) | with_reducible have hM2 := Mem.later hb (Mem.al (Mem.al (Mem.al (Mem.al (Mem.al (Mem.al (hM.out) _ _) _ _) _ _) _ _) _ _) _ _) | with_reducible have hM2 := Mem.later hb (Mem.al (Mem.al (Mem.al (Mem.al (Mem.al (Mem.al (Mem.al (hM.out) _ _) _ _) _ _) _ _) _ _) _ _) _ _) | with_reducible have hM2 := Mem.later hb (Mem.al (Mem.al (Mem.al (Mem.al (Mem.al (Mem.al (Mem.al (Mem.al (hM.out) _ _) _ _) _ _) _ _) _ _) _ _) _ _) _ _)); (try simp only [World.size_alloc, size_drew] at hM2); clear hM; have hM := Lib.hid hM2; clear hF; have hF := hM2; (try simp only [Mem, cellsAt, World.size_alloc, Nat.zero_add, Nat.reduceAdd, and_true] at hF); clear hM2; clear hb; clear hF; have hF : True := trivial))
  go_ret2
  exact ⟨rfl, hB⟩

set_option maxRecDepth 100000 in
set_option maxHeartbeats 8000000 in
/-- no parent -/
theorem tadd_orphan (B : Nat) (g : Nat) (n : Nat) (w : World) (I : Nat → Int) (hd : Hd) (wk : Int)
    (HId : Hid (∀ x, Below w.heap.size w x → Calls Tryd.prog 14 #[hdV hd] x fun e w' => e = .returned (arr32 I) ∧ Below x.heap.size x w'))
    (HWk : Hid (∀ x, Calls Tryd.prog 20 #[.int .u32 hd.b] x fun e w' => e = .returned (uV wk) ∧ Below x.heap.size x w'))
    (HLn : Hid (∀ x, Below w.heap.size w x → Calls Tryd.prog 16 #[.pointer (some ⟨g, 0, none⟩)] x fun e w' => e = .returned (.int .i64 (n : Int)) ∧ Below x.heap.size x w')) (hn : 1 ≤ n) (HFd : Hid (∀ x, Below w.heap.size w x → Calls Tryd.prog 13 #[.pointer (some ⟨g, 0, none⟩), arr32 I] x fun e w' => e = .returned (.tuple #[.int .i64 0, .bool false]) ∧ Below x.heap.size x w'))
    (HFp : Hid (∀ x, Below w.heap.size w x → Calls Tryd.prog 13 #[.pointer (some ⟨g, 0, none⟩), arr32 hd.p] x fun e w' => e = .returned (.tuple #[.int .i64 0, .bool false]) ∧ Below x.heap.size x w')) :
    Calls Tryd.prog 10 #[.pointer (some ⟨g, 0, none⟩), hdV hd] w fun e w' => e = .returned (.tuple #[.int .i64 (-1), .int .i64 9]) ∧ Below w.heap.size w w' := by
  have hM := Lib.hid (Mem.al (mem_nil w) (hdL hd) 26)
  have hB := bl_al (Below.refl w.heap.size w) (.cells (hdL hd).toArray 26)
  have hF : True := trivial
  have hz : ∀ y : World, (zeroValue 44).run Tryd.prog y = .ok (.agg (ndL nd0).toArray) y := fun y => by kernel_rfl
  have hcb := hdL_b hd
  have hni : (0 : Int) < (n : Int) := by omega
  go_enter Tryd.func10, Tryd.ntmps10
  go_wp2_with (first |
    ((with_reducible_and_instances refine at_load 3 ?_); refine Go.wpList_load_mid rfl 26 (.tmp 3) rfl w.heap.size 0 rfl (hdL hd) _ (rangeAt_of (Mem.get hM.out (by simp))) Tryd.underlying26 rfl (by rw [hdL_len]; kernel_rfl) ?_) |
    (go_at_call 14; (with_reducible refine (HId.out _ hB).mono ?_); rintro e w1 ⟨rfl, hb⟩; have hB : Below w.heap.size w w1 := (by refine bl_then ?_ hb; (repeat (first | exact hB | refine bl_al ?_ _ | refine Below.setCell ?_ (by first | exact hgs | exact Nat.le_succ_of_le hgs | exact hgs2 | exact hgs3) _ | refine Below.drew ?_ | refine bl_drewN ?_ _))); (first | with_reducible have hM2 := Mem.later hb (hM.out) | with_reducible have hM2 := Mem.later hb (Mem.al (hM.out) _ _) | with_reducible have hM2 := Mem.later hb (Mem.al (Mem.al (hM.out) _ _) _ _) | with_reducible have hM2 := Mem.later hb (Mem.al (Mem.al (Mem.al (hM.out) _ _) _ _) _ _) | with_reducible have hM2 := Mem.later hb (Mem.al (Mem.al (Mem.al (Mem.al (hM.out) _ _) _ _) _ _) _ _) | with_reducible have hM2 := Mem.later hb (Mem.drew (hM.out)) | with_reducible have hM2 := Mem.later hb (Mem.drew (Mem.al (hM.out) _ _)) | with_reducible have hM2 := Mem.later hb (Mem.al (Mem.drew (hM.out)) _ _) | with_reducible have hM2 := Mem.later hb (Mem.al (Mem.drew (Mem.al (hM.out) _ _)) _ _) | with_reducible have hM2 := Mem.later hb (Mem.drew (Mem.al (Mem.al (hM.out) _ _) _ _)) | with_reducible have hM2 := Mem.later hb (Mem.al (Mem.al (Mem.drew (hM.out)) _ _) _ _) | with_reducible have hM2 := Mem.later hb (Mem.drew (Mem.drew (hM.out))) | with_reducible have hM2 := Mem.later hb (Mem.drew (Mem.al (Mem.drew (hM.out)) _ _)) | with_reducible have hM2 := Mem.later hb (Mem.drew (Mem.al (Mem.al (Mem.al (hM.out) _ _) _ _) _ _)) | with_reducible have hM2 := Mem.later hb (Mem.al (Mem.al (Mem.drew (Mem.al (hM.out) _ _)) _ _) _ _) | with_reducible have hM2 := Mem.later hb (Mem.drew (Mem.al (Mem.drew (Mem.al (hM.out) _ _)) _ _)) | with_reducible have hM2 := Mem.later hb (Mem.al (Mem.al (Mem.al (Mem.al (Mem.al (hM.out) _ _) _ _) _ _) _ _) _ _) | with_reducible have hM2 := Mem.later hb (Mem.al (Mem.al (Mem.al (Mem.al (Mem.al (Mem.al (hM.out) _ _) _ _) _ _) _ _) _ _) _ _) | with_reducible have hM2 := Mem.later hb (Mem.al (Mem.al (Mem.al (Mem.al (Mem.al (Mem.al (Mem.al (hM.out) _ _) _ _) _ _) _ _) _ _) _ _) _ _) | with_reducible have hM2 := Mem.later hb (Mem.al (Mem.al (Mem.al (Mem.al (Mem.al (Mem.al (Mem.al (Mem.al (hM.out) _ _) _ _) _ _) _ _) _ _) _ _) _ _) _ _)); (try simp only [World.size_alloc, size_drew] at hM2); clear hM; have hM := Lib.hid hM2; clear hF; have hF := hM2; (try simp only [Mem, cellsAt, World.size_alloc, Nat.zero_add, Nat.reduceAdd, and_true] at hF); clear hM2; clear hb; clear hF; have hF : True := trivial) |
    ((with_reducible_and_instances refine at_store 6 ?_); refine wpList_store_newV rfl (.tmp 6) (.tmp 14) 24 rfl _ (b8l I 32) _ Tryd.underlying24 rfl (by rw [b8l_len]; kernel_rfl) (by rw [b8l_len]; rfl) (b8l_one I 32) rfl (rfl) hM.out ?_; intro W2 hMW hbW; have hBW := bl_then hB hbW; obtain ⟨g6, hg6⟩ : ∃ b, w1.heap.size = b := ⟨_, rfl⟩; rw [hg6] at hMW; simp only [hg6]; clear hg6; clear hM hF hB; have hM := Lib.hid hMW; have hB := hBW; have hF : True := trivial; clear hMW hbW hBW) |
    ((with_reducible_and_instances refine at_load 6 ?_); refine Go.wpList_load_mid rfl 24 (.tmp 6) rfl g6 0 rfl (b8l I 32) _ (rangeAt_of (Mem.get hM.out (by simp))) Tryd.underlying24 rfl (by rw [b8l_len]; kernel_rfl) ?_) |
    (go_at_call 13; (with_reducible refine (HFd.out _ hB).mono ?_); rintro e w3 ⟨rfl, hb⟩; have hB : Below w.heap.size w w3 := (by refine bl_then ?_ hb; (repeat (first | exact hB | refine bl_al ?_ _ | refine Below.setCell ?_ (by first | exact hgs | exact Nat.le_succ_of_le hgs | exact hgs2 | exact hgs3) _ | refine Below.drew ?_ | refine bl_drewN ?_ _))); (first | with_reducible have hM2 := Mem.later hb (hM.out) | with_reducible have hM2 := Mem.later hb (Mem.al (hM.out) _ _) | with_reducible have hM2 := Mem.later hb (Mem.al (Mem.al (hM.out) _ _) _ _) | with_reducible have hM2 := Mem.later hb (Mem.al (Mem.al (Mem.al (hM.out) _ _) _ _) _ _) | with_reducible have hM2 := Mem.later hb (Mem.al (Mem.al (Mem.al (Mem.al (hM.out) _ _) _ _) _ _) _ _) | with_reducible have hM2 := Mem.later hb (Mem.drew (hM.out)) | with_reducible have hM2 := Mem.later hb (Mem.drew (Mem.al (hM.out) _ _)) | with_reducible have hM2 := Mem.later hb (Mem.al (Mem.drew (hM.out)) _ _) | with_reducible have hM2 := Mem.later hb (Mem.al (Mem.drew (Mem.al (hM.out) _ _)) _ _) | with_reducible have hM2 := Mem.later hb (Mem.drew (Mem.al (Mem.al (hM.out) _ _) _ _)) | with_reducible have hM2 := Mem.later hb (Mem.al (Mem.al (Mem.drew (hM.out)) _ _) _ _) | with_reducible have hM2 := Mem.later hb (Mem.drew (Mem.drew (hM.out))) | with_reducible have hM2 := Mem.later hb (Mem.drew (Mem.al (Mem.drew (hM.out)) _ _)) | with_reducible have hM2 := Mem.later hb (Mem.drew (Mem.al (Mem.al (Mem.al (hM.out) _ _) _ _) _ _)) | with_reducible have hM2 := Mem.later hb (Mem.al (Mem.al (Mem.drew (Mem.al (hM.out) _ _)) _ _) _ _) | with_reducible have hM2 := Mem.later hb (Mem.drew (Mem.al (Mem.drew (Mem.al (hM.out) _ _)) _ _)) | with_reducible have hM2 := Mem.later hb (Mem.al (Mem.al (Mem.al (Mem.al (Mem.al (hM.out) _ _) _ _) _ _) _ _) _ _) | with_reducible have hM2 := Mem.later hb (Mem.al (Mem.al (Mem.al (Mem.al (Mem.al (Mem.al (hM.out) _ _) _ _) _ _) _ _) _ _) _ _) | with_reducible have hM2 := Mem.later hb (Mem.al (Mem.al (Mem.al (Mem.al (Mem.al (Mem.al (Mem.al (hM.out) _ _) _ _) _ _) _ _) _ _) _ _) _ _) | with_reducible have hM2 := Mem.later hb (Mem.al (Mem.al (Mem.al (Mem.al (Mem.al (Mem.al (Mem.al (Mem.al (hM.out) _ _) _ _) _ _) _ _) _ _) _ _) _ _) _ _)); (try simp only [World.size_alloc, size_drew] at hM2); clear hM; have hM := Lib.hid hM2; clear hF; have hF := hM2; (try simp only [Mem, cellsAt, World.size_alloc, Nat.zero_add, Nat.reduceAdd, and_true] at hF); clear hM2; clear hb; clear hF; have hF : True := trivial))
  have hMD := hM.out.drew
  have hs3 : w.heap.size ≤ w3.heap.size := hB.size
  refine wp_fork (fun y => Mem y [(g6, b8l I 32), (w.heap.size, hdL hd)] ∧ Below w3.heap.size w3 y ∧ y.cell? ⟨w.heap.size, 66, none⟩ = some (.int .u32 hd.b)) [4, 6, 7] (.node 0 (.node 1 (.node 2 (.node 3 (.fork 4 6 (.node 5 (.node 6 (.node 7 .leaf))) (.node 4 (.node 5 (.node 7 .leaf)))))))) (by kernel_rfl) (by kernel_rfl) ⟨hMD, (Below.refl _ _).drew, cellsAt_get (Mem.get hMD (by simp)) (hdL_b hd)⟩ (fun hHeld => ?_)
  (refine wpF_yield rfl (by rfl) (Go.yieldsIf_load_mid (by rfl) 24 (.tmp 6) rfl g6 0 rfl (b8l I 32) _ (fun w' h => rangeAt_of (Mem.get h.1 (by simp))) Tryd.underlying24 rfl (by rw [b8l_len]; kernel_rfl)) (by assumption) ?_; (try simp only [Act.put, List.setIfInBounds_toArray, List.set_cons_zero, List.set_cons_succ]))
  (refine wpF_yield rfl (by rfl) (Go.yieldsIf_load_mid (by rfl) 26 (.tmp 3) rfl w.heap.size 0 rfl (hdL hd) _ (fun w' h => rangeAt_of (Mem.get h.1 (by simp))) Tryd.underlying26 rfl (by rw [hdL_len]; kernel_rfl)) (by assumption) ?_; (try simp only [Act.put, List.setIfInBounds_toArray, List.set_cons_zero, List.set_cons_succ]))
  iterate 2 (refine wpF_take rfl (by rfl) (by rfl) (by intro w' hSw; (try dsimp only [Mem, cellsAt] at hSw); go_simp; (try with_reducible rfl)) (by assumption) ?_; (try simp only [Act.put, List.setIfInBounds_toArray, List.set_cons_zero, List.set_cons_succ]))
  (refine wpF_both2 27 9 28 (fun _ => ndV (Nd.mk I hd (-1) 0 wk)) (fun v _ => v = uV wk) (fun v y => ∃ gn, v = .pointer (some ⟨gn, 0, none⟩) ∧ Mem y [(gn, ndL nd0)] ∧ w3.heap.size ≤ gn) rfl rfl rfl (by rfl) (by rfl) (by rfl) rfl (by decide) (by decide) (fun v x y h _ => h) (by rintro v x y ⟨gn, h1, h2, h3⟩ hb; exact ⟨gn, h1, Mem.later hb h2, h3⟩) (fun x y h hb => ⟨Mem.later hb h.1, h.2.1.trans (hb.mono h.2.1.size), cellsAt_get (Mem.get (Mem.later hb h.1) (by simp)) (hdL_b hd)⟩) hHeld ?_ ?_ ?_ ?_ (fun v x hv => ?_) (fun v u x hv => ?_) ?_)
  · intro x hx K hK
    go_simp
    (with_reducible refine (HWk.out _).mono ?_)
    rintro e x1 ⟨rfl, hb⟩
    exact hK _ _ rfl hb
  · intro u x hx K hK
    go_simp
    (with_reducible refine (HWk.out _).mono ?_)
    rintro e x1 ⟨rfl, hb⟩
    exact hK _ _ rfl hb
  · intro x hx K hK
    go_simp
    exact hK _ _ ⟨x.heap.size, rfl, Mem.al (mem_nil x) (ndL nd0) 44, hx.2.1.size⟩ (below_alloc _ _)
  · intro u x hx K hK
    go_simp
    exact hK _ _ ⟨x.heap.size, rfl, Mem.al (mem_nil x) (ndL nd0) 44, hx.2.1.size⟩ (below_alloc _ _)
  · subst hv
    exact .inl ⟨by rfl, fun y _ => run_buildN rfl _ build_nd (by simp only [List.map_toArray, List.map_cons, List.map_nil, Act.eval]; rfl) y⟩
  · subst hv
    exact .inl ⟨by rfl, fun y _ => run_buildN rfl _ build_nd (by simp only [List.map_toArray, List.map_cons, List.map_nil, Act.eval]; rfl) y⟩
  intro v u w4 hv ⟨gn, hu, hmn, hgn⟩ hb4 hHeld2
  subst hv
  subst hu
  clear hHeld hMD
  (try simp only [Act.put, List.setIfInBounds_toArray, List.set_cons_zero, List.set_cons_succ])
  (refine wpF_step rfl (by rfl) (fun K hK => ?_))
  (refine step_storeW rfl 44 (.tmp 9) (.tmp 28) rfl gn 0 (ndL (Nd.mk I hd (-1) 0 wk)).toArray rfl rfl (by rw [nA_size]; exact thereW hmn.1 (by rw [ndL_len]; exact Nat.le_refl _)) (by rw [nA_size]; kernel_rfl) (Go.all_oneCell_toArray (ndL_one _)) ?_)
  have hgw : w.heap.size ≤ gn := by omega
  have hlt6 : ∀ p ∈ [(g6, b8l I 32), (w.heap.size, hdL hd)], p.1 ≠ gn := fun p hp => by have := Mem.lt hM.out p hp; omega
  have hm5 : Mem (w4.setCells gn 0 (ndL (Nd.mk I hd (-1) 0 wk))) [(gn, ndL (Nd.mk I hd (-1) 0 wk)), (g6, b8l I 32), (w.heap.size, hdL hd)] := by
    have := Mem.part hlt6 (ndL (Nd.mk I hd (-1) 0 wk)) 0 (ndL nd0) w4 (by rw [ndL_len, ndL_len]; omega) ⟨hmn.1, hHeld2.1⟩
    rwa [show spl (ndL nd0) 0 (ndL (Nd.mk I hd (-1) 0 wk)) = ndL (Nd.mk I hd (-1) 0 wk) by simp [spl, ndL_len]] at this
  have hbS : Below w3.heap.size w3 (w4.setCells gn 0 (ndL (Nd.mk I hd (-1) 0 wk))) := bl_setCellsW hgn _ _ _ hHeld2.2.1
  have hbW : Below w.heap.size w (w4.setCells gn 0 (ndL (Nd.mk I hd (-1) 0 wk))) := bl_then hB hbS
  obtain ⟨W5, hW5⟩ : ∃ y, w4.setCells gn 0 (ndL (Nd.mk I hd (-1) 0 wk)) = y := ⟨_, rfl⟩
  rw [hW5] at hm5 hbW hbS
  simp only [List.toList_toArray, hW5]
  refine hK.out _ _ (fun y => y = W5) (fun _ h => by subst h; exact ⟨hm5.2, hbS, cellsAt_get (Mem.get hm5 (by simp)) (hdL_b hd)⟩) rfl (fun _ => ?_)
  clear hK K
  (try simp only [Act.put, List.setIfInBounds_toArray, List.set_cons_zero, List.set_cons_succ])
  (refine wpF_nil ?_)
  clear hW5 hHeld2 hmn hgn hb4 hM hB hbS hs3
  have hM := Lib.hid hm5
  have hB := hbW
  have HGN := Lib.hid hgw
  have HLT6 := Lib.hid hlt6
  clear hm5 hbW hgw hlt6
  go_wp2_with (first |
    (go_at_call 16; (with_reducible refine (HLn.out _ hB).mono ?_); rintro e w6 ⟨rfl, hb⟩; have hB : Below w.heap.size w w6 := (by refine bl_then ?_ hb; (repeat (first | exact hB | refine bl_al ?_ _ | refine Below.setCell ?_ (by first | exact hgs | exact Nat.le_succ_of_le hgs | exact hgs2 | exact hgs3) _ | refine Below.drew ?_ | refine bl_drewN ?_ _))); (first | with_reducible have hM2 := Mem.later hb (hM.out) | with_reducible have hM2 := Mem.later hb (Mem.al (hM.out) _ _) | with_reducible have hM2 := Mem.later hb (Mem.al (Mem.al (hM.out) _ _) _ _) | with_reducible have hM2 := Mem.later hb (Mem.al (Mem.al (Mem.al (hM.out) _ _) _ _) _ _) | with_reducible have hM2 := Mem.later hb (Mem.al (Mem.al (Mem.al (Mem.al (hM.out) _ _) _ _) _ _) _ _) | with_reducible have hM2 := Mem.later hb (Mem.drew (hM.out)) | with_reducible have hM2 := Mem.later hb (Mem.drew (Mem.al (hM.out) _ _)) | with_reducible have hM2 := Mem.later hb (Mem.al (Mem.drew (hM.out)) _ _) | with_reducible have hM2 := Mem.later hb (Mem.al (Mem.drew (Mem.al (hM.out) _ _)) _ _) | with_reducible have hM2 := Mem.later hb (Mem.drew (Mem.al (Mem.al (hM.out) _ _) _ _)) | with_reducible have hM2 := Mem.later hb (Mem.al (Mem.al (Mem.drew (hM.out)) _ _) _ _) | with_reducible have hM2 := Mem.later hb (Mem.drew (Mem.drew (hM.out))) | with_reducible have hM2 := Mem.later hb (Mem.drew (Mem.al (Mem.drew (hM.out)) _ _)) | with_reducible have hM2 := Mem.later hb (Mem.drew (Mem.al (Mem.al (Mem.al (hM.out) _ _) _ _) _ _)) | with_reducible have hM2 := Mem.later hb (Mem.al (Mem.al (Mem.drew (Mem.al (hM.out) _ _)) _ _) _ _) | with_reducible have hM2 := Mem.later hb (Mem.drew (Mem.al (Mem.drew (Mem.al (hM.out) _ _)) _ _)) | with_reducible have hM2 := Mem.later hb (Mem.al (Mem.al (Mem.al (Mem.al (Mem.al (hM.out) _ _) _ _) _ _) _ _) _ _) | with_reducible have hM2 := Mem.later hb (Mem.al (Mem.al (Mem.al (Mem.al (Mem.al (Mem.al (hM.out) _ _) _ _) _ _) _ _) _ _) _ _) | with_reducible have hM2 := Mem.later hb (Mem.al (Mem.al (Mem.al (Mem.al (Mem.al (Mem.al (Mem.al (hM.out) _ _) _ _) _ _) _ _) _ _) _ _) _ _) | with_reducible have hM2 := Mem.later hb (Mem.al (Mem.al (Mem.al (Mem.al (Mem.al (Mem.al (Mem.al (Mem.al (hM.out) _ _) _ _) _ _) _ _) _ _) _ _) _ _) _ _)); (try simp only [World.size_alloc, size_drew] at hM2); clear hM; have hM := Lib.hid hM2; clear hF; have hF := hM2; (try simp only [Mem, cellsAt, World.size_alloc, Nat.zero_add, Nat.reduceAdd, and_true] at hF); clear hM2; clear hb; clear hF; have hF : True := trivial) |
    ((with_reducible_and_instances refine at_load 34 ?_); refine Go.wpList_load_mid rfl 24 (.tmp 34) rfl w.heap.size 1 rfl (b8l hd.p 32) _ (hd_range_p (Mem.get hM.out (by simp))) Tryd.underlying24 rfl (by rw [b8l_len]; kernel_rfl) ?_) |
    (go_at_call 13; (with_reducible refine (HFp.out _ hB).mono ?_); rintro e w7 ⟨rfl, hb⟩; have hB : Below w.heap.size w w7 := (by refine bl_then ?_ hb; (repeat (first | exact hB | refine bl_al ?_ _ | refine Below.setCell ?_ (by first | exact hgs | exact Nat.le_succ_of_le hgs | exact hgs2 | exact hgs3) _ | refine Below.drew ?_ | refine bl_drewN ?_ _))); (first | with_reducible have hM2 := Mem.later hb (hM.out) | with_reducible have hM2 := Mem.later hb (Mem.al (hM.out) _ _) | with_reducible have hM2 := Mem.later hb (Mem.al (Mem.al (hM.out) _ _) _ _) | with_reducible have hM2 := Mem.later hb (Mem.al (Mem.al (Mem.al (hM.out) _ _) _ _) _ _) | with_reducible have hM2 := Mem.later hb (Mem.al (Mem.al (Mem.al (Mem.al (hM.out) _ _) _ _) _ _) _ _) | with_reducible have hM2 := Mem.later hb (Mem.drew (hM.out)) | with_reducible have hM2 := Mem.later hb (Mem.drew (Mem.al (hM.out) _ _)) | with_reducible have hM2 := Mem.later hb (Mem.al (Mem.drew (hM.out)) _ _) | with_reducible have hM2 := Mem.later hb (Mem.al (Mem.drew (Mem.al (hM.out) _ _)) _ _) | with_reducible have hM2 := Mem.later hb (Mem.drew (Mem.al (Mem.al (hM.out) _ _) _ _)) | with_reducible have hM2 := Mem.later hb (Mem.al (Mem.al (Mem.drew (hM.out)) _ _) _ _) | with_reducible have hM2 := Mem.later hb (Mem.drew (Mem.drew (hM.out))) | with_reducible have hM2 := Mem.later hb (Mem.drew (Mem.al (Mem.drew (hM.out)) _ _)) | with_reducible have hM2 := Mem.later hb (Mem.drew (Mem.al (Mem.al (Mem.al (hM.out) _ _) _ _) _ _)) | with_reducible have hM2 := Mem.later hb (Mem.al (Mem.al (Mem.drew (Mem.al (hM.out) _ _)) _ _) _ _) | with_reducible have hM2 := Mem.later hb (Mem.drew (Mem.al (Mem.drew (Mem.al (hM.out) _ _)) _ _)) | with_reducible have hM2 := Mem.later hb (Mem.al (Mem.al (Mem.al (Mem.al (Mem.al (hM.out) _ _) _ _) _ _) _ _) _ _) | with_reducible have hM2 := Mem.later hb (Mem.al (Mem.al (Mem.al (Mem.al (Mem.al (Mem.al (hM.out) _ _) _ _) _ _) _ _) _ _) _ _) | with_reducible have hM2 := Mem.later hb (Mem.al (Mem.al (Mem.al (Mem.al (Mem.al (Mem.al (Mem.al (hM.out) _ _) _ _) _ _) _ _) _ _) _ _) _ _) | with_reducible have hM2 := Mem.later hb (Mem.al (Mem.al (Mem.al (Mem.al (Mem.al (Mem.al (Mem.al (Mem.al (hM.out) _ _) _ _) _ _) _ _) _ _) _ _) _ _) _ _)); (try simp only [World.size_alloc, size_drew] at hM2); clear hM; have hM := Lib.hid hM2; clear hF; have hF := hM2; (try simp only [Mem, cellsAt, World.size_alloc, Nat.zero_add, Nat.reduceAdd, and_true] at hF); clear hM2; clear hb; clear hF; have hF : True := trivial))
  go_ret2
  exact ⟨rfl, hB⟩
theorem mem_set {w : World} {b k : Nat} {v : Value} {vs : List Value} {l : List (Nat × List Value)} (hd : ∀ p ∈ l, p.1 ≠ b) (h : Mem w ((b, vs) :: l)) : Mem (w.setCell ⟨b, k, none⟩ v) ((b, vs.set k v) :: l) :=
  ⟨⟨by simpa using h.1.1, fun i => by rw [World.frozen?_setCell]; exact h.1.2.1 i, cellsAt_set (Nat.zero_le _) h.1.2.2⟩, Mem.far hd h.2⟩
theorem ndL_set_par (I : Nat → Int) (hd : Hd) (p t k v : Int) : (ndL (Nd.mk I hd p t k)).set 100 (.int .i64 v) = ndL (Nd.mk I hd v t k) := by rfl
theorem ndL_set_ht (I : Nat → Int) (hd : Hd) (p t k v : Int) : (ndL (Nd.mk I hd p t k)).set 101 (.int .i64 v) = ndL (Nd.mk I hd p v k) := by rfl
theorem spl_w (I : Nat → Int) (hd : Hd) (p t k s : Int) : spl (ndL (Nd.mk I hd p t k)) 102 (uL s) = ndL (Nd.mk I hd p t s) := by rfl
theorem uL_one (n : Int) : ∀ u ∈ uL n, u.oneCell' = true := by
  intro u hu
  simp only [uL, List.mem_cons, List.not_mem_nil, or_false] at hu
  rcases hu with rfl | rfl | rfl | rfl <;> rfl
theorem there_w {w : World} {b : Nat} {x : Nd} {s : Int} (h : b < w.heap.size ∧ (∀ i, w.frozen? ⟨b, i, none⟩ = false) ∧ cellsAt w b 0 (ndL x)) : w.there b 102 (uL s).toArray.size := by
  intro k hk
  rw [List.size_toArray, uL_len] at hk
  obtain ⟨u, hu⟩ : ∃ u, (ndL x)[102 + k]? = some u := ⟨_, List.getElem?_eq_getElem (by rw [ndL_len]; omega)⟩
  exact ⟨by rw [cellsAt_get h.2.2 hu]; rfl, h.2.1 _⟩

theorem tree_len {B : Nat} {w : World} {g : Nat} {most best : Int} {l : List Nd} {x : Nd} (h : TreeAt B w g most best (l ++ [x])) : ∃ ao cap, w.cell? ⟨g, 2, none⟩ = some (.slice ao (l.length + 1) cap) := by
  obtain ⟨ao, cap, r, es, clk, hg, _⟩ := h
  rw [List.length_append] at hg
  exact ⟨ao, cap, obj_cell (i := 2) hg rfl⟩

set_option maxRecDepth 100000 in
set_option maxHeartbeats 8000000 in
/-- the first one -/
theorem tadd_first (B : Nat) (g : Nat) (n : Nat) (w : World) (I : Nat → Int) (hd : Hd) (wk : Int)
    (HId : Hid (∀ x, Below w.heap.size w x → Calls Tryd.prog 14 #[hdV hd] x fun e w' => e = .returned (arr32 I) ∧ Below x.heap.size x w'))
    (HWk : Hid (∀ x, Calls Tryd.prog 20 #[.int .u32 hd.b] x fun e w' => e = .returned (uV wk) ∧ Below x.heap.size x w'))
    (HLn : Hid (∀ x, Below w.heap.size w x → Calls Tryd.prog 16 #[.pointer (some ⟨g, 0, none⟩)] x fun e w' => e = .returned (.int .i64 (n : Int)) ∧ Below x.heap.size x w'))
    (most best best2 : Int) (l : List Nd) (hlx : l.length + 1 = n + 1) (HBW : Hid (B ≤ w.heap.size)) (ao2 : Option Addr) (cap : Nat) (hn0 : n ≤ 1000)
    (HC2 : Hid (∀ x, Below w.heap.size w x → x.cell? ⟨g, 2, none⟩ = some (.slice ao2 n cap))) (HC0 : Hid (∀ x, Below w.heap.size w x → x.cell? ⟨g, 0, none⟩ = some (.int .i64 most)))
    (HFd : Hid (∀ x, Below w.heap.size w x → Calls Tryd.prog 13 #[.pointer (some ⟨g, 0, none⟩), arr32 I] x fun e w' => e = .returned (.tuple #[.int .i64 0, .bool false]) ∧ Below x.heap.size x w'))
    (X : Nd) (HKp : Hid (∀ x, Below w.heap.size w x → Calls Tryd.prog 23 #[.pointer (some ⟨g, 0, none⟩), ndV X] x fun e w' => e = .returned (.tuple #[]) ∧ TreeAt B w' g most best2 (l ++ [X]) ∧ Below B x w' ∧ KeepT x w')) (hX : X = Nd.mk I hd (-1) 0 wk) (h00 : n = 0) :
    Calls Tryd.prog 10 #[.pointer (some ⟨g, 0, none⟩), hdV hd] w fun e w' => (most ≤ (n : Int) ∧ e = .returned (.tuple #[.int .i64 (-1), .int .i64 12]) ∧ Below w.heap.size w w') ∨ ((n : Int) < most ∧ e = .returned (.tuple #[.int .i64 (n : Int), .int .i64 0]) ∧ TreeAt B w' g most best2 (l ++ [X]) ∧ Below B w w' ∧ KeepT w w') := by
  have hM := Lib.hid (Mem.al (mem_nil w) (hdL hd) 26)
  have hB := bl_al (Below.refl w.heap.size w) (.cells (hdL hd).toArray 26)
  have hF : True := trivial
  have hz : ∀ y : World, (zeroValue 44).run Tryd.prog y = .ok (.agg (ndL nd0).toArray) y := fun y => by kernel_rfl
  have hcb := hdL_b hd
  have k1 : (n : Int) + 1 - 1 = (n : Int) := by omega
  have k2 : IntKind.i64.wrap (n : Int) = (n : Int) := by rw [IntKind.wrap_i64]; omega
  have k3 : ¬ (0 : Int) < (n : Int) := by omega
  have HX := Lib.hid hX
  clear hn0 h00 hX
  go_enter Tryd.func10, Tryd.ntmps10
  go_wp2_with (first |
    ((with_reducible_and_instances refine at_load 3 ?_); refine Go.wpList_load_mid rfl 26 (.tmp 3) rfl w.heap.size 0 rfl (hdL hd) _ (rangeAt_of (Mem.get hM.out (by simp))) Tryd.underlying26 rfl (by rw [hdL_len]; kernel_rfl) ?_) |
    (go_at_call 14; (with_reducible refine (HId.out _ hB).mono ?_); rintro e w1 ⟨rfl, hb⟩; have hB : Below w.heap.size w w1 := (by refine bl_then ?_ hb; (repeat (first | exact hB | refine bl_al ?_ _ | refine Below.setCell ?_ (by first | exact hgs | exact Nat.le_succ_of_le hgs | exact hgs2 | exact hgs3) _ | refine Below.drew ?_ | refine bl_drewN ?_ _))); (first | with_reducible have hM2 := Mem.later hb (hM.out) | with_reducible have hM2 := Mem.later hb (Mem.al (hM.out) _ _) | with_reducible have hM2 := Mem.later hb (Mem.al (Mem.al (hM.out) _ _) _ _) | with_reducible have hM2 := Mem.later hb (Mem.al (Mem.al (Mem.al (hM.out) _ _) _ _) _ _) | with_reducible have hM2 := Mem.later hb (Mem.al (Mem.al (Mem.al (Mem.al (hM.out) _ _) _ _) _ _) _ _) | with_reducible have hM2 := Mem.later hb (Mem.drew (hM.out)) | with_reducible have hM2 := Mem.later hb (Mem.drew (Mem.al (hM.out) _ _)) | with_reducible have hM2 := Mem.later hb (Mem.al (Mem.drew (hM.out)) _ _) | with_reducible have hM2 := Mem.later hb (Mem.al (Mem.drew (Mem.al (hM.out) _ _)) _ _) | with_reducible have hM2 := Mem.later hb (Mem.drew (Mem.al (Mem.al (hM.out) _ _) _ _)) | with_reducible have hM2 := Mem.later hb (Mem.al (Mem.al (Mem.drew (hM.out)) _ _) _ _) | with_reducible have hM2 := Mem.later hb (Mem.drew (Mem.drew (hM.out))) | with_reducible have hM2 := Mem.later hb (Mem.drew (Mem.al (Mem.drew (hM.out)) _ _)) | with_reducible have hM2 := Mem.later hb (Mem.drew (Mem.al (Mem.al (Mem.al (hM.out) _ _) _ _) _ _)) | with_reducible have hM2 := Mem.later hb (Mem.al (Mem.al (Mem.drew (Mem.al (hM.out) _ _)) _ _) _ _) | with_reducible have hM2 := Mem.later hb (Mem.drew (Mem.al (Mem.drew (Mem.al (hM.out) _ _)) _ _)) | with_reducible have hM2 := Mem.later hb (Mem.al (Mem.al (Mem.al (Mem.al (Mem.al (hM.out) _ _) _ _) _ _) _ _) _ _) | with_reducible have hM2 := Mem.later hb (Mem.al (Mem.al (Mem.al (Mem.al (Mem.al (Mem.al (hM.out) _ _) _ _) _ _) _ _) _ _) _ _) | with_reducible have hM2 := Mem.later hb (Mem.al (Mem.al (Mem.al (Mem.al (Mem.al (Mem.al (Mem.al (hM.out) _ _) _ _) _ _) _ _) _ _) _ _) _ _) | with_reducible have hM2 := Mem.later hb (Mem.al (Mem.al (Mem.al (Mem.al (Mem.al (Mem.al (Mem.al (Mem.al (hM.out) _ _) _ _) _ _) _ _) _ _) _ _) _ _) _ _)); (try simp only [World.size_alloc, size_drew] at hM2); clear hM; have hM := Lib.hid hM2; clear hF; have hF := hM2; (try simp only [Mem, cellsAt, World.size_alloc, Nat.zero_add, Nat.reduceAdd, and_true] at hF); clear hM2; clear hb; clear hF; have hF : True := trivial) |
    ((with_reducible_and_instances refine at_store 6 ?_); refine wpList_store_newV rfl (.tmp 6) (.tmp 14) 24 rfl _ (b8l I 32) _ Tryd.underlying24 rfl (by rw [b8l_len]; kernel_rfl) (by rw [b8l_len]; rfl) (b8l_one I 32) rfl (rfl) hM.out ?_; intro W2 hMW hbW; have hBW := bl_then hB hbW; obtain ⟨g6, hg6⟩ : ∃ b, w1.heap.size = b := ⟨_, rfl⟩; rw [hg6] at hMW; simp only [hg6]; clear hg6; clear hM hF hB; have hM := Lib.hid hMW; have hB := hBW; have hF : True := trivial; clear hMW hbW hBW) |
    ((with_reducible_and_instances refine at_load 6 ?_); refine Go.wpList_load_mid rfl 24 (.tmp 6) rfl g6 0 rfl (b8l I 32) _ (rangeAt_of (Mem.get hM.out (by simp))) Tryd.underlying24 rfl (by rw [b8l_len]; kernel_rfl) ?_) |
    (go_at_call 13; (with_reducible refine (HFd.out _ hB).mono ?_); rintro e w3 ⟨rfl, hb⟩; have hB : Below w.heap.size w w3 := (by refine bl_then ?_ hb; (repeat (first | exact hB | refine bl_al ?_ _ | refine Below.setCell ?_ (by first | exact hgs | exact Nat.le_succ_of_le hgs | exact hgs2 | exact hgs3) _ | refine Below.drew ?_ | refine bl_drewN ?_ _))); (first | with_reducible have hM2 := Mem.later hb (hM.out) | with_reducible have hM2 := Mem.later hb (Mem.al (hM.out) _ _) | with_reducible have hM2 := Mem.later hb (Mem.al (Mem.al (hM.out) _ _) _ _) | with_reducible have hM2 := Mem.later hb (Mem.al (Mem.al (Mem.al (hM.out) _ _) _ _) _ _) | with_reducible have hM2 := Mem.later hb (Mem.al (Mem.al (Mem.al (Mem.al (hM.out) _ _) _ _) _ _) _ _) | with_reducible have hM2 := Mem.later hb (Mem.drew (hM.out)) | with_reducible have hM2 := Mem.later hb (Mem.drew (Mem.al (hM.out) _ _)) | with_reducible have hM2 := Mem.later hb (Mem.al (Mem.drew (hM.out)) _ _) | with_reducible have hM2 := Mem.later hb (Mem.al (Mem.drew (Mem.al (hM.out) _ _)) _ _) | with_reducible have hM2 := Mem.later hb (Mem.drew (Mem.al (Mem.al (hM.out) _ _) _ _)) | with_reducible have hM2 := Mem.later hb (Mem.al (Mem.al (Mem.drew (hM.out)) _ _) _ _) | with_reducible have hM2 := Mem.later hb (Mem.drew (Mem.drew (hM.out))) | with_reducible have hM2 := Mem.later hb (Mem.drew (Mem.al (Mem.drew (hM.out)) _ _)) | with_reducible have hM2 := Mem.later hb (Mem.drew (Mem.al (Mem.al (Mem.al (hM.out) _ _) _ _) _ _)) | with_reducible have hM2 := Mem.later hb (Mem.al (Mem.al (Mem.drew (Mem.al (hM.out) _ _)) _ _) _ _) | with_reducible have hM2 := Mem.later hb (Mem.drew (Mem.al (Mem.drew (Mem.al (hM.out) _ _)) _ _)) | with_reducible have hM2 := Mem.later hb (Mem.al (Mem.al (Mem.al (Mem.al (Mem.al (hM.out) _ _) _ _) _ _) _ _) _ _) | with_reducible have hM2 := Mem.later hb (Mem.al (Mem.al (Mem.al (Mem.al (Mem.al (Mem.al (hM.out) _ _) _ _) _ _) _ _) _ _) _ _) | with_reducible have hM2 := Mem.later hb (Mem.al (Mem.al (Mem.al (Mem.al (Mem.al (Mem.al (Mem.al (hM.out) _ _) _ _) _ _) _ _) _ _) _ _) _ _) | with_reducible have hM2 := Mem.later hb (Mem.al (Mem.al (Mem.al (Mem.al (Mem.al (Mem.al (Mem.al (Mem.al (hM.out) _ _) _ _) _ _) _ _) _ _) _ _) _ _) _ _)); (try simp only [World.size_alloc, size_drew] at hM2); clear hM; have hM := Lib.hid hM2; clear hF; have hF := hM2; (try simp only [Mem, cellsAt, World.size_alloc, Nat.zero_add, Nat.reduceAdd, and_true] at hF); clear hM2; clear hb; clear hF; have hF : True := trivial))
  have hMD := hM.out.drew
  have hs3 : w.heap.size ≤ w3.heap.size := hB.size
  refine wp_fork (fun y => Mem y [(g6, b8l I 32), (w.heap.size, hdL hd)] ∧ Below w3.heap.size w3 y ∧ y.cell? ⟨w.heap.size, 66, none⟩ = some (.int .u32 hd.b)) [4, 6, 7] (.node 0 (.node 1 (.node 2 (.node 3 (.fork 4 6 (.node 5 (.node 6 (.node 7 .leaf))) (.node 4 (.node 5 (.node 7 .leaf)))))))) (by kernel_rfl) (by kernel_rfl) ⟨hMD, (Below.refl _ _).drew, cellsAt_get (Mem.get hMD (by simp)) (hdL_b hd)⟩ (fun hHeld => ?_)
  (refine wpF_yield rfl (by rfl) (Go.yieldsIf_load_mid (by rfl) 24 (.tmp 6) rfl g6 0 rfl (b8l I 32) _ (fun w' h => rangeAt_of (Mem.get h.1 (by simp))) Tryd.underlying24 rfl (by rw [b8l_len]; kernel_rfl)) (by assumption) ?_; (try simp only [Act.put, List.setIfInBounds_toArray, List.set_cons_zero, List.set_cons_succ]))
  (refine wpF_yield rfl (by rfl) (Go.yieldsIf_load_mid (by rfl) 26 (.tmp 3) rfl w.heap.size 0 rfl (hdL hd) _ (fun w' h => rangeAt_of (Mem.get h.1 (by simp))) Tryd.underlying26 rfl (by rw [hdL_len]; kernel_rfl)) (by assumption) ?_; (try simp only [Act.put, List.setIfInBounds_toArray, List.set_cons_zero, List.set_cons_succ]))
  iterate 2 (refine wpF_take rfl (by rfl) (by rfl) (by intro w' hSw; (try dsimp only [Mem, cellsAt] at hSw); go_simp; (try with_reducible rfl)) (by assumption) ?_; (try simp only [Act.put, List.setIfInBounds_toArray, List.set_cons_zero, List.set_cons_succ]))
  (refine wpF_both2 27 9 28 (fun _ => ndV (Nd.mk I hd (-1) 0 wk)) (fun v _ => v = uV wk) (fun v y => ∃ gn, v = .pointer (some ⟨gn, 0, none⟩) ∧ Mem y [(gn, ndL nd0)] ∧ w3.heap.size ≤ gn) rfl rfl rfl (by rfl) (by rfl) (by rfl) rfl (by decide) (by decide) (fun v x y h _ => h) (by rintro v x y ⟨gn, h1, h2, h3⟩ hb; exact ⟨gn, h1, Mem.later hb h2, h3⟩) (fun x y h hb => ⟨Mem.later hb h.1, h.2.1.trans (hb.mono h.2.1.size), cellsAt_get (Mem.get (Mem.later hb h.1) (by simp)) (hdL_b hd)⟩) hHeld ?_ ?_ ?_ ?_ (fun v x hv => ?_) (fun v u x hv => ?_) ?_)
  · intro x hx K hK
    go_simp
    (with_reducible refine (HWk.out _).mono ?_)
    rintro e x1 ⟨rfl, hb⟩
    exact hK _ _ rfl hb
  · intro u x hx K hK
    go_simp
    (with_reducible refine (HWk.out _).mono ?_)
    rintro e x1 ⟨rfl, hb⟩
    exact hK _ _ rfl hb
  · intro x hx K hK
    go_simp
    exact hK _ _ ⟨x.heap.size, rfl, Mem.al (mem_nil x) (ndL nd0) 44, hx.2.1.size⟩ (below_alloc _ _)
  · intro u x hx K hK
    go_simp
    exact hK _ _ ⟨x.heap.size, rfl, Mem.al (mem_nil x) (ndL nd0) 44, hx.2.1.size⟩ (below_alloc _ _)
  · subst hv
    exact .inl ⟨by rfl, fun y _ => run_buildN rfl _ build_nd (by simp only [List.map_toArray, List.map_cons, List.map_nil, Act.eval]; rfl) y⟩
  · subst hv
    exact .inl ⟨by rfl, fun y _ => run_buildN rfl _ build_nd (by simp only [List.map_toArray, List.map_cons, List.map_nil, Act.eval]; rfl) y⟩
  intro v u w4 hv ⟨gn, hu, hmn, hgn⟩ hb4 hHeld2
  subst hv
  subst hu
  clear hHeld hMD
  (try simp only [Act.put, List.setIfInBounds_toArray, List.set_cons_zero, List.set_cons_succ])
  (refine wpF_step rfl (by rfl) (fun K hK => ?_))
  (refine step_storeW rfl 44 (.tmp 9) (.tmp 28) rfl gn 0 (ndL (Nd.mk I hd (-1) 0 wk)).toArray rfl rfl (by rw [nA_size]; exact thereW hmn.1 (by rw [ndL_len]; exact Nat.le_refl _)) (by rw [nA_size]; kernel_rfl) (Go.all_oneCell_toArray (ndL_one _)) ?_)
  have hgw : w.heap.size ≤ gn := by omega
  have hlt6 : ∀ p ∈ [(g6, b8l I 32), (w.heap.size, hdL hd)], p.1 ≠ gn := fun p hp => by have := Mem.lt hM.out p hp; omega
  have hm5 : Mem (w4.setCells gn 0 (ndL (Nd.mk I hd (-1) 0 wk))) [(gn, ndL (Nd.mk I hd (-1) 0 wk)), (g6, b8l I 32), (w.heap.size, hdL hd)] := by
    have := Mem.part hlt6 (ndL (Nd.mk I hd (-1) 0 wk)) 0 (ndL nd0) w4 (by rw [ndL_len, ndL_len]; omega) ⟨hmn.1, hHeld2.1⟩
    rwa [show spl (ndL nd0) 0 (ndL (Nd.mk I hd (-1) 0 wk)) = ndL (Nd.mk I hd (-1) 0 wk) by simp [spl, ndL_len]] at this
  have hbS : Below w3.heap.size w3 (w4.setCells gn 0 (ndL (Nd.mk I hd (-1) 0 wk))) := bl_setCellsW hgn _ _ _ hHeld2.2.1
  have hbW : Below w.heap.size w (w4.setCells gn 0 (ndL (Nd.mk I hd (-1) 0 wk))) := bl_then hB hbS
  obtain ⟨W5, hW5⟩ : ∃ y, w4.setCells gn 0 (ndL (Nd.mk I hd (-1) 0 wk)) = y := ⟨_, rfl⟩
  rw [hW5] at hm5 hbW hbS
  simp only [List.toList_toArray, hW5]
  refine hK.out _ _ (fun y => y = W5) (fun _ h => by subst h; exact ⟨hm5.2, hbS, cellsAt_get (Mem.get hm5 (by simp)) (hdL_b hd)⟩) rfl (fun _ => ?_)
  clear hK K
  (try simp only [Act.put, List.setIfInBounds_toArray, List.set_cons_zero, List.set_cons_succ])
  (refine wpF_nil ?_)
  clear hW5 hHeld2 hmn hgn hb4 hM hB hbS hs3
  have hM := Lib.hid hm5
  have hB := hbW
  have HGN := Lib.hid hgw
  have HLT6 := Lib.hid hlt6
  clear hm5 hbW hgw hlt6
  rw [← HX.out] at hM
  go_wp2_with (first | (go_at_call 16; (with_reducible refine (HLn.out _ hB).mono ?_); rintro e w6 ⟨rfl, hb⟩; have hB : Below w.heap.size w w6 := (by refine bl_then ?_ hb; (repeat (first | exact hB | refine bl_al ?_ _ | refine Below.setCell ?_ (by first | exact hgs | exact Nat.le_succ_of_le hgs | exact hgs2 | exact hgs3) _ | refine Below.drew ?_ | refine bl_drewN ?_ _))); (first | with_reducible have hM2 := Mem.later hb (hM.out) | with_reducible have hM2 := Mem.later hb (Mem.al (hM.out) _ _) | with_reducible have hM2 := Mem.later hb (Mem.al (Mem.al (hM.out) _ _) _ _) | with_reducible have hM2 := Mem.later hb (Mem.al (Mem.al (Mem.al (hM.out) _ _) _ _) _ _) | with_reducible have hM2 := Mem.later hb (Mem.al (Mem.al (Mem.al (Mem.al (hM.out) _ _) _ _) _ _) _ _) | with_reducible have hM2 := Mem.later hb (Mem.drew (hM.out)) | with_reducible have hM2 := Mem.later hb (Mem.drew (Mem.al (hM.out) _ _)) | with_reducible have hM2 := Mem.later hb (Mem.al (Mem.drew (hM.out)) _ _) | with_reducible have hM2 := Mem.later hb (Mem.al (Mem.drew (Mem.al (hM.out) _ _)) _ _) | with_reducible have hM2 := Mem.later hb (Mem.drew (Mem.al (Mem.al (hM.out) _ _) _ _)) | with_reducible have hM2 := Mem.later hb (Mem.al (Mem.al (Mem.drew (hM.out)) _ _) _ _) | with_reducible have hM2 := Mem.later hb (Mem.drew (Mem.drew (hM.out))) | with_reducible have hM2 := Mem.later hb (Mem.drew (Mem.al (Mem.drew (hM.out)) _ _)) | with_reducible have hM2 := Mem.later hb (Mem.drew (Mem.al (Mem.al (Mem.al (hM.out) _ _) _ _) _ _)) | with_reducible have hM2 := Mem.later hb (Mem.al (Mem.al (Mem.drew (Mem.al (hM.out) _ _)) _ _) _ _) | with_reducible have hM2 := Mem.later hb (Mem.drew (Mem.al (Mem.drew (Mem.al (hM.out) _ _)) _ _)) | with_reducible have hM2 := Mem.later hb (Mem.al (Mem.al (Mem.al (Mem.al (Mem.al (hM.out) _ _) _ _) _ _) _ _) _ _) | with_reducible have hM2 := Mem.later hb (Mem.al (Mem.al (Mem.al (Mem.al (Mem.al (Mem.al (hM.out) _ _) _ _) _ _) _ _) _ _) _ _) | with_reducible have hM2 := Mem.later hb (Mem.al (Mem.al (Mem.al (Mem.al (Mem.al (Mem.al (Mem.al (hM.out) _ _) _ _) _ _) _ _) _ _) _ _) _ _) | with_reducible have hM2 := Mem.later hb (Mem.al (Mem.al (Mem.al (Mem.al (Mem.al (Mem.al (Mem.al (Mem.al (hM.out) _ _) _ _) _ _) _ _) _ _) _ _) _ _) _ _)); (try simp only [World.size_alloc, size_drew] at hM2); clear hM; have hM := Lib.hid hM2; clear hF; have hF := hM2; (try simp only [Mem, cellsAt, World.size_alloc, Nat.zero_add, Nat.reduceAdd, and_true] at hF); clear hM2; clear hb; clear hF; have hF : True := trivial))
  by_cases hfull : most ≤ (n : Int)
  · have hfi : decide (most ≤ (n : Int)) = true := decide_eq_true hfull
    have HFu := Lib.hid hfull
    clear hfull
    refine wp_plan (fun y => y.cell? ⟨g, 2, none⟩ = some (.slice ao2 n cap) ∧ y.cell? ⟨g, 0, none⟩ = some (.int .i64 most)) [] [0, 1, 2, 3, 4, 5, 6, 7, 8, 9, 10, 11, 12, 13] (by kernel_rfl) (by kernel_rfl) (⟨(HC2.out _ hB.drew), (HC0.out _ hB.drew)⟩) (fun hHeld => ?_)
    iterate 14 (refine wpT_take rfl (by rfl) (by rfl) (by intro w' hSw; (try dsimp only [Mem, cellsAt] at hSw); go_simp; (try with_reducible rfl)) (by assumption) ?_; (try simp only [Act.put, List.setIfInBounds_toArray, List.set_cons_zero, List.set_cons_succ]))
    (refine wpT_nil ?_)
    replace hB := hB.drew
    replace hM := Lib.hid hM.out.drew
    go_wp2
    go_ret2
    exact .inl ⟨HFu.out, rfl, hB⟩
  · have hfi : decide (most ≤ (n : Int)) = false := decide_eq_false hfull
    have HFu := Lib.hid hfull
    clear hfull
    refine wp_plan (fun y => y.cell? ⟨g, 2, none⟩ = some (.slice ao2 n cap) ∧ y.cell? ⟨g, 0, none⟩ = some (.int .i64 most)) [] [0, 1, 2, 3, 4, 5, 6, 7, 8, 9, 10, 11, 12, 13] (by kernel_rfl) (by kernel_rfl) (⟨(HC2.out _ hB.drew), (HC0.out _ hB.drew)⟩) (fun hHeld => ?_)
    iterate 14 (refine wpT_take rfl (by rfl) (by rfl) (by intro w' hSw; (try dsimp only [Mem, cellsAt] at hSw); go_simp; (try with_reducible rfl)) (by assumption) ?_; (try simp only [Act.put, List.setIfInBounds_toArray, List.set_cons_zero, List.set_cons_succ]))
    (refine wpT_nil ?_)
    replace hB := hB.drew
    replace hM := Lib.hid hM.out.drew
    go_wp2_with (first |
      ((with_reducible_and_instances refine at_load 9 ?_); refine Go.wpList_load_mid rfl 44 (.tmp 9) rfl gn 0 rfl (ndL X) _ (rangeAt_of (Mem.get hM.out (by simp))) Tryd.underlying44 rfl (by rw [ndL_len]; kernel_rfl) ?_) |
      (go_at_call 23; (with_reducible refine (HKp.out _ hB).mono ?_); rintro e w11 ⟨rfl, htr, hb, hkt⟩; have HTR := Lib.hid htr; have HKT := Lib.hid ((keepT_below hB).trans hkt); clear hkt; obtain ⟨ao3, cap3, c2⟩ := tree_len htr; rw [hlx] at c2; have hBK := hb; clear htr hb))
    go_ret2
    exact .inr ⟨by have := HFu.out; omega, rfl, HTR.out, (hB.mono HBW.out).trans (hBK.mono (Nat.le_refl _)), HKT.out⟩

set_option maxRecDepth 100000 in
set_option maxHeartbeats 8000000 in
/-- one behind a parent -/
theorem tadd_behind (B : Nat) (g : Nat) (n : Nat) (w : World) (I : Nat → Int) (hd : Hd) (wk : Int)
    (HId : Hid (∀ x, Below w.heap.size w x → Calls Tryd.prog 14 #[hdV hd] x fun e w' => e = .returned (arr32 I) ∧ Below x.heap.size x w'))
    (HWk : Hid (∀ x, Calls Tryd.prog 20 #[.int .u32 hd.b] x fun e w' => e = .returned (uV wk) ∧ Below x.heap.size x w'))
    (HLn : Hid (∀ x, Below w.heap.size w x → Calls Tryd.prog 16 #[.pointer (some ⟨g, 0, none⟩)] x fun e w' => e = .returned (.int .i64 (n : Int)) ∧ Below x.heap.size x w'))
    (most best best2 : Int) (l : List Nd) (hlx : l.length + 1 = n + 1) (HBW : Hid (B ≤ w.heap.size)) (ao2 : Option Addr) (cap : Nat) (hn0 : n ≤ 1000)
    (HC2 : Hid (∀ x, Below w.heap.size w x → x.cell? ⟨g, 2, none⟩ = some (.slice ao2 n cap))) (HC0 : Hid (∀ x, Below w.heap.size w x → x.cell? ⟨g, 0, none⟩ = some (.int .i64 most)))
    (HFd : Hid (∀ x, Below w.heap.size w x → Calls Tryd.prog 13 #[.pointer (some ⟨g, 0, none⟩), arr32 I] x fun e w' => e = .returned (.tuple #[.int .i64 0, .bool false]) ∧ Below x.heap.size x w'))
    (X : Nd) (HKp : Hid (∀ x, Below w.heap.size w x → Calls Tryd.prog 23 #[.pointer (some ⟨g, 0, none⟩), ndV X] x fun e w' => e = .returned (.tuple #[]) ∧ TreeAt B w' g most best2 (l ++ [X]) ∧ Below B x w' ∧ KeepT x w')) (gr j : Nat) (y : Nd) (hao : ao2 = some ⟨gr, 0, none⟩) (hjn : j < n) (hyt : 0 ≤ y.ht ∧ y.ht ≤ 1000) (s : Int) (cb : Bool) (hX : X = Nd.mk I hd (j : Int) (y.ht + 1) s) (h00 : 1 ≤ n)
    (HRg : Hid (∀ x, Below w.heap.size w x → x.rangeAt gr (j * 106) (ndL y)))
    (HFp : Hid (∀ x, Below w.heap.size w x → Calls Tryd.prog 13 #[.pointer (some ⟨g, 0, none⟩), arr32 hd.p] x fun e w' => e = .returned (.tuple #[.int .i64 (j : Int), .bool true]) ∧ Below x.heap.size x w'))
    (HAd : Hid (∀ x, Calls Tryd.prog 19 #[.agg (uL y.wk).toArray, .agg (uL wk).toArray] x fun e w' => e = .returned (.tuple #[.agg (uL s).toArray, .bool cb]) ∧ Below x.heap.size x w')) :
    Calls Tryd.prog 10 #[.pointer (some ⟨g, 0, none⟩), hdV hd] w fun e w' => (most ≤ (n : Int) ∧ e = .returned (.tuple #[.int .i64 (-1), .int .i64 12]) ∧ Below w.heap.size w w') ∨ ((n : Int) < most ∧ e = .returned (.tuple #[.int .i64 (n : Int), .int .i64 0]) ∧ TreeAt B w' g most best2 (l ++ [X]) ∧ Below B w w' ∧ KeepT w w') := by
  have hM := Lib.hid (Mem.al (mem_nil w) (hdL hd) 26)
  have hB := bl_al (Below.refl w.heap.size w) (.cells (hdL hd).toArray 26)
  have hF : True := trivial
  have hz : ∀ y : World, (zeroValue 44).run Tryd.prog y = .ok (.agg (ndL nd0).toArray) y := fun y => by kernel_rfl
  have hcb := hdL_b hd
  subst hao
  have k1 : (n : Int) + 1 - 1 = (n : Int) := by omega
  have k2 : IntKind.i64.wrap (n : Int) = (n : Int) := by rw [IntKind.wrap_i64]; omega
  have k3 : (0 : Int) < (n : Int) := by omega
  have k4 : (j : Int) < (n : Int) := by omega
  have k5 : IntKind.i64.wrap (y.ht + 1) = y.ht + 1 := by rw [IntKind.wrap_i64]; omega
  have HX := Lib.hid hX
  clear hn0 h00 hyt hX
  go_enter Tryd.func10, Tryd.ntmps10
  go_wp2_with (first |
    ((with_reducible_and_instances refine at_load 3 ?_); refine Go.wpList_load_mid rfl 26 (.tmp 3) rfl w.heap.size 0 rfl (hdL hd) _ (rangeAt_of (Mem.get hM.out (by simp))) Tryd.underlying26 rfl (by rw [hdL_len]; kernel_rfl) ?_) |
    (go_at_call 14; (with_reducible refine (HId.out _ hB).mono ?_); rintro e w1 ⟨rfl, hb⟩; have hB : Below w.heap.size w w1 := (by refine bl_then ?_ hb; (repeat (first | exact hB | refine bl_al ?_ _ | refine Below.setCell ?_ (by first | exact hgs | exact Nat.le_succ_of_le hgs | exact hgs2 | exact hgs3) _ | refine Below.drew ?_ | refine bl_drewN ?_ _))); (first | with_reducible have hM2 := Mem.later hb (hM.out) | with_reducible have hM2 := Mem.later hb (Mem.al (hM.out) _ _) | with_reducible have hM2 := Mem.later hb (Mem.al (Mem.al (hM.out) _ _) _ _) | with_reducible have hM2 := Mem.later hb (Mem.al (Mem.al (Mem.al (hM.out) _ _) _ _) _ _) | with_reducible have hM2 := Mem.later hb (Mem.al (Mem.al (Mem.al (Mem.al (hM.out) _ _) _ _) _ _) _ _) | with_reducible have hM2 := Mem.later hb (Mem.drew (hM.out)) | with_reducible have hM2 := Mem.later hb (Mem.drew (Mem.al (hM.out) _ _)) | with_reducible have hM2 := Mem.later hb (Mem.al (Mem.drew (hM.out)) _ _) | with_reducible have hM2 := Mem.later hb (Mem.al (Mem.drew (Mem.al (hM.out) _ _)) _ _) | with_reducible have hM2 := Mem.later hb (Mem.drew (Mem.al (Mem.al (hM.out) _ _) _ _)) | with_reducible have hM2 := Mem.later hb (Mem.al (Mem.al (Mem.drew (hM.out)) _ _) _ _) | with_reducible have hM2 := Mem.later hb (Mem.drew (Mem.drew (hM.out))) | with_reducible have hM2 := Mem.later hb (Mem.drew (Mem.al (Mem.drew (hM.out)) _ _)) | with_reducible have hM2 := Mem.later hb (Mem.drew (Mem.al (Mem.al (Mem.al (hM.out) _ _) _ _) _ _)) | with_reducible have hM2 := Mem.later hb (Mem.al (Mem.al (Mem.drew (Mem.al (hM.out) _ _)) _ _) _ _) | with_reducible have hM2 := Mem.later hb (Mem.drew (Mem.al (Mem.drew (Mem.al (hM.out) _ _)) _ _)) | with_reducible have hM2 := Mem.later hb (Mem.al (Mem.al (Mem.al (Mem.al (Mem.al (hM.out) _ _) _ _) _ _) _ _) _ _) | with_reducible have hM2 := Mem.later hb (Mem.al (Mem.al (Mem.al (Mem.al (Mem.al (Mem.al (hM.out) _ _) _ _) _ _) _ _) _ _) _ _) | with_reducible have hM2 := Mem.later hb (Mem.al (Mem.al (Mem.al (Mem.al (Mem.al (Mem.al (Mem.al (hM.out) _ _) _ _) _ _) _ _) _ _) _ _) _ _) | with_reducible have hM2 := Mem.later hb (Mem.al (Mem.al (Mem.al (Mem.al (Mem.al (Mem.al (Mem.al (Mem.al (hM.out) _ _) _ _) _ _) _ _) _ _) _ _) _ _) _ _)); (try simp only [World.size_alloc, size_drew] at hM2); clear hM; have hM := Lib.hid hM2; clear hF; have hF := hM2; (try simp only [Mem, cellsAt, World.size_alloc, Nat.zero_add, Nat.reduceAdd, and_true] at hF); clear hM2; clear hb; clear hF; have hF : True := trivial) |
    ((with_reducible_and_instances refine at_store 6 ?_); refine wpList_store_newV rfl (.tmp 6) (.tmp 14) 24 rfl _ (b8l I 32) _ Tryd.underlying24 rfl (by rw [b8l_len]; kernel_rfl) (by rw [b8l_len]; rfl) (b8l_one I 32) rfl (rfl) hM.out ?_; intro W2 hMW hbW; have hBW := bl_then hB hbW; obtain ⟨g6, hg6⟩ : ∃ b, w1.heap.size = b := ⟨_, rfl⟩; rw [hg6] at hMW; simp only [hg6]; clear hg6; clear hM hF hB; have hM := Lib.hid hMW; have hB := hBW; have hF : True := trivial; clear hMW hbW hBW) |
    ((with_reducible_and_instances refine at_load 6 ?_); refine Go.wpList_load_mid rfl 24 (.tmp 6) rfl g6 0 rfl (b8l I 32) _ (rangeAt_of (Mem.get hM.out (by simp))) Tryd.underlying24 rfl (by rw [b8l_len]; kernel_rfl) ?_) |
    (go_at_call 13; (with_reducible refine (HFd.out _ hB).mono ?_); rintro e w3 ⟨rfl, hb⟩; have hB : Below w.heap.size w w3 := (by refine bl_then ?_ hb; (repeat (first | exact hB | refine bl_al ?_ _ | refine Below.setCell ?_ (by first | exact hgs | exact Nat.le_succ_of_le hgs | exact hgs2 | exact hgs3) _ | refine Below.drew ?_ | refine bl_drewN ?_ _))); (first | with_reducible have hM2 := Mem.later hb (hM.out) | with_reducible have hM2 := Mem.later hb (Mem.al (hM.out) _ _) | with_reducible have hM2 := Mem.later hb (Mem.al (Mem.al (hM.out) _ _) _ _) | with_reducible have hM2 := Mem.later hb (Mem.al (Mem.al (Mem.al (hM.out) _ _) _ _) _ _) | with_reducible have hM2 := Mem.later hb (Mem.al (Mem.al (Mem.al (Mem.al (hM.out) _ _) _ _) _ _) _ _) | with_reducible have hM2 := Mem.later hb (Mem.drew (hM.out)) | with_reducible have hM2 := Mem.later hb (Mem.drew (Mem.al (hM.out) _ _)) | with_reducible have hM2 := Mem.later hb (Mem.al (Mem.drew (hM.out)) _ _) | with_reducible have hM2 := Mem.later hb (Mem.al (Mem.drew (Mem.al (hM.out) _ _)) _ _) | with_reducible have hM2 := Mem.later hb (Mem.drew (Mem.al (Mem.al (hM.out) _ _) _ _)) | with_reducible have hM2 := Mem.later hb (Mem.al (Mem.al (Mem.drew (hM.out)) _ _) _ _) | with_reducible have hM2 := Mem.later hb (Mem.drew (Mem.drew (hM.out))) | with_reducible have hM2 := Mem.later hb (Mem.drew (Mem.al (Mem.drew (hM.out)) _ _)) | with_reducible have hM2 := Mem.later hb (Mem.drew (Mem.al (Mem.al (Mem.al (hM.out) _ _) _ _) _ _)) | with_reducible have hM2 := Mem.later hb (Mem.al (Mem.al (Mem.drew (Mem.al (hM.out) _ _)) _ _) _ _) | with_reducible have hM2 := Mem.later hb (Mem.drew (Mem.al (Mem.drew (Mem.al (hM.out) _ _)) _ _)) | with_reducible have hM2 := Mem.later hb (Mem.al (Mem.al (Mem.al (Mem.al (Mem.al (hM.out) _ _) _ _) _ _) _ _) _ _) | with_reducible have hM2 := Mem.later hb (Mem.al (Mem.al (Mem.al (Mem.al (Mem.al (Mem.al (hM.out) _ _) _ _) _ _) _ _) _ _) _ _) | with_reducible have hM2 := Mem.later hb (Mem.al (Mem.al (Mem.al (Mem.al (Mem.al (Mem.al (Mem.al (hM.out) _ _) _ _) _ _) _ _) _ _) _ _) _ _) | with_reducible have hM2 := Mem.later hb (Mem.al (Mem.al (Mem.al (Mem.al (Mem.al (Mem.al (Mem.al (Mem.al (hM.out) _ _) _ _) _ _) _ _) _ _) _ _) _ _) _ _)); (try simp only [World.size_alloc, size_drew] at hM2); clear hM; have hM := Lib.hid hM2; clear hF; have hF := hM2; (try simp only [Mem, cellsAt, World.size_alloc, Nat.zero_add, Nat.reduceAdd, and_true] at hF); clear hM2; clear hb; clear hF; have hF : True := trivial))
  have hMD := hM.out.drew
  have hs3 : w.heap.size ≤ w3.heap.size := hB.size
  refine wp_fork (fun y => Mem y [(g6, b8l I 32), (w.heap.size, hdL hd)] ∧ Below w3.heap.size w3 y ∧ y.cell? ⟨w.heap.size, 66, none⟩ = some (.int .u32 hd.b)) [4, 6, 7] (.node 0 (.node 1 (.node 2 (.node 3 (.fork 4 6 (.node 5 (.node 6 (.node 7 .leaf))) (.node 4 (.node 5 (.node 7 .leaf)))))))) (by kernel_rfl) (by kernel_rfl) ⟨hMD, (Below.refl _ _).drew, cellsAt_get (Mem.get hMD (by simp)) (hdL_b hd)⟩ (fun hHeld => ?_)
  (refine wpF_yield rfl (by rfl) (Go.yieldsIf_load_mid (by rfl) 24 (.tmp 6) rfl g6 0 rfl (b8l I 32) _ (fun w' h => rangeAt_of (Mem.get h.1 (by simp))) Tryd.underlying24 rfl (by rw [b8l_len]; kernel_rfl)) (by assumption) ?_; (try simp only [Act.put, List.setIfInBounds_toArray, List.set_cons_zero, List.set_cons_succ]))
  (refine wpF_yield rfl (by rfl) (Go.yieldsIf_load_mid (by rfl) 26 (.tmp 3) rfl w.heap.size 0 rfl (hdL hd) _ (fun w' h => rangeAt_of (Mem.get h.1 (by simp))) Tryd.underlying26 rfl (by rw [hdL_len]; kernel_rfl)) (by assumption) ?_; (try simp only [Act.put, List.setIfInBounds_toArray, List.set_cons_zero, List.set_cons_succ]))
  iterate 2 (refine wpF_take rfl (by rfl) (by rfl) (by intro w' hSw; (try dsimp only [Mem, cellsAt] at hSw); go_simp; (try with_reducible rfl)) (by assumption) ?_; (try simp only [Act.put, List.setIfInBounds_toArray, List.set_cons_zero, List.set_cons_succ]))
  (refine wpF_both2 27 9 28 (fun _ => ndV (Nd.mk I hd (-1) 0 wk)) (fun v _ => v = uV wk) (fun v y => ∃ gn, v = .pointer (some ⟨gn, 0, none⟩) ∧ Mem y [(gn, ndL nd0)] ∧ w3.heap.size ≤ gn) rfl rfl rfl (by rfl) (by rfl) (by rfl) rfl (by decide) (by decide) (fun v x y h _ => h) (by rintro v x y ⟨gn, h1, h2, h3⟩ hb; exact ⟨gn, h1, Mem.later hb h2, h3⟩) (fun x y h hb => ⟨Mem.later hb h.1, h.2.1.trans (hb.mono h.2.1.size), cellsAt_get (Mem.get (Mem.later hb h.1) (by simp)) (hdL_b hd)⟩) hHeld ?_ ?_ ?_ ?_ (fun v x hv => ?_) (fun v u x hv => ?_) ?_)
  · intro x hx K hK
    go_simp
    (with_reducible refine (HWk.out _).mono ?_)
    rintro e x1 ⟨rfl, hb⟩
    exact hK _ _ rfl hb
  · intro u x hx K hK
    go_simp
    (with_reducible refine (HWk.out _).mono ?_)
    rintro e x1 ⟨rfl, hb⟩
    exact hK _ _ rfl hb
  · intro x hx K hK
    go_simp
    exact hK _ _ ⟨x.heap.size, rfl, Mem.al (mem_nil x) (ndL nd0) 44, hx.2.1.size⟩ (below_alloc _ _)
  · intro u x hx K hK
    go_simp
    exact hK _ _ ⟨x.heap.size, rfl, Mem.al (mem_nil x) (ndL nd0) 44, hx.2.1.size⟩ (below_alloc _ _)
  · subst hv
    exact .inl ⟨by rfl, fun y _ => run_buildN rfl _ build_nd (by simp only [List.map_toArray, List.map_cons, List.map_nil, Act.eval]; rfl) y⟩
  · subst hv
    exact .inl ⟨by rfl, fun y _ => run_buildN rfl _ build_nd (by simp only [List.map_toArray, List.map_cons, List.map_nil, Act.eval]; rfl) y⟩
  intro v u w4 hv ⟨gn, hu, hmn, hgn⟩ hb4 hHeld2
  subst hv
  subst hu
  clear hHeld hMD
  (try simp only [Act.put, List.setIfInBounds_toArray, List.set_cons_zero, List.set_cons_succ])
  (refine wpF_step rfl (by rfl) (fun K hK => ?_))
  (refine step_storeW rfl 44 (.tmp 9) (.tmp 28) rfl gn 0 (ndL (Nd.mk I hd (-1) 0 wk)).toArray rfl rfl (by rw [nA_size]; exact thereW hmn.1 (by rw [ndL_len]; exact Nat.le_refl _)) (by rw [nA_size]; kernel_rfl) (Go.all_oneCell_toArray (ndL_one _)) ?_)
  have hgw : w.heap.size ≤ gn := by omega
  have hlt6 : ∀ p ∈ [(g6, b8l I 32), (w.heap.size, hdL hd)], p.1 ≠ gn := fun p hp => by have := Mem.lt hM.out p hp; omega
  have hm5 : Mem (w4.setCells gn 0 (ndL (Nd.mk I hd (-1) 0 wk))) [(gn, ndL (Nd.mk I hd (-1) 0 wk)), (g6, b8l I 32), (w.heap.size, hdL hd)] := by
    have := Mem.part hlt6 (ndL (Nd.mk I hd (-1) 0 wk)) 0 (ndL nd0) w4 (by rw [ndL_len, ndL_len]; omega) ⟨hmn.1, hHeld2.1⟩
    rwa [show spl (ndL nd0) 0 (ndL (Nd.mk I hd (-1) 0 wk)) = ndL (Nd.mk I hd (-1) 0 wk) by simp [spl, ndL_len]] at this
  have hbS : Below w3.heap.size w3 (w4.setCells gn 0 (ndL (Nd.mk I hd (-1) 0 wk))) := bl_setCellsW hgn _ _ _ hHeld2.2.1
  have hbW : Below w.heap.size w (w4.setCells gn 0 (ndL (Nd.mk I hd (-1) 0 wk))) := bl_then hB hbS
  obtain ⟨W5, hW5⟩ : ∃ y, w4.setCells gn 0 (ndL (Nd.mk I hd (-1) 0 wk)) = y := ⟨_, rfl⟩
  rw [hW5] at hm5 hbW hbS
  simp only [List.toList_toArray, hW5]
  refine hK.out _ _ (fun y => y = W5) (fun _ h => by subst h; exact ⟨hm5.2, hbS, cellsAt_get (Mem.get hm5 (by simp)) (hdL_b hd)⟩) rfl (fun _ => ?_)
  clear hK K
  (try simp only [Act.put, List.setIfInBounds_toArray, List.set_cons_zero, List.set_cons_succ])
  (refine wpF_nil ?_)
  clear hW5 hHeld2 hmn hgn hb4 hM hB hbS hs3
  have hM := Lib.hid hm5
  have hB := hbW
  have HGN := Lib.hid hgw
  have HLT6 := Lib.hid hlt6
  clear hm5 hbW hgw hlt6
  go_wp2_with (first |
    (go_at_call 16; (with_reducible refine (HLn.out _ hB).mono ?_); rintro e w6 ⟨rfl, hb⟩; have hB : Below w.heap.size w w6 := (by refine bl_then ?_ hb; (repeat (first | exact hB | refine bl_al ?_ _ | refine Below.setCell ?_ (by first | exact hgs | exact Nat.le_succ_of_le hgs | exact hgs2 | exact hgs3) _ | refine Below.drew ?_ | refine bl_drewN ?_ _))); (first | with_reducible have hM2 := Mem.later hb (hM.out) | with_reducible have hM2 := Mem.later hb (Mem.al (hM.out) _ _) | with_reducible have hM2 := Mem.later hb (Mem.al (Mem.al (hM.out) _ _) _ _) | with_reducible have hM2 := Mem.later hb (Mem.al (Mem.al (Mem.al (hM.out) _ _) _ _) _ _) | with_reducible have hM2 := Mem.later hb (Mem.al (Mem.al (Mem.al (Mem.al (hM.out) _ _) _ _) _ _) _ _) | with_reducible have hM2 := Mem.later hb (Mem.drew (hM.out)) | with_reducible have hM2 := Mem.later hb (Mem.drew (Mem.al (hM.out) _ _)) | with_reducible have hM2 := Mem.later hb (Mem.al (Mem.drew (hM.out)) _ _) | with_reducible have hM2 := Mem.later hb (Mem.al (Mem.drew (Mem.al (hM.out) _ _)) _ _) | with_reducible have hM2 := Mem.later hb (Mem.drew (Mem.al (Mem.al (hM.out) _ _) _ _)) | with_reducible have hM2 := Mem.later hb (Mem.al (Mem.al (Mem.drew (hM.out)) _ _) _ _) | with_reducible have hM2 := Mem.later hb (Mem.drew (Mem.drew (hM.out))) | with_reducible have hM2 := Mem.later hb (Mem.drew (Mem.al (Mem.drew (hM.out)) _ _)) | with_reducible have hM2 := Mem.later hb (Mem.drew (Mem.al (Mem.al (Mem.al (hM.out) _ _) _ _) _ _)) | with_reducible have hM2 := Mem.later hb (Mem.al (Mem.al (Mem.drew (Mem.al (hM.out) _ _)) _ _) _ _) | with_reducible have hM2 := Mem.later hb (Mem.drew (Mem.al (Mem.drew (Mem.al (hM.out) _ _)) _ _)) | with_reducible have hM2 := Mem.later hb (Mem.al (Mem.al (Mem.al (Mem.al (Mem.al (hM.out) _ _) _ _) _ _) _ _) _ _) | with_reducible have hM2 := Mem.later hb (Mem.al (Mem.al (Mem.al (Mem.al (Mem.al (Mem.al (hM.out) _ _) _ _) _ _) _ _) _ _) _ _) | with_reducible have hM2 := Mem.later hb (Mem.al (Mem.al (Mem.al (Mem.al (Mem.al (Mem.al (Mem.al (hM.out) _ _) _ _) _ _) _ _) _ _) _ _) _ _) | with_reducible have hM2 := Mem.later hb (Mem.al (Mem.al (Mem.al (Mem.al (Mem.al (Mem.al (Mem.al (Mem.al (hM.out) _ _) _ _) _ _) _ _) _ _) _ _) _ _) _ _)); (try simp only [World.size_alloc, size_drew] at hM2); clear hM; have hM := Lib.hid hM2; clear hF; have hF := hM2; (try simp only [Mem, cellsAt, World.size_alloc, Nat.zero_add, Nat.reduceAdd, and_true] at hF); clear hM2; clear hb; clear hF; have hF : True := trivial) |
    ((with_reducible_and_instances refine at_load 34 ?_); refine Go.wpList_load_mid rfl 24 (.tmp 34) rfl w.heap.size 1 rfl (b8l hd.p 32) _ (hd_range_p (Mem.get hM.out (by simp))) Tryd.underlying24 rfl (by rw [b8l_len]; kernel_rfl) ?_) |
    (go_at_call 13; (with_reducible refine (HFp.out _ hB).mono ?_); rintro e w7 ⟨rfl, hb⟩; have hB : Below w.heap.size w w7 := (by refine bl_then ?_ hb; (repeat (first | exact hB | refine bl_al ?_ _ | refine Below.setCell ?_ (by first | exact hgs | exact Nat.le_succ_of_le hgs | exact hgs2 | exact hgs3) _ | refine Below.drew ?_ | refine bl_drewN ?_ _))); (first | with_reducible have hM2 := Mem.later hb (hM.out) | with_reducible have hM2 := Mem.later hb (Mem.al (hM.out) _ _) | with_reducible have hM2 := Mem.later hb (Mem.al (Mem.al (hM.out) _ _) _ _) | with_reducible have hM2 := Mem.later hb (Mem.al (Mem.al (Mem.al (hM.out) _ _) _ _) _ _) | with_reducible have hM2 := Mem.later hb (Mem.al (Mem.al (Mem.al (Mem.al (hM.out) _ _) _ _) _ _) _ _) | with_reducible have hM2 := Mem.later hb (Mem.drew (hM.out)) | with_reducible have hM2 := Mem.later hb (Mem.drew (Mem.al (hM.out) _ _)) | with_reducible have hM2 := Mem.later hb (Mem.al (Mem.drew (hM.out)) _ _) | with_reducible have hM2 := Mem.later hb (Mem.al (Mem.drew (Mem.al (hM.out) _ _)) _ _) | with_reducible have hM2 := Mem.later hb (Mem.drew (Mem.al (Mem.al (hM.out) _ _) _ _)) | with_reducible have hM2 := Mem.later hb (Mem.al (Mem.al (Mem.drew (hM.out)) _ _) _ _) | with_reducible have hM2 := Mem.later hb (Mem.drew (Mem.drew (hM.out))) | with_reducible have hM2 := Mem.later hb (Mem.drew (Mem.al (Mem.drew (hM.out)) _ _)) | with_reducible have hM2 := Mem.later hb (Mem.drew (Mem.al (Mem.al (Mem.al (hM.out) _ _) _ _) _ _)) | with_reducible have hM2 := Mem.later hb (Mem.al (Mem.al (Mem.drew (Mem.al (hM.out) _ _)) _ _) _ _) | with_reducible have hM2 := Mem.later hb (Mem.drew (Mem.al (Mem.drew (Mem.al (hM.out) _ _)) _ _)) | with_reducible have hM2 := Mem.later hb (Mem.al (Mem.al (Mem.al (Mem.al (Mem.al (hM.out) _ _) _ _) _ _) _ _) _ _) | with_reducible have hM2 := Mem.later hb (Mem.al (Mem.al (Mem.al (Mem.al (Mem.al (Mem.al (hM.out) _ _) _ _) _ _) _ _) _ _) _ _) | with_reducible have hM2 := Mem.later hb (Mem.al (Mem.al (Mem.al (Mem.al (Mem.al (Mem.al (Mem.al (hM.out) _ _) _ _) _ _) _ _) _ _) _ _) _ _) | with_reducible have hM2 := Mem.later hb (Mem.al (Mem.al (Mem.al (Mem.al (Mem.al (Mem.al (Mem.al (Mem.al (hM.out) _ _) _ _) _ _) _ _) _ _) _ _) _ _) _ _)); (try simp only [World.size_alloc, size_drew] at hM2); clear hM; have hM := Lib.hid hM2; clear hF; have hF := hM2; (try simp only [Mem, cellsAt, World.size_alloc, Nat.zero_add, Nat.reduceAdd, and_true] at hF); clear hM2; clear hb; clear hF; have hF : True := trivial; have c2 := HC2.out _ hB) |
    ((with_reducible_and_instances refine at_load 46 ?_); refine Go.wpList_load_mid rfl 44 (.tmp 46) rfl gr (j * 106) rfl (ndL y) _ (HRg.out _ hB) Tryd.underlying44 rfl (by rw [ndL_len]; kernel_rfl) ?_) |
    ((with_reducible_and_instances refine at_store 12 ?_); refine wpList_store_newV rfl (.tmp 12) (.tmp 47) 44 rfl _ (ndL y) _ Tryd.underlying44 rfl (by rw [ndL_len]; kernel_rfl) (by rw [ndL_len]; rfl) (ndL_one y) rfl (rfl) hM.out ?_; intro W8 hMW hbW; have hBW := bl_then hB hbW; have hl12 := Mem.lt hM.out; have hgs12 := hB.size; obtain ⟨g12, hg12⟩ : ∃ b, w7.heap.size = b := ⟨_, rfl⟩; rw [hg12] at hMW hl12 hgs12; simp only [hg12]; clear hg12; clear hM hF hB; have hM := Lib.hid hMW; have hB := hBW; have hF : True := trivial; clear hMW hbW hBW; have HL12 := Lib.hid hl12; clear hl12 hgs12; have c101 := cellsAt_get (Mem.get (b := g12) (vs := ndL y) hM.out (by simp)) (ndL_ht y); have cn0 := cellsAt_get (Mem.get (b := gn) (vs := ndL (Nd.mk I hd (-1) 0 wk)) hM.out (by simp)) (ndL_par _); have cn1 := cellsAt_get (Mem.get (b := gn) (vs := ndL (Nd.mk I hd (-1) 0 wk)) hM.out (by simp)) (ndL_ht _); have fzn := hM.out.2.1.2.1) |
    ((with_reducible_and_instances refine at_load 55 ?_); have hm0 := (⟨hM.out.2.1, hM.out.1, hM.out.2.2⟩ : Mem W8 [(gn, ndL (Nd.mk I hd (-1) 0 wk)), (g12, ndL y), (g6, b8l I 32), (w.heap.size, hdL hd)]); have hd8 : ∀ p ∈ [(g12, ndL y), (g6, b8l I 32), (w.heap.size, hdL hd)], p.1 ≠ gn := (fun p hp => by rcases List.mem_cons.1 hp with rfl | hp; exact Nat.ne_of_gt (HL12.out (gn, ndL (Nd.mk I hd (-1) 0 wk)) List.mem_cons_self); exact HLT6.out p hp); have hm1 := mem_set (k := 100) (v := .int .i64 (j : Int)) hd8 hm0; have hm2 := mem_set (k := 101) (v := .int .i64 (y.ht + 1)) hd8 hm1; rw [ndL_set_par, ndL_set_ht] at hm2; have hB2 := (hB.setCell (p := ⟨gn, 100, none⟩) HGN.out (.int .i64 (j : Int))).setCell (p := ⟨gn, 101, none⟩) HGN.out (.int .i64 (y.ht + 1)); obtain ⟨V8, hV8⟩ : ∃ x, (W8.setCell ⟨gn, 100, none⟩ (.int .i64 (j : Int))).setCell ⟨gn, 101, none⟩ (.int .i64 (y.ht + 1)) = x := ⟨_, rfl⟩; rw [hV8] at hm2 hB2; simp only [hV8]; clear hV8 hM hB hm0 hm1 c101 cn0 cn1 fzn; have hM := Lib.hid hm2; have hB := hB2; have HD8 := Lib.hid hd8; clear hm2 hB2 hd8; refine Go.wpList_load_mid rfl 42 (.tmp 55) rfl g12 102 rfl (uL y.wk) _ (by have := nd_range_w (rangeAt_of (Mem.get (b := g12) (vs := ndL y) hM.out (by simp))); rwa [Nat.zero_add] at this) Tryd.underlying42 rfl (by rw [uL_len]; kernel_rfl) ?_) |
    ((with_reducible_and_instances refine at_load 57 ?_); refine Go.wpList_load_mid rfl 42 (.tmp 57) rfl gn 102 rfl (uL wk) _ (by have := nd_range_w (rangeAt_of (Mem.get (b := gn) (vs := ndL (Nd.mk I hd (j : Int) (y.ht + 1) wk)) hM.out (by simp))); rwa [Nat.zero_add] at this) Tryd.underlying42 rfl (by rw [uL_len]; kernel_rfl) ?_) |
    (go_at_call 19; (with_reducible refine (HAd.out _).mono ?_); rintro e w9 ⟨rfl, hb⟩; have hB : Below w.heap.size w w9 := (by refine bl_then ?_ hb; (repeat (first | exact hB | refine bl_al ?_ _ | refine Below.setCell ?_ (by first | exact hgs | exact Nat.le_succ_of_le hgs | exact hgs2 | exact hgs3) _ | refine Below.drew ?_ | refine bl_drewN ?_ _))); (first | with_reducible have hM2 := Mem.later hb (hM.out) | with_reducible have hM2 := Mem.later hb (Mem.al (hM.out) _ _) | with_reducible have hM2 := Mem.later hb (Mem.al (Mem.al (hM.out) _ _) _ _) | with_reducible have hM2 := Mem.later hb (Mem.al (Mem.al (Mem.al (hM.out) _ _) _ _) _ _) | with_reducible have hM2 := Mem.later hb (Mem.al (Mem.al (Mem.al (Mem.al (hM.out) _ _) _ _) _ _) _ _) | with_reducible have hM2 := Mem.later hb (Mem.drew (hM.out)) | with_reducible have hM2 := Mem.later hb (Mem.drew (Mem.al (hM.out) _ _)) | with_reducible have hM2 := Mem.later hb (Mem.al (Mem.drew (hM.out)) _ _) | with_reducible have hM2 := Mem.later hb (Mem.al (Mem.drew (Mem.al (hM.out) _ _)) _ _) | with_reducible have hM2 := Mem.later hb (Mem.drew (Mem.al (Mem.al (hM.out) _ _) _ _)) | with_reducible have hM2 := Mem.later hb (Mem.al (Mem.al (Mem.drew (hM.out)) _ _) _ _) | with_reducible have hM2 := Mem.later hb (Mem.drew (Mem.drew (hM.out))) | with_reducible have hM2 := Mem.later hb (Mem.drew (Mem.al (Mem.drew (hM.out)) _ _)) | with_reducible have hM2 := Mem.later hb (Mem.drew (Mem.al (Mem.al (Mem.al (hM.out) _ _) _ _) _ _)) | with_reducible have hM2 := Mem.later hb (Mem.al (Mem.al (Mem.drew (Mem.al (hM.out) _ _)) _ _) _ _) | with_reducible have hM2 := Mem.later hb (Mem.drew (Mem.al (Mem.drew (Mem.al (hM.out) _ _)) _ _)) | with_reducible have hM2 := Mem.later hb (Mem.al (Mem.al (Mem.al (Mem.al (Mem.al (hM.out) _ _) _ _) _ _) _ _) _ _) | with_reducible have hM2 := Mem.later hb (Mem.al (Mem.al (Mem.al (Mem.al (Mem.al (Mem.al (hM.out) _ _) _ _) _ _) _ _) _ _) _ _) | with_reducible have hM2 := Mem.later hb (Mem.al (Mem.al (Mem.al (Mem.al (Mem.al (Mem.al (Mem.al (hM.out) _ _) _ _) _ _) _ _) _ _) _ _) _ _) | with_reducible have hM2 := Mem.later hb (Mem.al (Mem.al (Mem.al (Mem.al (Mem.al (Mem.al (Mem.al (Mem.al (hM.out) _ _) _ _) _ _) _ _) _ _) _ _) _ _) _ _)); (try simp only [World.size_alloc, size_drew] at hM2); clear hM; have hM := Lib.hid hM2; clear hF; have hF := hM2; (try simp only [Mem, cellsAt, World.size_alloc, Nat.zero_add, Nat.reduceAdd, and_true] at hF); clear hM2; clear hb; clear hF; have hF : True := trivial; have HT9 := Lib.hid (hM.out.1)) |
    ((with_reducible_and_instances refine at_store 62 ?_); refine Go.wpList_store_mid rfl 42 (.tmp 62) (.tmp 60) rfl gn 102 (uL s).toArray rfl rfl (there_w HT9.out) (by rw [List.size_toArray, uL_len]; kernel_rfl) (Go.all_oneCell_toArray (uL_one s)) ?_))
  have hm9 := Mem.part HD8.out (uL s) 102 (ndL (Nd.mk I hd (j : Int) (y.ht + 1) wk)) w9 (by rw [ndL_len, uL_len]; omega) hM.out
  rw [spl_w] at hm9
  have hB9 := bl_setCellsW HGN.out (uL s) 102 w9 hB
  obtain ⟨W10, hW10⟩ : ∃ x, w9.setCells gn 102 (uL s) = x := ⟨_, rfl⟩
  rw [hW10] at hm9 hB9
  simp only [List.toList_toArray, hW10]
  clear hW10 hM hB HT9
  have hM := Lib.hid hm9
  have hB := hB9
  clear hm9 hB9
  rw [← HX.out] at hM
  by_cases hfull : most ≤ (n : Int)
  · have hfi : decide (most ≤ (n : Int)) = true := decide_eq_true hfull
    have HFu := Lib.hid hfull
    clear hfull
    refine wp_plan (fun y => y.cell? ⟨g, 2, none⟩ = some (.slice (some ⟨gr, 0, none⟩) n cap) ∧ y.cell? ⟨g, 0, none⟩ = some (.int .i64 most)) [] [0, 1, 2, 3, 4, 5, 6, 7, 8, 9, 10, 11, 12, 13] (by kernel_rfl) (by kernel_rfl) (⟨(HC2.out _ hB.drew), (HC0.out _ hB.drew)⟩) (fun hHeld => ?_)
    iterate 14 (refine wpT_take rfl (by rfl) (by rfl) (by intro w' hSw; (try dsimp only [Mem, cellsAt] at hSw); go_simp; (try with_reducible rfl)) (by assumption) ?_; (try simp only [Act.put, List.setIfInBounds_toArray, List.set_cons_zero, List.set_cons_succ]))
    (refine wpT_nil ?_)
    replace hB := hB.drew
    replace hM := Lib.hid hM.out.drew
    go_wp2
    go_ret2
    exact .inl ⟨HFu.out, rfl, hB⟩
  · have hfi : decide (most ≤ (n : Int)) = false := decide_eq_false hfull
    have HFu := Lib.hid hfull
    clear hfull
    refine wp_plan (fun y => y.cell? ⟨g, 2, none⟩ = some (.slice (some ⟨gr, 0, none⟩) n cap) ∧ y.cell? ⟨g, 0, none⟩ = some (.int .i64 most)) [] [0, 1, 2, 3, 4, 5, 6, 7, 8, 9, 10, 11, 12, 13] (by kernel_rfl) (by kernel_rfl) (⟨(HC2.out _ hB.drew), (HC0.out _ hB.drew)⟩) (fun hHeld => ?_)
    iterate 14 (refine wpT_take rfl (by rfl) (by rfl) (by intro w' hSw; (try dsimp only [Mem, cellsAt] at hSw); go_simp; (try with_reducible rfl)) (by assumption) ?_; (try simp only [Act.put, List.setIfInBounds_toArray, List.set_cons_zero, List.set_cons_succ]))
    (refine wpT_nil ?_)
    replace hB := hB.drew
    replace hM := Lib.hid hM.out.drew
    go_wp2_with (first |
      ((with_reducible_and_instances refine at_load 9 ?_); refine Go.wpList_load_mid rfl 44 (.tmp 9) rfl gn 0 rfl (ndL X) _ (rangeAt_of (Mem.get hM.out (by simp))) Tryd.underlying44 rfl (by rw [ndL_len]; kernel_rfl) ?_) |
      (go_at_call 23; (with_reducible refine (HKp.out _ hB).mono ?_); rintro e w11 ⟨rfl, htr, hb, hkt⟩; have HTR := Lib.hid htr; have HKT := Lib.hid ((keepT_below hB).trans hkt); clear hkt; obtain ⟨ao3, cap3, c2⟩ := tree_len htr; rw [hlx] at c2; have hBK := hb; clear htr hb))
    go_ret2
    exact .inr ⟨by have := HFu.out; omega, rfl, HTR.out, (hB.mono HBW.out).trans (hBK.mono (Nat.le_refl _)), HKT.out⟩
end Go.Proofs.YtfbhpkhpkaeagaaDoor

/- Package tree: Add, the whole. (hM) -/
namespace Go.Proofs.YtfbhpkhpkaeagaaDoor
set_option linter.unusedVariables false
set_option linter.unusedSimpArgs false
open Go.RowKit

/-- what is told of a header that is added, and the nodes behind it -/
def AddR (most : Int) (l : List Nd) (h : Hd) (i er : Int) (l' : List Nd) : Prop :=
  (er = 10 ∧ l' = l ∧ ∃ j : Nat, findT l (idF h) = some j ∧ i = (j : Int)) ∨ (er = 9 ∧ i = -1 ∧ l' = l ∧ findT l (idF h) = none ∧ l ≠ [] ∧ findT l h.p = none) ∨
  (er = 12 ∧ i = -1 ∧ l' = l ∧ findT l (idF h) = none ∧ most ≤ (l.length : Int)) ∨
  (er = 0 ∧ i = (l.length : Int) ∧ findT l (idF h) = none ∧ (l.length : Int) < most ∧ ∃ x, NewNd l h x ∧ l' = l ++ [x])

theorem tadd_any {B : Nat} {w : World} {g : Nat} {most best : Int} {l : List Nd} (ht : TreeAt B w g most best l) (hw : TW l) (hbt : BestT l best) (hlen : l.length ≤ 1000) (h : Hd) (ho : HdOk h) (hT : Tab w) :
    Calls Tryd.prog 10 #[.pointer (some ⟨g, 0, none⟩), hdV h] w fun e w' => ∃ (i er best' : Int) (l' : List Nd), e = .returned (.tuple #[.int .i64 i, .int .i64 er]) ∧ AddR most l h i er l' ∧ TreeAt B w' g most best' l' ∧ TW l' ∧ BestT l' best' ∧ Below B w w' ∧ KeepT w w' := by
  have HId := Lib.hid (fun (x : World) (hb : Below w.heap.size w x) => hid_any h ho x (hT.later hb))
  have HWk := Lib.hid (fun (x : World) => work_u h.b ho.b x)
  have HLn := Lib.hid (fun (x : World) (hb : Below w.heap.size w x) => tlen_any (ht.later hb))
  obtain ⟨ao, cap, r, es, clk, hg, hr, he, hown, hBg, hBr⟩ := id ht
  have hBW : B ≤ w.heap.size := by have := heap_lt hg; omega
  have HC2 : Hid (∀ x, Below w.heap.size w x → x.cell? ⟨g, 2, none⟩ = some (.slice ao l.length cap)) := fun x hb => obj_cell (i := 2) ((hb.block g (heap_lt hg)).trans hg) rfl
  have HC0 : Hid (∀ x, Below w.heap.size w x → x.cell? ⟨g, 0, none⟩ = some (.int .i64 most)) := fun x hb => obj_cell (i := 0) ((hb.block g (heap_lt hg)).trans hg) rfl
  have same : ∀ w', Below w.heap.size w w' → TreeAt B w' g most best l ∧ Below B w w' ∧ KeepT w w' := fun w' hb => ⟨ht.later hb, hb.mono hBW, keepT_below hb⟩
  cases hf : findT l (idF h) with
  | some j =>
    refine (tadd_known B g l.length w (idF h) h (workV h.b) HId HWk HLn (j : Int) (Lib.hid fun x hb => tfind_any (ht.later hb) (idF h) (j : Int) true (by rw [hf]; rfl) (by rw [hf]; rfl))).mono ?_
    rintro e w' ⟨rfl, hb⟩
    exact ⟨_, _, best, l, rfl, .inl ⟨rfl, rfl, j, hf, rfl⟩, (same w' hb).1, hw, hbt, (same w' hb).2⟩
  | none =>
    have HFd := Lib.hid (fun (x : World) (hb : Below w.heap.size w x) => tfind_any (ht.later hb) (idF h) 0 false (by rw [hf]; rfl) (by rw [hf]; rfl))
    by_cases hl : l = []
    · subst hl
      have hb0 : best = 0 := by
        rcases hbt with ⟨_, h0⟩ | ⟨k, x, _, hx, _⟩
        · exact h0
        · simp at hx
      subst hb0
      have HKp := Lib.hid (fun (x : World) (hb : Below w.heap.size w x) => tkeep_any (ht.later hb) (Nd.mk (idF h) h (-1) 0 (workV h.b)) rfl (workV_nn _ ho.b) 0 rfl (Nd.mk (idF h) h (-1) 0 (workV h.b)) rfl (workV_nn _ ho.b) (by simp))
      have e2 : (if (Nd.mk (idF h) h (-1) 0 (workV h.b)).wk < (Nd.mk (idF h) h (-1) 0 (workV h.b)).wk then (([] : List Nd).length : Int) else 0) = 0 := if_neg (Int.lt_irrefl _)
      rw [e2] at HKp
      refine (tadd_first B g 0 w (idF h) h (workV h.b) HId HWk HLn most 0 0 [] rfl (Lib.hid hBW) ao cap (by omega) HC2 HC0 HFd _ HKp rfl rfl).mono ?_
      have hn : NewNd [] h (Nd.mk (idF h) h (-1) 0 (workV h.b)) := ⟨rfl, rfl, .inl ⟨rfl, rfl, rfl, rfl⟩⟩
      rintro e w' (⟨hm, rfl, hb⟩ | ⟨hm, rfl, htr, hb, hkt⟩)
      · exact ⟨_, _, 0, [], rfl, .inr (.inr (.inl ⟨rfl, rfl, rfl, hf, hm⟩)), (same w' hb).1, hw, hbt, (same w' hb).2⟩
      · refine ⟨_, _, 0, _, rfl, .inr (.inr (.inr ⟨rfl, rfl, hf, hm, _, hn, rfl⟩)), htr, tw_push hw ho hn hf, ?_, hb, hkt⟩
        rcases best_push hbt (Nd.mk (idF h) h (-1) 0 (workV h.b)) with ⟨_, h2⟩ | ⟨k, z, _, hz, _⟩
        · exact h2
        · simp at hz
    · have hpos : 1 ≤ l.length := by
        rcases Nat.eq_zero_or_pos l.length with h0 | h0
        · exact absurd (List.eq_nil_of_length_eq_zero h0) hl
        · exact h0
      cases hp : findT l h.p with
      | none =>
        refine (tadd_orphan B g l.length w (idF h) h (workV h.b) HId HWk HLn hpos HFd (Lib.hid fun x hb => tfind_any (ht.later hb) h.p 0 false (by rw [hp]; rfl) (by rw [hp]; rfl))).mono ?_
        rintro e w' ⟨rfl, hb⟩
        exact ⟨_, _, best, l, rfl, .inr (.inl ⟨rfl, rfl, rfl, hf, hl, hp⟩), (same w' hb).1, hw, hbt, (same w' hb).2⟩
      | some j =>
        obtain ⟨y, hy, _⟩ := findT_get hp
        have hj := findT_lt hp
        have hyo := hw j y hy
        have hww := workV_nn h.b ho.b
        have haw := addW_nn hyo.wk hww
        obtain ⟨gr, hao, _, hgr, hrg⟩ := own_node hown hy
        have HRg : Hid (∀ x, Below w.heap.size w x → x.rangeAt gr (j * 106) (ndL y)) := fun x hb i v hv => (hb.cell (p := ⟨gr, _, none⟩) hgr).trans (hrg i v hv)
        rcases best_push hbt (Nd.mk (idF h) h (j : Int) (y.ht + 1) (addW y.wk (workV h.b))) with ⟨h0, _⟩ | ⟨k, z, hk, hz, hb2⟩
        · exact absurd h0 hl
        have hkl := (List.getElem?_eq_some_iff.1 hz).1
        have HKp := Lib.hid (fun (x : World) (hb : Below w.heap.size w x) => tkeep_any (ht.later hb) (Nd.mk (idF h) h (j : Int) (y.ht + 1) (addW y.wk (workV h.b))) hf haw k hk z (by rw [List.getElem?_append_left hkl]; exact hz) (hw k z hz).wk (by omega))
        refine (tadd_behind B g l.length w (idF h) h (workV h.b) HId HWk HLn most best _ l rfl (Lib.hid hBW) ao cap hlen HC2 HC0 HFd _ HKp gr j y hao hj (by have := hyo.ht0; have := hyo.ht1; omega) (addW y.wk (workV h.b)) _ rfl hpos HRg
          (Lib.hid fun x hb => tfind_any (ht.later hb) h.p (j : Int) true (by rw [hp]; rfl) (by rw [hp]; rfl)) (Lib.hid fun x => add_u hyo.wk hww x)).mono ?_
        have hn : NewNd l h (Nd.mk (idF h) h (j : Int) (y.ht + 1) (addW y.wk (workV h.b))) := ⟨rfl, rfl, .inr ⟨j, y, hp, hy, rfl, rfl, rfl⟩⟩
        rintro e w' (⟨hm, rfl, hb⟩ | ⟨hm, rfl, htr, hb, hkt⟩)
        · exact ⟨_, _, best, l, rfl, .inr (.inr (.inl ⟨rfl, rfl, rfl, hf, hm⟩)), (same w' hb).1, hw, hbt, (same w' hb).2⟩
        · exact ⟨_, _, _, _, rfl, .inr (.inr (.inr ⟨rfl, rfl, hf, hm, _, hn, rfl⟩)), htr, tw_push hw ho hn hf, hb2, hb, hkt⟩
end Go.Proofs.YtfbhpkhpkaeagaaDoor

/- florinlaw15: the example's headers, and adding them; boxes with their types. (hM) -/
namespace Go.Proofs.YtfbhpkhpkaeagaaDoor
set_option linter.unusedVariables false
set_option linter.unusedSimpArgs false
open Go.RowKit

def aw15a : Hd := ⟨0, fun _ => 0, fun _ => 0, 0, 545259519, 0⟩
def aw15I (i : Nat) : Int := [21, 69, 166, 194, 34, 142, 174, 254, 51, 143, 16, 178, 185, 178, 204, 107, 138, 25, 0, 80, 180, 91, 164, 132, 47, 186, 142, 94, 126, 96, 52, 167].getD i 0
def aw15b : Hd := ⟨0, aw15I, fun _ => 0, 0, 545259519, 0⟩
def aw15c : Hd := ⟨0, aw15I, fun _ => 0, 0, 538968063, 0⟩
theorem aw15I_b (i : Nat) : 0 ≤ aw15I i ∧ aw15I i < 256 := by
  by_cases h : i < 32
  · exact (by decide : ∀ i : Fin 32, 0 ≤ aw15I i ∧ aw15I i < 256) ⟨i, h⟩
  · unfold aw15I
    rw [List.getD_eq_getElem?_getD, List.getElem?_eq_none (by simp; omega)]
    simp
theorem aw15a_ok : HdOk aw15a := ⟨by decide, fun _ => (by decide : (0 : Int) ≤ 0 ∧ (0 : Int) < 256), fun _ => (by decide : (0 : Int) ≤ 0 ∧ (0 : Int) < 256), by decide, by decide, by decide⟩
theorem aw15b_ok : HdOk aw15b := ⟨by decide, aw15I_b, fun _ => (by decide : (0 : Int) ≤ 0 ∧ (0 : Int) < 256), by decide, by decide, by decide⟩
theorem aw15c_ok : HdOk aw15c := ⟨by decide, aw15I_b, fun _ => (by decide : (0 : Int) ≤ 0 ∧ (0 : Int) < 256), by decide, by decide, by decide⟩
set_option maxRecDepth 100000 in
theorem aw15_id : hl (idF aw15a) = hl aw15I := by decide +kernel
theorem aw15_arr : arr32 (idF aw15a) = arr32 aw15I := by
  unfold arr32
  rw [hl_cells, hl_cells, aw15_id]
set_option maxRecDepth 100000 in
theorem aw15_ab : (hl (idF aw15b) == hl aw15I) = false := by decide +kernel
set_option maxRecDepth 100000 in
theorem aw15_ac : (hl (idF aw15c) == hl aw15I) = false := by decide +kernel
set_option maxRecDepth 100000 in
theorem aw15_bc : (hl (idF aw15c) == hl (idF aw15b)) = false := by decide +kernel
theorem aw15_wa : workV 545259519 = 2 := by decide +kernel
theorem aw15_wc : workV 538968063 = 8 := by decide +kernel
def Xa : Nd := ⟨idF aw15a, aw15a, -1, 0, 2⟩
def Xb : Nd := ⟨idF aw15b, aw15b, 0, 1, 4⟩
def Xc : Nd := ⟨idF aw15c, aw15c, 0, 1, 10⟩
theorem xa_new : NewNd [] aw15a Xa := ⟨rfl, rfl, .inl ⟨rfl, rfl, rfl, aw15_wa.symm⟩⟩
theorem fb_none : findT [Xa] (idF aw15b) = none := by
  unfold findT
  simp only [List.map_cons, List.map_nil, idxH]
  rw [show Xa.id = idF aw15a from rfl, aw15_id, aw15_ab]
  rfl
theorem fp_a : findT [Xa] aw15I = some 0 := by
  unfold findT
  simp only [List.map_cons, List.map_nil, idxH]
  rw [show Xa.id = idF aw15a from rfl, aw15_id]
  simp
theorem fc_none : findT [Xa, Xb] (idF aw15c) = none := by
  unfold findT
  simp only [List.map_cons, List.map_nil, idxH]
  rw [show Xa.id = idF aw15a from rfl, aw15_id, aw15_ac, show Xb.id = idF aw15b from rfl, aw15_bc]
  rfl
theorem fp_c : findT [Xa, Xb] aw15I = some 0 := by
  unfold findT
  simp only [List.map_cons, List.map_nil, idxH]
  rw [show Xa.id = idF aw15a from rfl, aw15_id]
  simp
theorem xb_new : NewNd [Xa] aw15b Xb := ⟨rfl, rfl, .inr ⟨0, Xa, fp_a, rfl, rfl, rfl, by show (4 : Int) = addW 2 (workV 545259519); rw [aw15_wa]; decide⟩⟩
theorem xc_new : NewNd [Xa, Xb] aw15c Xc := ⟨rfl, rfl, .inr ⟨0, Xa, fp_c, rfl, rfl, rfl, by show (10 : Int) = addW 2 (workV 538968063); rw [aw15_wc]; decide⟩⟩
theorem new_uniq {l : List Nd} {h : Hd} {x y : Nd} (hx : NewNd l h x) (hy : NewNd l h y) : x = y := by
  obtain ⟨x1, x2, x3⟩ := hx
  obtain ⟨y1, y2, y3⟩ := hy
  obtain ⟨a1, a2, a3, a4, a5⟩ := x
  obtain ⟨b1, b2, b3, b4, b5⟩ := y
  simp only at *
  subst x1 x2 y1 y2
  rcases x3 with ⟨h1, rfl, rfl, rfl⟩ | ⟨j, z, hj, hz, rfl, rfl, rfl⟩ <;> rcases y3 with ⟨h1', rfl, rfl, rfl⟩ | ⟨j', z', hj', hz', rfl, rfl, rfl⟩
  · rfl
  · subst h1; simp at hz'
  · subst h1'; simp at hz
  · rw [hj] at hj'
    cases hj'
    rw [hz] at hz'
    cases hz'
    rfl
theorem best_uniq {l : List Nd} {a b : Int} (ha : BestT l a) (hb : BestT l b) : a = b := by
  rcases ha with ⟨h, rfl⟩ | ⟨k, x, rfl, hx, hall⟩ <;> rcases hb with ⟨h', rfl⟩ | ⟨k', x', rfl, hx', hall'⟩
  · rfl
  · subst h; simp at hx'
  · subst h'; simp at hx
  · have h1 := hall k' x' hx'
    have h2 := hall' k x hx
    rcases Nat.lt_trichotomy k k' with hlt | he | hgt
    · have := h2.2 hlt; omega
    · rw [he]
    · have := h1.2 hgt; omega
theorem tw_a : TW [Xa] := tw_push tw_nil aw15a_ok xa_new rfl
theorem tw_b : TW [Xa, Xb] := tw_push tw_a aw15b_ok xb_new fb_none
theorem best_a : BestT [Xa] 0 := .inr ⟨0, Xa, rfl, rfl, fun i y hy => by
  have hi := (List.getElem?_eq_some_iff.1 hy).1
  simp at hi
  subst hi
  simp at hy
  subst hy
  exact ⟨Int.le_refl _, fun h => by omega⟩⟩
theorem best_b : BestT [Xa, Xb] 1 := .inr ⟨1, Xb, rfl, rfl, fun i y hy => by
  have hi := (List.getElem?_eq_some_iff.1 hy).1
  simp at hi
  have h2 : i = 0 ∨ i = 1 := by omega
  rcases h2 with rfl | rfl <;> simp at hy <;> subst hy
  · exact ⟨by decide, fun _ => by decide⟩
  · exact ⟨Int.le_refl _, fun h => by omega⟩⟩
theorem best_c : BestT [Xa, Xb, Xc] 2 := .inr ⟨2, Xc, rfl, rfl, fun i y hy => by
  have hi := (List.getElem?_eq_some_iff.1 hy).1
  simp at hi
  have h2 : i = 0 ∨ i = 1 ∨ i = 2 := by omega
  rcases h2 with rfl | rfl | rfl <;> simp at hy <;> subst hy
  · exact ⟨by decide, fun _ => by decide⟩
  · exact ⟨by decide, fun _ => by decide⟩
  · exact ⟨Int.le_refl _, fun h => by omega⟩⟩
/-- a header that is new, with room, and a parent where one must be, is added so -/
theorem tadd_new {B : Nat} {w : World} {g : Nat} {most best best2 : Int} {l : List Nd} (ht : TreeAt B w g most best l) (hw : TW l) (hbt : BestT l best) (hlen : l.length ≤ 1000) (h : Hd) (ho : HdOk h) (hT : Tab w) (x : Nd) (hn : NewNd l h x) (hf : findT l (idF h) = none) (hm : (l.length : Int) < most) (hb2 : BestT (l ++ [x]) best2) :
    Calls Tryd.prog 10 #[.pointer (some ⟨g, 0, none⟩), hdV h] w fun e w' => e = .returned (.tuple #[.int .i64 (l.length : Int), .int .i64 0]) ∧ TreeAt B w' g most best2 (l ++ [x]) ∧ Below B w w' ∧ KeepT w w' := by
  refine (tadd_any ht hw hbt hlen h ho hT).mono ?_
  rintro e w' ⟨i, er, b', l', rfl, hr, htr, _, hbt', hb, hk⟩
  rcases hr with ⟨_, _, j, hj, _⟩ | ⟨_, _, _, _, hne, hp⟩ | ⟨_, _, _, _, hm2⟩ | ⟨rfl, rfl, _, _, y, hy, rfl⟩
  · rw [hf] at hj; cases hj
  · obtain ⟨_, _, h3⟩ := hn
    rcases h3 with ⟨h4, _⟩ | ⟨j, y, hj, _⟩
    · exact absurd h4 hne
    · rw [hp] at hj; cases hj
  · omega
  · have e1 := new_uniq hn hy
    subst e1
    have e2 := best_uniq hb2 hbt'
    subst e2
    exact ⟨rfl, htr, hb, hk⟩

/-- boxes of cells with their type -/
def MemT (T : TypeId) (w : World) (L : List (Nat × List Value)) : Prop := Mem w L ∧ ∀ p ∈ L, ∃ cs, w.heap[p.1]? = some (Obj.cells cs T (0, 0))
theorem MemT.later {T : TypeId} {w w' : World} {L : List (Nat × List Value)} (h : MemT T w L) (hb : Below w.heap.size w w') : MemT T w' L :=
  ⟨Mem.later hb h.1, fun p hp => by obtain ⟨cs, hc⟩ := h.2 p hp; exact ⟨cs, (hb.block p.1 (heap_lt hc)).trans hc⟩⟩
theorem mem_kept {w w' : World} (hs : w.heap.size ≤ w'.heap.size) : ∀ {L : List (Nat × List Value)}, (∀ p ∈ L, w'.heap[p.1]? = w.heap[p.1]?) → Mem w L → Mem w' L
  | [], _, _ => trivial
  | (b, vs) :: L, hd, h => by
    have hb : w'.heap[b]? = w.heap[b]? := hd (b, vs) List.mem_cons_self
    refine ⟨⟨Nat.lt_of_lt_of_le h.1.1 hs, fun i => ?_, cellsAt.map (fun i u hu => (World.cell?_of_block (a := ⟨b, i, none⟩) hb).trans hu) vs 0 h.1.2.2⟩, mem_kept hs (fun p hp => hd p (List.mem_cons_of_mem _ hp)) h.2⟩
    have := h.1.2.1 i
    unfold World.frozen? at *
    simp only [hb]
    exact this
theorem MemT.kept {T : TypeId} {w w' : World} {L : List (Nat × List Value)} (h : MemT T w L) (hs : w.heap.size ≤ w'.heap.size) (hk : KeepT w w') (h1 : T ≠ 32) (h2 : T ≠ 44) : MemT T w' L := by
  have hp : ∀ p ∈ L, w'.heap[p.1]? = w.heap[p.1]? := fun p hp => by
    obtain ⟨cs, hc⟩ := h.2 p hp
    rw [hk _ _ _ _ hc h1 h2, hc]
  exact ⟨mem_kept hs hp h.1, fun p hq => by obtain ⟨cs, hc⟩ := h.2 p hq; exact ⟨cs, (hp p hq).trans hc⟩⟩
theorem obj_setCells {g : Nat} {T : TypeId} {fz : Nat × Nat} : ∀ (vs : List Value) (o : Nat) (w : World) (cs : Array Value), w.heap[g]? = some (Obj.cells cs T fz) → ∃ cs', (w.setCells g o vs).heap[g]? = some (Obj.cells cs' T fz)
  | [], _, _, cs, h => ⟨cs, h⟩
  | v :: r, o, w, cs, h => by
    rw [World.setCells]
    exact obj_setCells r (o + 1) _ _ (obj_set h v)
theorem obj_farS {g k : Nat} (hk : k ≠ g) : ∀ (vs : List Value) (o : Nat) (w : World), (w.setCells g o vs).heap[k]? = w.heap[k]?
  | [], _, _ => rfl
  | v :: r, o, w => by
    rw [World.setCells, obj_farS hk r (o + 1) _]
    exact obj_far v hk
theorem wpList_store_newT {P : Program} {w : World} {ops : Array Oper} {rest : List Oper} {op : Oper} {a : Act} {Q : Exit → Act → World → Prop} (hgd : op.guard = none) (x y : Operand) (T : TypeId) (ho : op.op = .store T x y)
    (zs : Array Value) (vs : List Value) (d : TypeDesc) (hu : P.underlying T = some d) (hd : d.isRow = true) (hi : (P.info? T).map (·.size) = some vs.length) (hz : zs.size = vs.length) (h1 : ∀ u ∈ vs, u.oneCell' = true)
    (hx : a.eval x = .pointer (some ⟨w.heap.size, 0, none⟩)) (hy : a.eval y = .agg vs.toArray) {L : List (Nat × List Value)} (hm : MemT T w L)
    (h : ∀ W, MemT T W ((w.heap.size, vs) :: L) → Below w.heap.size w W → wpList P ops Q rest (a.put op.dst undef) W) : wpList P ops Q (op :: rest) a (w.alloc (.cells zs T)) := by
  have hal : Mem (w.alloc (.cells zs T)) ((w.heap.size, zs.toList) :: L) := by
    have := Mem.al hm.1 zs.toList T
    rwa [Array.toArray_toList] at this
  have hzl : zs.toList.length = zs.size := Array.length_toList
  have hth := thereW (n := vs.length) hal.1 (by omega)
  refine Go.wpList_store_mid hgd T x y ho w.heap.size 0 vs.toArray hx hy (by simpa using hth) (by rw [hi]; simp) (Go.all_oneCell_toArray h1) ?_
  refine h _ ⟨Mem.over (fun p hp => Nat.ne_of_lt (Mem.lt hm.1 p hp)) hal (by simp [hz]), ?_⟩ (bl_setCellsW (Nat.le_refl _) _ _ _ (below_alloc w _))
  intro p hp
  rcases List.mem_cons.1 hp with rfl | hp
  · exact obj_setCells _ _ _ _ (alloc_at w _)
  · obtain ⟨cs, hc⟩ := hm.2 p hp
    have hlt := heap_lt hc
    refine ⟨cs, ?_⟩
    rw [obj_farS (by omega)]
    exact ((below_alloc w (.cells zs T)).block p.1 hlt).trans hc
end Go.Proofs.YtfbhpkhpkaeagaaDoor

/- florinlaw15: awake (made by gen_tr7.py). (hM) -/
namespace Go.Proofs.YtfbhpkhpkaeagaaDoor
set_option linter.unusedVariables false
set_option linter.unusedSimpArgs false
open Go.RowKit

theorem wpList_buildX {P : Program} {w : World} {ops : Array Oper} {rest : List Oper} {o : Oper} {a : Act} {Q : Exit → Act → World → Prop} (hgd : o.guard = none) (T : TypeId) (xs : Array (Nat × Operand))
    (ho : o.op = .build T xs) (v : Value) {ys : Array (Nat × Value)} (hb : ∀ x, (Instr.build T ys).run P x = .ok v x) (hy : (xs.map fun p => (p.1, a.eval p.2)) = ys) (hk : wpList P ops Q rest (a.put o.dst v) w) : wpList P ops Q (o :: rest) a w := by
  refine wpList_plain hgd fun K hK => ?_
  have hb := hb w
  unfold Oper.wp execOp
  rw [ho]
  simp only [hy]
  rw [Sem.run_bind]
  simp only [hb, Result.andThen_ok]
  exact hK _ _ hk
set_option maxRecDepth 100000 in
theorem build_aw15a (x : World) : (Instr.build 26 #[(4, .int .u32 545259519)]).run Tryd.prog x = .ok (hdV aw15a) x := by kernel_rfl
set_option maxRecDepth 100000 in
theorem build_aw15b (x : World) : (Instr.build 26 #[(1, arr32 aw15I), (4, .int .u32 545259519)]).run Tryd.prog x = .ok (hdV aw15b) x := by kernel_rfl
set_option maxRecDepth 100000 in
theorem build_aw15c (x : World) : (Instr.build 26 #[(1, arr32 aw15I), (4, .int .u32 538968063)]).run Tryd.prog x = .ok (hdV aw15c) x := by kernel_rfl

set_option maxRecDepth 100000 in
set_option maxHeartbeats 8000000 in
theorem awake15_any (w : World) (hT : Tab w) : Calls Tryd.prog 8 #[] w fun e w' => e = .returned (.bool true) ∧ Below w.heap.size w w' := by
  have HNw := Lib.hid (fun (x : World) => tnew_any 9 (.inl rfl) x)
  have HId := Lib.hid (show ∀ (x : World), Below w.heap.size w x → Calls Tryd.prog 14 #[hdV aw15a] x fun e w' => e = .returned (arr32 aw15I) ∧ Below x.heap.size x w' from fun x hb => aw15_arr ▸ hid_any aw15a aw15a_ok x (hT.later hb))
  have HA1 := Lib.hid (show ∀ (x : World) (g : Nat), Below w.heap.size w x → TreeAt w.heap.size x g 9 0 [] → Calls Tryd.prog 10 #[.pointer (some ⟨g, 0, none⟩), hdV aw15a] x fun e w' => e = .returned (.tuple #[.int .i64 0, .int .i64 0]) ∧ TreeAt w.heap.size w' g 9 0 [Xa] ∧ Below w.heap.size x w' ∧ KeepT x w' from
    fun x g hb ht => tadd_new ht tw_nil (.inl ⟨rfl, rfl⟩) (by simp) aw15a aw15a_ok (hT.later hb) Xa xa_new rfl (by simp) best_a)
  have HA2 := Lib.hid (show ∀ (x : World) (g : Nat), Below w.heap.size w x → TreeAt w.heap.size x g 9 0 [Xa] → Calls Tryd.prog 10 #[.pointer (some ⟨g, 0, none⟩), hdV aw15b] x fun e w' => e = .returned (.tuple #[.int .i64 1, .int .i64 0]) ∧ TreeAt w.heap.size w' g 9 1 [Xa, Xb] ∧ Below w.heap.size x w' ∧ KeepT x w' from
    fun x g hb ht => tadd_new ht tw_a best_a (by simp) aw15b aw15b_ok (hT.later hb) Xb xb_new fb_none (by simp) best_b)
  have HA3 := Lib.hid (show ∀ (x : World) (g : Nat), Below w.heap.size w x → TreeAt w.heap.size x g 9 1 [Xa, Xb] → Calls Tryd.prog 10 #[.pointer (some ⟨g, 0, none⟩), hdV aw15c] x fun e w' => e = .returned (.tuple #[.int .i64 2, .int .i64 0]) ∧ TreeAt w.heap.size w' g 9 2 [Xa, Xb, Xc] ∧ Below w.heap.size x w' ∧ KeepT x w' from
    fun x g hb ht => tadd_new ht tw_b best_b (by simp) aw15c aw15c_ok (hT.later hb) Xc xc_new fc_none (by simp) best_c)
  have hzH : ∀ y : World, (zeroValue 26).run Tryd.prog y = .ok (.agg (hdL hd0).toArray) y := fun y => by kernel_rfl
  clear hT
  go_enter Tryd.func8, Tryd.ntmps8
  go_wp2_with (first |
    (go_at_call 9; (with_reducible refine (HNw.out _).mono ?_); rintro e w1 ⟨g, rfl, htr, hb⟩; have HTr := Lib.hid (htr w.heap.size (Nat.le_refl _)); have hB := hb; have HM : Hid (MemT 26 w1 []) := Lib.hid ⟨trivial, fun p hp => by cases hp⟩; clear htr hb) |
    ((with_reducible_and_instances refine at_build ?_); refine wpList_buildX rfl _ _ rfl _ build_aw15a ?_ ?_; (focus ((try simp only [List.map_toArray, List.map_cons, List.map_nil, Act.eval]); first | done | rfl))) |
    ((with_reducible_and_instances refine at_store 2 ?_); refine wpList_store_newT rfl (.tmp 2) (.tmp 12) 26 rfl _ (hdL aw15a) _ Tryd.underlying26 rfl (by rw [hdL_len]; kernel_rfl) (by rw [hdL_len]; rfl) (hdL_one _) rfl (rfl) HM.out ?_; intro W2 hMW hbW; obtain ⟨ga, hga⟩ : ∃ b, w1.heap.size = b := ⟨_, rfl⟩; rw [hga] at hMW; simp only [hga]; clear hga; have hTr2 := HTr.out.later hbW; have hB2 := bl_then hB hbW; clear HM HTr hB; have HM := Lib.hid hMW; have HTr := Lib.hid hTr2; have hB := hB2; clear hMW hTr2 hB2 hbW) |
    ((with_reducible_and_instances refine at_load 2 ?_); refine Go.wpList_load_mid rfl 26 (.tmp 2) rfl ga 0 rfl (hdL aw15a) _ (rangeAt_of (Mem.get HM.out.1 (by simp))) Tryd.underlying26 rfl (by rw [hdL_len]; kernel_rfl) ?_) |
    (go_at_call 10; (with_reducible refine (HA1.out _ _ hB HTr.out).mono ?_); rintro e w3 ⟨rfl, htr, hb, hk⟩; have HM2 := Lib.hid (HM.out.kept hb.size hk (by decide) (by decide)); have hB2 := hB.trans hb; clear HM HTr hB; have HM := HM2; have HTr := Lib.hid htr; have hB := hB2; clear HM2 htr hB2 hb hk) |
    (go_at_call 14; (with_reducible refine (HId.out _ hB).mono ?_); rintro e w5 ⟨rfl, hb⟩; have HM2 := Lib.hid (HM.out.later hb); have hTr2 := HTr.out.later hb; have hB2 := bl_then hB hb; clear HM HTr hB; have HM := HM2; have HTr := Lib.hid hTr2; have hB := hB2; clear HM2 hTr2 hB2 hb) |
    ((with_reducible_and_instances refine at_build ?_); refine wpList_buildX rfl _ _ rfl _ build_aw15b ?_ ?_; (focus ((try simp only [List.map_toArray, List.map_cons, List.map_nil, Act.eval]); first | done | rfl))) |
    ((with_reducible_and_instances refine at_store 3 ?_); refine wpList_store_newT rfl (.tmp 3) (.tmp 18) 26 rfl _ (hdL aw15b) _ Tryd.underlying26 rfl (by rw [hdL_len]; kernel_rfl) (by rw [hdL_len]; rfl) (hdL_one _) rfl (rfl) HM.out ?_; intro W3 hMW hbW; obtain ⟨gb, hgb⟩ : ∃ b, w5.heap.size = b := ⟨_, rfl⟩; rw [hgb] at hMW; simp only [hgb]; clear hgb; have hTr2 := HTr.out.later hbW; have hB2 := bl_then hB hbW; clear HM HTr hB; have HM := Lib.hid hMW; have HTr := Lib.hid hTr2; have hB := hB2; clear hMW hTr2 hB2 hbW) |
    ((with_reducible_and_instances refine at_build ?_); refine wpList_buildX rfl _ _ rfl _ build_aw15c ?_ ?_; (focus ((try simp only [List.map_toArray, List.map_cons, List.map_nil, Act.eval]); first | done | rfl))) |
    ((with_reducible_and_instances refine at_store 4 ?_); refine wpList_store_newT rfl (.tmp 4) (.tmp 21) 26 rfl _ (hdL aw15c) _ Tryd.underlying26 rfl (by rw [hdL_len]; kernel_rfl) (by rw [hdL_len]; rfl) (hdL_one _) rfl (rfl) HM.out ?_; intro W4 hMW hbW; obtain ⟨gc, hgc⟩ : ∃ b, w5.heap.size = b := ⟨_, rfl⟩; rw [hgc] at hMW; simp only [hgc]; clear hgc; have hTr2 := HTr.out.later hbW; have hB2 := bl_then hB hbW; clear HM HTr hB; have HM := Lib.hid hMW; have HTr := Lib.hid hTr2; have hB := hB2; clear hMW hTr2 hB2 hbW) |
    ((with_reducible_and_instances refine at_load 3 ?_); refine Go.wpList_load_mid rfl 26 (.tmp 3) rfl gb 0 rfl (hdL aw15b) _ (rangeAt_of (Mem.get HM.out.1 (by simp))) Tryd.underlying26 rfl (by rw [hdL_len]; kernel_rfl) ?_) |
    (go_at_call 10; (with_reducible refine (HA2.out _ _ hB HTr.out).mono ?_); rintro e w7 ⟨rfl, htr, hb, hk⟩; have HM2 := Lib.hid (HM.out.kept hb.size hk (by decide) (by decide)); have hB2 := hB.trans hb; clear HM HTr hB; have HM := HM2; have HTr := Lib.hid htr; have hB := hB2; clear HM2 htr hB2 hb hk) |
    (go_at_call 11; (with_reducible refine (tbest_any HTr.out (by simp)).mono ?_); rintro e w6 ⟨rfl, hb⟩; have HM2 := Lib.hid (HM.out.later hb); have hTr2 := HTr.out.later hb; have hB2 := bl_then hB hb; clear HM HTr hB; have HM := HM2; have HTr := Lib.hid hTr2; have hB := hB2; clear HM2 hTr2 hB2 hb) |
    ((with_reducible_and_instances refine at_load 4 ?_); refine Go.wpList_load_mid rfl 26 (.tmp 4) rfl gc 0 rfl (hdL aw15c) _ (rangeAt_of (Mem.get HM.out.1 (by simp))) Tryd.underlying26 rfl (by rw [hdL_len]; kernel_rfl) ?_) |
    (go_at_call 10; (with_reducible refine (HA3.out _ _ hB HTr.out).mono ?_); rintro e w8 ⟨rfl, htr, hb, hk⟩; have HM2 := Lib.hid (HM.out.kept hb.size hk (by decide) (by decide)); have hB2 := hB.trans hb; clear HM HTr hB; have HM := HM2; have HTr := Lib.hid htr; have hB := hB2; clear HM2 htr hB2 hb hk) |
    (go_at_call 16; (with_reducible refine (tlen_any HTr.out).mono ?_); rintro e w9 ⟨rfl, hb⟩; have HM2 := Lib.hid (HM.out.later hb); have hTr2 := HTr.out.later hb; have hB2 := bl_then hB hb; clear HM HTr hB; have HM := HM2; have HTr := Lib.hid hTr2; have hB := hB2; clear HM2 hTr2 hB2 hb))
  go_ret
  exact ⟨rfl, hB⟩
end Go.Proofs.YtfbhpkhpkaeagaaDoor

/- Package tree: Above, Common (made by gen_tr8.py). (hM) -/
namespace Go.Proofs.YtfbhpkhpkaeagaaDoor
set_option linter.unusedVariables false
set_option linter.unusedSimpArgs false
open Go.RowKit

/-- a number's parent, its height; the one so many steps down -/
def prN (l : List Nd) (i : Nat) : Nat := match l[i]? with | some x => x.par.toNat | none => 0
def htN (l : List Nd) (i : Nat) : Nat := match l[i]? with | some x => x.ht.toNat | none => 0
def ancN (l : List Nd) (i : Nat) : Nat → Nat
  | 0 => i
  | d + 1 => prN l (ancN l i d)
theorem htN_of {l : List Nd} {i : Nat} {x : Nd} (hw : TW l) (h : l[i]? = some x) : (htN l i : Int) = x.ht := by
  unfold htN
  rw [h]
  exact Int.toNat_of_nonneg (hw i x h).ht0
theorem prN_of {l : List Nd} {i : Nat} {x : Nd} (hw : TW l) (h : l[i]? = some x) (hp : 1 ≤ htN l i) : x.par = (prN l i : Int) ∧ prN l i < i ∧ htN l (prN l i) + 1 = htN l i := by
  have ho := hw i x h
  have hh := htN_of hw h
  rcases ho.up with ⟨_, _, h0, _⟩ | ⟨j, y, hj, hy, hpar, hht, _, _⟩
  · omega
  · have hpr : prN l i = j := by unfold prN; rw [h]; show x.par.toNat = j; rw [hpar]; simp
    have hy2 := htN_of hw hy
    rw [hpr]
    exact ⟨hpar, hj, by omega⟩
theorem ht_zero {l : List Nd} {i : Nat} {x : Nd} (hw : TW l) (h : l[i]? = some x) (h0 : htN l i = 0) : i = 0 := by
  have ho := hw i x h
  have hh := htN_of hw h
  rcases ho.up with ⟨h1, _⟩ | ⟨j, y, hj, hy, hpar, hht, _, _⟩
  · exact h1
  · have hy2 := htN_of hw hy
    omega
theorem get_lt {l : List Nd} {i : Nat} (h : i < l.length) : ∃ x, l[i]? = some x := ⟨_, List.getElem?_eq_getElem h⟩
theorem anc_ok {l : List Nd} (hw : TW l) {i : Nat} (hi : i < l.length) : ∀ d, d ≤ htN l i → ancN l i d < l.length ∧ htN l (ancN l i d) + d = htN l i
  | 0, _ => ⟨hi, rfl⟩
  | d + 1, h => by
    obtain ⟨h1, h2⟩ := anc_ok hw hi d (by omega)
    obtain ⟨x, hx⟩ := get_lt h1
    obtain ⟨_, h3, h4⟩ := prN_of hw hx (by omega)
    refine ⟨by show prN l (ancN l i d) < l.length; omega, ?_⟩
    show htN l (prN l (ancN l i d)) + (d + 1) = htN l i
    omega
theorem ht_int {l : List Nd} (hw : TW l) {i : Nat} {x : Nd} (h : l[i]? = some x) : x.ht ≤ 1000000 ∨ 1000000 < l.length := by
  have := (hw i x h).ht1
  have h2 := (List.getElem?_eq_some_iff.1 h).1
  omega

/-- the facts of one node, in every later world -/
theorem node_cells {B : Nat} {w : World} {g : Nat} {most best : Int} {l : List Nd} (ht : TreeAt B w g most best l) (hl : l ≠ []) : ∃ gr cap, (∀ x, Below w.heap.size w x → x.cell? ⟨g, 2, none⟩ = some (.slice (some ⟨gr, 0, none⟩) l.length cap)) ∧
    ∀ x, Below w.heap.size w x → ∀ (i : Nat) (y : Nd), l[i]? = some y → x.cell? ⟨gr, i * 106 + 100, none⟩ = some (.int .i64 y.par) ∧ x.cell? ⟨gr, i * 106 + 101, none⟩ = some (.int .i64 y.ht) := by
  obtain ⟨ao, cap, r, es, clk, hg, hr, he, ho, hBg, hBr⟩ := ht
  have h0 : 0 < l.length := by
    rcases Nat.eq_zero_or_pos l.length with h0 | h0
    · exact absurd (List.eq_nil_of_length_eq_zero h0) hl
    · exact h0
  obtain ⟨x0, hx0⟩ := get_lt h0
  obtain ⟨gr, rfl, hgr1, hgr, _⟩ := own_node ho hx0
  refine ⟨gr, cap, fun x hb => obj_cell (i := 2) ((hb.block g (heap_lt hg)).trans hg) rfl, fun x hb i y hy => ?_⟩
  obtain ⟨gr', hgr', _, _, hrg⟩ := own_node ho hy
  cases hgr'
  exact ⟨(hb.cell (p := ⟨gr, _, none⟩) hgr).trans (hrg 100 _ (ndL_par y)), (hb.cell (p := ⟨gr, _, none⟩) hgr).trans (hrg 101 _ (ndL_ht y))⟩

def AbRel (w : World) (l : List Nd) (i0 D : Nat) (i : Value) (wr : World) : Prop := ∃ d : Nat, d ≤ D ∧ i = .int .i64 (ancN l i0 d : Int) ∧ Below w.heap.size w wr

set_option maxRecDepth 100000 in
set_option maxHeartbeats 8000000 in
theorem tabove_yes {B : Nat} {w : World} {g : Nat} {most best : Int} {l : List Nd} (ht : TreeAt B w g most best l) (hw : TW l) (i : Nat) (hi : i < l.length) (H : Nat) (hH : H ≤ htN l i) :
    Calls Tryd.prog 22 #[.pointer (some ⟨g, 0, none⟩), .int .i64 (i : Int), .int .i64 (H : Int)] w fun e w' => e = .returned (.tuple #[.int .i64 (ancN l i (htN l i - H) : Int), .bool true]) ∧ Below w.heap.size w w' := by
  obtain ⟨y, hy⟩ := get_lt hi
  have hyh := htN_of hw hy
  have hne : l ≠ [] := by rintro rfl; simp at hi
  have HNd := Lib.hid (fun (x : World) (hb : Below w.heap.size w x) => tnode_yes (ht.later hb) i y hy)
  obtain ⟨gr, cap, hc2, hcn⟩ := node_cells ht hne
  have HC2 := Lib.hid hc2
  have HCn := Lib.hid hcn
  have HW := Lib.hid hw
  have HI := Lib.hid (And.intro hi hH)
  have hM := Lib.hid (mem_nil w)
  have hB := Below.refl w.heap.size w
  have hF : True := trivial
  have d1 : decide ((H : Int) < 0) = false := decide_eq_false (by omega)
  have d2 : decide (y.ht < (H : Int)) = false := decide_eq_false (by omega)
  have d3 : ¬ (H : Int) < 0 := by omega
  have d4 : ¬ y.ht < (H : Int) := by omega
  have hz : ∀ x : World, (zeroValue 44).run Tryd.prog x = .ok (.agg (ndL nd0).toArray) x := fun x => by kernel_rfl
  clear hyh hne hc2 hcn hy ht hw hi hH
  go_enter Tryd.func22, Tryd.ntmps22
  go_wp2_with (first |
    (go_at_call 12; (with_reducible refine (HNd.out _ hB).mono ?_); rintro e w1 ⟨rfl, hb⟩; have hB : Below w.heap.size w w1 := (by refine bl_then ?_ hb; (repeat (first | exact hB | refine bl_al ?_ _ | refine Below.setCell ?_ (by first | exact hgs | exact Nat.le_succ_of_le hgs | exact hgs2 | exact hgs3) _ | refine Below.drew ?_ | refine bl_drewN ?_ _))); (first | with_reducible have hM2 := Mem.later hb (hM.out) | with_reducible have hM2 := Mem.later hb (Mem.al (hM.out) _ _) | with_reducible have hM2 := Mem.later hb (Mem.al (Mem.al (hM.out) _ _) _ _) | with_reducible have hM2 := Mem.later hb (Mem.al (Mem.al (Mem.al (hM.out) _ _) _ _) _ _) | with_reducible have hM2 := Mem.later hb (Mem.al (Mem.al (Mem.al (Mem.al (hM.out) _ _) _ _) _ _) _ _) | with_reducible have hM2 := Mem.later hb (Mem.drew (hM.out)) | with_reducible have hM2 := Mem.later hb (Mem.drew (Mem.al (hM.out) _ _)) | with_reducible have hM2 := Mem.later hb (Mem.al (Mem.drew (hM.out)) _ _) | with_reducible have hM2 := Mem.later hb (Mem.al (Mem.drew (Mem.al (hM.out) _ _)) _ _) | with_reducible have hM2 := Mem.later hb (Mem.drew (Mem.al (Mem.al (hM.out) _ _) _ _)) | with_reducible have hM2 := Mem.later hb (Mem.al (Mem.al (Mem.drew (hM.out)) _ _) _ _) | with_reducible have hM2 := Mem.later hb (Mem.drew (Mem.drew (hM.out))) | with_reducible have hM2 := Mem.later hb (Mem.drew (Mem.al (Mem.drew (hM.out)) _ _)) | with_reducible have hM2 := Mem.later hb (Mem.drew (Mem.al (Mem.al (Mem.al (hM.out) _ _) _ _) _ _)) | with_reducible have hM2 := Mem.later hb (Mem.al (Mem.al (Mem.drew (Mem.al (hM.out) _ _)) _ _) _ _) | with_reducible have hM2 := Mem.later hb (Mem.drew (Mem.al (Mem.drew (Mem.al (hM.out) _ _)) _ _)) | with_reducible have hM2 := Mem.later hb (Mem.al (Mem.al (Mem.al (Mem.al (Mem.al (hM.out) _ _) _ _) _ _) _ _) _ _) | with_reducible have hM2 := Mem.later hb (Mem.al (Mem.al (Mem.al (Mem.al (Mem.al (Mem.al (hM.out) _ _) _ _) _ _) _ _) _ _) _ _) | with_reducible have hM2 := Mem.later hb (Mem.al (Mem.al (Mem.al (Mem.al (Mem.al (Mem.al (Mem.al (hM.out) _ _) _ _) _ _) _ _) _ _) _ _) _ _) | with_reducible have hM2 := Mem.later hb (Mem.al (Mem.al (Mem.al (Mem.al (Mem.al (Mem.al (Mem.al (Mem.al (hM.out) _ _) _ _) _ _) _ _) _ _) _ _) _ _) _ _)); (try simp only [World.size_alloc, size_drew] at hM2); clear hM; have hM := Lib.hid hM2; clear hF; have hF := hM2; (try simp only [Mem, cellsAt, World.size_alloc, Nat.zero_add, Nat.reduceAdd, and_true] at hF); clear hM2; clear hb; clear hF; have hF : True := trivial) |
    ((with_reducible_and_instances refine at_store 8 ?_); refine wpList_store_newV rfl (.tmp 8) (.tmp 14) 44 rfl _ (ndL y) _ Tryd.underlying44 rfl (by rw [ndL_len]; kernel_rfl) (by rw [ndL_len]; rfl) (ndL_one y) rfl (rfl) hM.out ?_; intro W2 hMW hbW; have hBW := bl_then hB hbW; obtain ⟨g8, hg8⟩ : ∃ b, w1.heap.size = b := ⟨_, rfl⟩; rw [hg8] at hMW; simp only [hg8]; clear hg8; clear hM hF hB; have hM := Lib.hid hMW; have hB := hBW; have hF : True := trivial; clear hMW hbW hBW; have ch := cellsAt_get (Mem.get hM.out List.mem_cons_self) (ndL_ht y)))
  have HB0 := Lib.hid hB
  clear hM hB hF ch d1 d2 d3 d4 hz
  go_loopw [1] (fun i' wr => AbRel w l i (htN l i - H) i' wr) (fun i' _ => (intOf i').toNat)
  case atStart => exact ⟨0, Nat.zero_le _, rfl, HB0.out⟩
  case round =>
    obtain ⟨d, hd, rfl, hB⟩ := hrel
    clear HB0
    have h1 := HI.out.1
    have h2 := HI.out.2
    obtain ⟨ha, hb⟩ := anc_ok HW.out h1 d (by omega)
    obtain ⟨a, hae⟩ : ∃ a, ancN l i d = a := ⟨_, rfl⟩
    rw [hae] at ha hb
    rw [hae]
    obtain ⟨z, hz⟩ := get_lt ha
    have hzh := htN_of HW.out hz
    have c2 := HC2.out _ hB
    obtain ⟨cp, ch⟩ := HCn.out _ hB a z hz
    have hai : (a : Int) < (l.length : Int) := by omega
    obtain ⟨n, hn⟩ : ∃ n, l.length = n := ⟨_, rfl⟩
    rw [hn] at c2 hai ha
    by_cases hlt : d < htN l i - H
    · have k1 : (H : Int) < z.ht := by omega
      obtain ⟨p1, p2, p3⟩ := prN_of HW.out hz (by omega)
      rw [p1] at cp
      have HD := Lib.hid (And.intro hlt (And.intro hae (And.intro p2 h1)))
      clear hd h1 h2 hb hz hzh hn hae hlt p1 p2 p3
      go_wp2
      have e1 : ancN l i (d + 1) = prN l a := by show prN l (ancN l i d) = _; rw [HD.out.2.1]
      refine ⟨⟨d + 1, by have := HD.out.1; omega, by rw [e1], hB⟩, ?_⟩
      have := HD.out.2.2.1
      simp only [intOf]
      omega
    · have hde : d = htN l i - H := by omega
      have k1 : ¬ (H : Int) < z.ht := by omega
      have HD := Lib.hid (And.intro hde hae)
      clear hd h1 h2 hb hz hzh hn hae hlt hde
      go_wp2
      go_ret2
      have e : ancN l i (htN l i - H) = a := by rw [← HD.out.1]; exact HD.out.2
      rw [e]
      exact ⟨rfl, hB⟩
set_option maxRecDepth 100000 in
set_option maxHeartbeats 8000000 in
/-- a height above it -/
theorem tabove_no {B : Nat} {w : World} {g : Nat} {most best : Int} {l : List Nd} (ht : TreeAt B w g most best l) (hw : TW l) (i : Nat) (hi : i < l.length) (H : Nat) (hH : htN l i < H) :
    Calls Tryd.prog 22 #[.pointer (some ⟨g, 0, none⟩), .int .i64 (i : Int), .int .i64 (H : Int)] w fun e w' => e = .returned (.tuple #[.int .i64 0, .bool false]) ∧ Below w.heap.size w w' := by
  obtain ⟨y, hy⟩ := get_lt hi
  have hyh := htN_of hw hy
  have HNd := Lib.hid (fun (x : World) (hb : Below w.heap.size w x) => tnode_yes (ht.later hb) i y hy)
  have hM := Lib.hid (mem_nil w)
  have hB := Below.refl w.heap.size w
  have hF : True := trivial
  have d1 : decide ((H : Int) < 0) = false := decide_eq_false (by omega)
  have d2 : decide (y.ht < (H : Int)) = true := decide_eq_true (by omega)
  have d3 : ¬ (H : Int) < 0 := by omega
  have d4 : y.ht < (H : Int) := by omega
  have hz : ∀ x : World, (zeroValue 44).run Tryd.prog x = .ok (.agg (ndL nd0).toArray) x := fun x => by kernel_rfl
  clear hyh hy ht hw hi hH
  go_enter Tryd.func22, Tryd.ntmps22
  go_wp2_with (first |
    (go_at_call 12; (with_reducible refine (HNd.out _ hB).mono ?_); rintro e w1 ⟨rfl, hb⟩; have hB : Below w.heap.size w w1 := (by refine bl_then ?_ hb; (repeat (first | exact hB | refine bl_al ?_ _ | refine Below.setCell ?_ (by first | exact hgs | exact Nat.le_succ_of_le hgs | exact hgs2 | exact hgs3) _ | refine Below.drew ?_ | refine bl_drewN ?_ _))); (first | with_reducible have hM2 := Mem.later hb (hM.out) | with_reducible have hM2 := Mem.later hb (Mem.al (hM.out) _ _) | with_reducible have hM2 := Mem.later hb (Mem.al (Mem.al (hM.out) _ _) _ _) | with_reducible have hM2 := Mem.later hb (Mem.al (Mem.al (Mem.al (hM.out) _ _) _ _) _ _) | with_reducible have hM2 := Mem.later hb (Mem.al (Mem.al (Mem.al (Mem.al (hM.out) _ _) _ _) _ _) _ _) | with_reducible have hM2 := Mem.later hb (Mem.drew (hM.out)) | with_reducible have hM2 := Mem.later hb (Mem.drew (Mem.al (hM.out) _ _)) | with_reducible have hM2 := Mem.later hb (Mem.al (Mem.drew (hM.out)) _ _) | with_reducible have hM2 := Mem.later hb (Mem.al (Mem.drew (Mem.al (hM.out) _ _)) _ _) | with_reducible have hM2 := Mem.later hb (Mem.drew (Mem.al (Mem.al (hM.out) _ _) _ _)) | with_reducible have hM2 := Mem.later hb (Mem.al (Mem.al (Mem.drew (hM.out)) _ _) _ _) | with_reducible have hM2 := Mem.later hb (Mem.drew (Mem.drew (hM.out))) | with_reducible have hM2 := Mem.later hb (Mem.drew (Mem.al (Mem.drew (hM.out)) _ _)) | with_reducible have hM2 := Mem.later hb (Mem.drew (Mem.al (Mem.al (Mem.al (hM.out) _ _) _ _) _ _)) | with_reducible have hM2 := Mem.later hb (Mem.al (Mem.al (Mem.drew (Mem.al (hM.out) _ _)) _ _) _ _) | with_reducible have hM2 := Mem.later hb (Mem.drew (Mem.al (Mem.drew (Mem.al (hM.out) _ _)) _ _)) | with_reducible have hM2 := Mem.later hb (Mem.al (Mem.al (Mem.al (Mem.al (Mem.al (hM.out) _ _) _ _) _ _) _ _) _ _) | with_reducible have hM2 := Mem.later hb (Mem.al (Mem.al (Mem.al (Mem.al (Mem.al (Mem.al (hM.out) _ _) _ _) _ _) _ _) _ _) _ _) | with_reducible have hM2 := Mem.later hb (Mem.al (Mem.al (Mem.al (Mem.al (Mem.al (Mem.al (Mem.al (hM.out) _ _) _ _) _ _) _ _) _ _) _ _) _ _) | with_reducible have hM2 := Mem.later hb (Mem.al (Mem.al (Mem.al (Mem.al (Mem.al (Mem.al (Mem.al (Mem.al (hM.out) _ _) _ _) _ _) _ _) _ _) _ _) _ _) _ _)); (try simp only [World.size_alloc, size_drew] at hM2); clear hM; have hM := Lib.hid hM2; clear hF; have hF := hM2; (try simp only [Mem, cellsAt, World.size_alloc, Nat.zero_add, Nat.reduceAdd, and_true] at hF); clear hM2; clear hb; clear hF; have hF : True := trivial) |
    ((with_reducible_and_instances refine at_store 8 ?_); refine wpList_store_newV rfl (.tmp 8) (.tmp 14) 44 rfl _ (ndL y) _ Tryd.underlying44 rfl (by rw [ndL_len]; kernel_rfl) (by rw [ndL_len]; rfl) (ndL_one y) rfl (rfl) hM.out ?_; intro W2 hMW hbW; have hBW := bl_then hB hbW; obtain ⟨g8, hg8⟩ : ∃ b, w1.heap.size = b := ⟨_, rfl⟩; rw [hg8] at hMW; simp only [hg8]; clear hg8; clear hM hF hB; have hM := Lib.hid hMW; have hB := hBW; have hF : True := trivial; clear hMW hbW hBW; have ch := cellsAt_get (Mem.get hM.out List.mem_cons_self) (ndL_ht y)))
  go_ret2
  exact ⟨rfl, hB⟩

/-- what is common to two lines: the first one at which they meet -/
def CmR (l : List Nd) (i j c : Nat) : Prop := ∃ K : Nat, K ≤ min (htN l i) (htN l j) ∧ ancN l i (htN l i - min (htN l i) (htN l j) + K) = c ∧ ancN l j (htN l j - min (htN l i) (htN l j) + K) = c ∧ ∀ k, k < K → ancN l i (htN l i - min (htN l i) (htN l j) + k) ≠ ancN l j (htN l j - min (htN l i) (htN l j) + k)
theorem cm_swap {l : List Nd} {i j c d : Nat} (h : CmR l i j c) (k : CmR l j i d) : c = d := by
  obtain ⟨K, h1, h2, h3, h4⟩ := h
  obtain ⟨K', k1, k2, k3, k4⟩ := k
  rw [Nat.min_comm (htN l j) (htN l i)] at k1 k2 k3 k4
  have k4' := k4
  rcases Nat.lt_trichotomy K K' with hlt | he | hgt
  · exact absurd (h3.trans h2.symm) (k4' K hlt)
  · subst he
    rw [← h2, ← k3]
  · exact absurd (k3.trans k2.symm) (h4 K' hgt)
def CmRel (w : World) (l : List Nd) (i j : Nat) (a b : Value) (wr : World) : Prop :=
  ∃ k : Nat, k ≤ min (htN l i) (htN l j) ∧ a = .int .i64 (ancN l i (htN l i - min (htN l i) (htN l j) + k) : Int) ∧ b = .int .i64 (ancN l j (htN l j - min (htN l i) (htN l j) + k) : Int) ∧ Below w.heap.size w wr ∧
    ∀ k', k' < k → ancN l i (htN l i - min (htN l i) (htN l j) + k') ≠ ancN l j (htN l j - min (htN l i) (htN l j) + k')

set_option maxRecDepth 100000 in
set_option maxHeartbeats 8000000 in
theorem tcommon_any {B : Nat} {w : World} {g : Nat} {most best : Int} {l : List Nd} (ht : TreeAt B w g most best l) (hw : TW l) (i j : Nat) (hi : i < l.length) (hj : j < l.length) :
    Calls Tryd.prog 15 #[.pointer (some ⟨g, 0, none⟩), .int .i64 (i : Int), .int .i64 (j : Int)] w fun e w' => ∃ c : Nat, e = .returned (.tuple #[.int .i64 (c : Int), .bool true]) ∧ CmR l i j c ∧ Below w.heap.size w w' := by
  obtain ⟨y, hy⟩ := get_lt hi
  obtain ⟨z, hz⟩ := get_lt hj
  have hyh := htN_of hw hy
  have hzh := htN_of hw hz
  have hne : l ≠ [] := by rintro rfl; simp at hi
  obtain ⟨M, hM0⟩ : ∃ M, min (htN l i) (htN l j) = M := ⟨_, rfl⟩
  have HNd := Lib.hid (fun (x : World) (hb : Below w.heap.size w x) => tnode_yes (ht.later hb) i y hy)
  have HNd2 := Lib.hid (fun (x : World) (hb : Below w.heap.size w x) => tnode_yes (ht.later hb) j z hz)
  have HA1 := Lib.hid (fun (x : World) (hb : Below w.heap.size w x) => tabove_yes (ht.later hb) hw i hi M (by omega))
  have HA2 := Lib.hid (fun (x : World) (hb : Below w.heap.size w x) => tabove_yes (ht.later hb) hw j hj M (by omega))
  have e1 : min y.ht z.ht = (M : Int) := by omega
  have e2 : (if y.ht ≤ z.ht then y.ht else z.ht) = (M : Int) := by split <;> omega
  obtain ⟨gr, cap, hc2, hcn⟩ := node_cells ht hne
  have HC2 := Lib.hid hc2
  have HCn := Lib.hid hcn
  have HW := Lib.hid hw
  have HI := Lib.hid (And.intro hi (And.intro hj hM0))
  have hM := Lib.hid (mem_nil w)
  have hB := Below.refl w.heap.size w
  have hF : True := trivial
  have hz0 : ∀ x : World, (zeroValue 44).run Tryd.prog x = .ok (.agg (ndL nd0).toArray) x := fun x => by kernel_rfl
  clear hyh hzh hne hc2 hcn hy hz ht hw hi hj hM0
  go_enter Tryd.func15, Tryd.ntmps15
  go_wp2_with (first |
    (go_at_call 12; (with_reducible refine (HNd.out _ hB).mono ?_); rintro e w1 ⟨rfl, hb⟩; have hB : Below w.heap.size w w1 := (by refine bl_then ?_ hb; (repeat (first | exact hB | refine bl_al ?_ _ | refine Below.setCell ?_ (by first | exact hgs | exact Nat.le_succ_of_le hgs | exact hgs2 | exact hgs3) _ | refine Below.drew ?_ | refine bl_drewN ?_ _))); (first | with_reducible have hM2 := Mem.later hb (hM.out) | with_reducible have hM2 := Mem.later hb (Mem.al (hM.out) _ _) | with_reducible have hM2 := Mem.later hb (Mem.al (Mem.al (hM.out) _ _) _ _) | with_reducible have hM2 := Mem.later hb (Mem.al (Mem.al (Mem.al (hM.out) _ _) _ _) _ _) | with_reducible have hM2 := Mem.later hb (Mem.al (Mem.al (Mem.al (Mem.al (hM.out) _ _) _ _) _ _) _ _) | with_reducible have hM2 := Mem.later hb (Mem.drew (hM.out)) | with_reducible have hM2 := Mem.later hb (Mem.drew (Mem.al (hM.out) _ _)) | with_reducible have hM2 := Mem.later hb (Mem.al (Mem.drew (hM.out)) _ _) | with_reducible have hM2 := Mem.later hb (Mem.al (Mem.drew (Mem.al (hM.out) _ _)) _ _) | with_reducible have hM2 := Mem.later hb (Mem.drew (Mem.al (Mem.al (hM.out) _ _) _ _)) | with_reducible have hM2 := Mem.later hb (Mem.al (Mem.al (Mem.drew (hM.out)) _ _) _ _) | with_reducible have hM2 := Mem.later hb (Mem.drew (Mem.drew (hM.out))) | with_reducible have hM2 := Mem.later hb (Mem.drew (Mem.al (Mem.drew (hM.out)) _ _)) | with_reducible have hM2 := Mem.later hb (Mem.drew (Mem.al (Mem.al (Mem.al (hM.out) _ _) _ _) _ _)) | with_reducible have hM2 := Mem.later hb (Mem.al (Mem.al (Mem.drew (Mem.al (hM.out) _ _)) _ _) _ _) | with_reducible have hM2 := Mem.later hb (Mem.drew (Mem.al (Mem.drew (Mem.al (hM.out) _ _)) _ _)) | with_reducible have hM2 := Mem.later hb (Mem.al (Mem.al (Mem.al (Mem.al (Mem.al (hM.out) _ _) _ _) _ _) _ _) _ _) | with_reducible have hM2 := Mem.later hb (Mem.al (Mem.al (Mem.al (Mem.al (Mem.al (Mem.al (hM.out) _ _) _ _) _ _) _ _) _ _) _ _) | with_reducible have hM2 := Mem.later hb (Mem.al (Mem.al (Mem.al (Mem.al (Mem.al (Mem.al (Mem.al (hM.out) _ _) _ _) _ _) _ _) _ _) _ _) _ _) | with_reducible have hM2 := Mem.later hb (Mem.al (Mem.al (Mem.al (Mem.al (Mem.al (Mem.al (Mem.al (Mem.al (hM.out) _ _) _ _) _ _) _ _) _ _) _ _) _ _) _ _)); (try simp only [World.size_alloc, size_drew] at hM2); clear hM; have hM := Lib.hid hM2; clear hF; have hF := hM2; (try simp only [Mem, cellsAt, World.size_alloc, Nat.zero_add, Nat.reduceAdd, and_true] at hF); clear hM2; clear hb; clear hF; have hF : True := trivial) |
    ((with_reducible_and_instances refine at_store 8 ?_); refine wpList_store_newV rfl (.tmp 8) (.tmp 17) 44 rfl _ (ndL y) _ Tryd.underlying44 rfl (by rw [ndL_len]; kernel_rfl) (by rw [ndL_len]; rfl) (ndL_one y) rfl (rfl) hM.out ?_; intro W2 hMW hbW; have hBW := bl_then hB hbW; obtain ⟨g8, hg8⟩ : ∃ b, w1.heap.size = b := ⟨_, rfl⟩; rw [hg8] at hMW; simp only [hg8]; clear hg8; clear hM hF hB; have hM := Lib.hid hMW; have hB := hBW; have hF : True := trivial; clear hMW hbW hBW) |
    (go_at_call 12; (with_reducible refine (HNd2.out _ hB).mono ?_); rintro e w3 ⟨rfl, hb⟩; have hB : Below w.heap.size w w3 := (by refine bl_then ?_ hb; (repeat (first | exact hB | refine bl_al ?_ _ | refine Below.setCell ?_ (by first | exact hgs | exact Nat.le_succ_of_le hgs | exact hgs2 | exact hgs3) _ | refine Below.drew ?_ | refine bl_drewN ?_ _))); (first | with_reducible have hM2 := Mem.later hb (hM.out) | with_reducible have hM2 := Mem.later hb (Mem.al (hM.out) _ _) | with_reducible have hM2 := Mem.later hb (Mem.al (Mem.al (hM.out) _ _) _ _) | with_reducible have hM2 := Mem.later hb (Mem.al (Mem.al (Mem.al (hM.out) _ _) _ _) _ _) | with_reducible have hM2 := Mem.later hb (Mem.al (Mem.al (Mem.al (Mem.al (hM.out) _ _) _ _) _ _) _ _) | with_reducible have hM2 := Mem.later hb (Mem.drew (hM.out)) | with_reducible have hM2 := Mem.later hb (Mem.drew (Mem.al (hM.out) _ _)) | with_reducible have hM2 := Mem.later hb (Mem.al (Mem.drew (hM.out)) _ _) | with_reducible have hM2 := Mem.later hb (Mem.al (Mem.drew (Mem.al (hM.out) _ _)) _ _) | with_reducible have hM2 := Mem.later hb (Mem.drew (Mem.al (Mem.al (hM.out) _ _) _ _)) | with_reducible have hM2 := Mem.later hb (Mem.al (Mem.al (Mem.drew (hM.out)) _ _) _ _) | with_reducible have hM2 := Mem.later hb (Mem.drew (Mem.drew (hM.out))) | with_reducible have hM2 := Mem.later hb (Mem.drew (Mem.al (Mem.drew (hM.out)) _ _)) | with_reducible have hM2 := Mem.later hb (Mem.drew (Mem.al (Mem.al (Mem.al (hM.out) _ _) _ _) _ _)) | with_reducible have hM2 := Mem.later hb (Mem.al (Mem.al (Mem.drew (Mem.al (hM.out) _ _)) _ _) _ _) | with_reducible have hM2 := Mem.later hb (Mem.drew (Mem.al (Mem.drew (Mem.al (hM.out) _ _)) _ _)) | with_reducible have hM2 := Mem.later hb (Mem.al (Mem.al (Mem.al (Mem.al (Mem.al (hM.out) _ _) _ _) _ _) _ _) _ _) | with_reducible have hM2 := Mem.later hb (Mem.al (Mem.al (Mem.al (Mem.al (Mem.al (Mem.al (hM.out) _ _) _ _) _ _) _ _) _ _) _ _) | with_reducible have hM2 := Mem.later hb (Mem.al (Mem.al (Mem.al (Mem.al (Mem.al (Mem.al (Mem.al (hM.out) _ _) _ _) _ _) _ _) _ _) _ _) _ _) | with_reducible have hM2 := Mem.later hb (Mem.al (Mem.al (Mem.al (Mem.al (Mem.al (Mem.al (Mem.al (Mem.al (hM.out) _ _) _ _) _ _) _ _) _ _) _ _) _ _) _ _)); (try simp only [World.size_alloc, size_drew] at hM2); clear hM; have hM := Lib.hid hM2; clear hF; have hF := hM2; (try simp only [Mem, cellsAt, World.size_alloc, Nat.zero_add, Nat.reduceAdd, and_true] at hF); clear hM2; clear hb; clear hF; have hF : True := trivial) |
    ((with_reducible_and_instances refine at_store 10 ?_); refine wpList_store_newV rfl (.tmp 10) (.tmp 23) 44 rfl _ (ndL z) _ Tryd.underlying44 rfl (by rw [ndL_len]; kernel_rfl) (by rw [ndL_len]; rfl) (ndL_one z) rfl (rfl) hM.out ?_; intro W4 hMW hbW; have hBW := bl_then hB hbW; obtain ⟨g10, hg10⟩ : ∃ b, w3.heap.size = b := ⟨_, rfl⟩; rw [hg10] at hMW; simp only [hg10]; clear hg10; clear hM hF hB; have hM := Lib.hid hMW; have hB := hBW; have hF : True := trivial; clear hMW hbW hBW; have cz := cellsAt_get (Mem.get hM.out List.mem_cons_self) (ndL_ht z); have ch := cellsAt_get (Mem.get (b := g8) (vs := ndL y) hM.out (by simp)) (ndL_ht y)) |
    (go_at_call 22; (with_reducible refine (HA1.out _ hB).mono ?_); rintro e w5 ⟨rfl, hb⟩; have hB : Below w.heap.size w w5 := (by refine bl_then ?_ hb; (repeat (first | exact hB | refine bl_al ?_ _ | refine Below.setCell ?_ (by first | exact hgs | exact Nat.le_succ_of_le hgs | exact hgs2 | exact hgs3) _ | refine Below.drew ?_ | refine bl_drewN ?_ _))); (first | with_reducible have hM2 := Mem.later hb (hM.out) | with_reducible have hM2 := Mem.later hb (Mem.al (hM.out) _ _) | with_reducible have hM2 := Mem.later hb (Mem.al (Mem.al (hM.out) _ _) _ _) | with_reducible have hM2 := Mem.later hb (Mem.al (Mem.al (Mem.al (hM.out) _ _) _ _) _ _) | with_reducible have hM2 := Mem.later hb (Mem.al (Mem.al (Mem.al (Mem.al (hM.out) _ _) _ _) _ _) _ _) | with_reducible have hM2 := Mem.later hb (Mem.drew (hM.out)) | with_reducible have hM2 := Mem.later hb (Mem.drew (Mem.al (hM.out) _ _)) | with_reducible have hM2 := Mem.later hb (Mem.al (Mem.drew (hM.out)) _ _) | with_reducible have hM2 := Mem.later hb (Mem.al (Mem.drew (Mem.al (hM.out) _ _)) _ _) | with_reducible have hM2 := Mem.later hb (Mem.drew (Mem.al (Mem.al (hM.out) _ _) _ _)) | with_reducible have hM2 := Mem.later hb (Mem.al (Mem.al (Mem.drew (hM.out)) _ _) _ _) | with_reducible have hM2 := Mem.later hb (Mem.drew (Mem.drew (hM.out))) | with_reducible have hM2 := Mem.later hb (Mem.drew (Mem.al (Mem.drew (hM.out)) _ _)) | with_reducible have hM2 := Mem.later hb (Mem.drew (Mem.al (Mem.al (Mem.al (hM.out) _ _) _ _) _ _)) | with_reducible have hM2 := Mem.later hb (Mem.al (Mem.al (Mem.drew (Mem.al (hM.out) _ _)) _ _) _ _) | with_reducible have hM2 := Mem.later hb (Mem.drew (Mem.al (Mem.drew (Mem.al (hM.out) _ _)) _ _)) | with_reducible have hM2 := Mem.later hb (Mem.al (Mem.al (Mem.al (Mem.al (Mem.al (hM.out) _ _) _ _) _ _) _ _) _ _) | with_reducible have hM2 := Mem.later hb (Mem.al (Mem.al (Mem.al (Mem.al (Mem.al (Mem.al (hM.out) _ _) _ _) _ _) _ _) _ _) _ _) | with_reducible have hM2 := Mem.later hb (Mem.al (Mem.al (Mem.al (Mem.al (Mem.al (Mem.al (Mem.al (hM.out) _ _) _ _) _ _) _ _) _ _) _ _) _ _) | with_reducible have hM2 := Mem.later hb (Mem.al (Mem.al (Mem.al (Mem.al (Mem.al (Mem.al (Mem.al (Mem.al (hM.out) _ _) _ _) _ _) _ _) _ _) _ _) _ _) _ _)); (try simp only [World.size_alloc, size_drew] at hM2); clear hM; have hM := Lib.hid hM2; clear hF; have hF := hM2; (try simp only [Mem, cellsAt, World.size_alloc, Nat.zero_add, Nat.reduceAdd, and_true] at hF); clear hM2; clear hb; clear hF; have hF : True := trivial) |
    (go_at_call 22; (with_reducible refine (HA2.out _ hB).mono ?_); rintro e w6 ⟨rfl, hb⟩; have hB : Below w.heap.size w w6 := (by refine bl_then ?_ hb; (repeat (first | exact hB | refine bl_al ?_ _ | refine Below.setCell ?_ (by first | exact hgs | exact Nat.le_succ_of_le hgs | exact hgs2 | exact hgs3) _ | refine Below.drew ?_ | refine bl_drewN ?_ _))); (first | with_reducible have hM2 := Mem.later hb (hM.out) | with_reducible have hM2 := Mem.later hb (Mem.al (hM.out) _ _) | with_reducible have hM2 := Mem.later hb (Mem.al (Mem.al (hM.out) _ _) _ _) | with_reducible have hM2 := Mem.later hb (Mem.al (Mem.al (Mem.al (hM.out) _ _) _ _) _ _) | with_reducible have hM2 := Mem.later hb (Mem.al (Mem.al (Mem.al (Mem.al (hM.out) _ _) _ _) _ _) _ _) | with_reducible have hM2 := Mem.later hb (Mem.drew (hM.out)) | with_reducible have hM2 := Mem.later hb (Mem.drew (Mem.al (hM.out) _ _)) | with_reducible have hM2 := Mem.later hb (Mem.al (Mem.drew (hM.out)) _ _) | with_reducible have hM2 := Mem.later hb (Mem.al (Mem.drew (Mem.al (hM.out) _ _)) _ _) | with_reducible have hM2 := Mem.later hb (Mem.drew (Mem.al (Mem.al (hM.out) _ _) _ _)) | with_reducible have hM2 := Mem.later hb (Mem.al (Mem.al (Mem.drew (hM.out)) _ _) _ _) | with_reducible have hM2 := Mem.later hb (Mem.drew (Mem.drew (hM.out))) | with_reducible have hM2 := Mem.later hb (Mem.drew (Mem.al (Mem.drew (hM.out)) _ _)) | with_reducible have hM2 := Mem.later hb (Mem.drew (Mem.al (Mem.al (Mem.al (hM.out) _ _) _ _) _ _)) | with_reducible have hM2 := Mem.later hb (Mem.al (Mem.al (Mem.drew (Mem.al (hM.out) _ _)) _ _) _ _) | with_reducible have hM2 := Mem.later hb (Mem.drew (Mem.al (Mem.drew (Mem.al (hM.out) _ _)) _ _)) | with_reducible have hM2 := Mem.later hb (Mem.al (Mem.al (Mem.al (Mem.al (Mem.al (hM.out) _ _) _ _) _ _) _ _) _ _) | with_reducible have hM2 := Mem.later hb (Mem.al (Mem.al (Mem.al (Mem.al (Mem.al (Mem.al (hM.out) _ _) _ _) _ _) _ _) _ _) _ _) | with_reducible have hM2 := Mem.later hb (Mem.al (Mem.al (Mem.al (Mem.al (Mem.al (Mem.al (Mem.al (hM.out) _ _) _ _) _ _) _ _) _ _) _ _) _ _) | with_reducible have hM2 := Mem.later hb (Mem.al (Mem.al (Mem.al (Mem.al (Mem.al (Mem.al (Mem.al (Mem.al (hM.out) _ _) _ _) _ _) _ _) _ _) _ _) _ _) _ _)); (try simp only [World.size_alloc, size_drew] at hM2); clear hM; have hM := Lib.hid hM2; clear hF; have hF := hM2; (try simp only [Mem, cellsAt, World.size_alloc, Nat.zero_add, Nat.reduceAdd, and_true] at hF); clear hM2; clear hb; clear hF; have hF : True := trivial))
  have HB0 := Lib.hid hB
  clear hM hB hF hz0 e1 e2 ch cz
  go_loopw [1, 2] (fun a b wr => CmRel w l i j a b wr) (fun a _ _ => (intOf a).toNat)
  case atStart => exact ⟨0, Nat.zero_le _, by rw [HI.out.2.2]; rfl, by rw [HI.out.2.2]; rfl, HB0.out, fun k hk => by omega⟩
  case round =>
    obtain ⟨k, hk, rfl, rfl, hB, hno⟩ := hrel
    clear HB0
    rw [HI.out.2.2] at hk hno ⊢
    have h1 := HI.out.1
    have h2 := HI.out.2.1
    have h3 := HI.out.2.2
    obtain ⟨ha1, ha2⟩ := anc_ok HW.out h1 (htN l i - M + k) (by omega)
    obtain ⟨hb1, hb2⟩ := anc_ok HW.out h2 (htN l j - M + k) (by omega)
    obtain ⟨a, hae⟩ : ∃ a, ancN l i (htN l i - M + k) = a := ⟨_, rfl⟩
    obtain ⟨b, hbe⟩ : ∃ b, ancN l j (htN l j - M + k) = b := ⟨_, rfl⟩
    rw [hae] at ha1 ha2 ⊢
    rw [hbe] at hb1 hb2 ⊢
    by_cases hab : a = b
    · subst hab
      have HD := Lib.hid (And.intro hk (And.intro hae (And.intro hbe hno)))
      have kk : ((a : Int) != (a : Int)) = false := by simp
      clear hk hno h1 h2 h3 ha1 ha2 hb1 hb2 hae hbe
      go_wp2
      go_ret2
      exact ⟨a, rfl, ⟨k, by rw [HI.out.2.2]; exact HD.out.1, by rw [HI.out.2.2]; exact HD.out.2.1, by rw [HI.out.2.2]; exact HD.out.2.2.1, by rw [HI.out.2.2]; exact HD.out.2.2.2⟩, hB⟩
    · obtain ⟨y, hy⟩ := get_lt ha1
      obtain ⟨z, hz⟩ := get_lt hb1
      have hkM : k < M := by
        rcases Nat.lt_or_ge k M with h | h
        · exact h
        · exfalso
          have e1 := ht_zero HW.out hy (by omega)
          have e2 := ht_zero HW.out hz (by omega)
          omega
      obtain ⟨p1, p2, p3⟩ := prN_of HW.out hy (by omega)
      obtain ⟨q1, q2, q3⟩ := prN_of HW.out hz (by omega)
      have HSx := Lib.hid (show ∀ x, Below wr.heap.size wr x → x.cell? ⟨g, 2, none⟩ = some (.slice (some ⟨gr, 0, none⟩) l.length cap) ∧ x.cell? ⟨gr, a * 106 + 100, none⟩ = some (.int .i64 (prN l a : Int)) ∧ x.cell? ⟨gr, b * 106 + 100, none⟩ = some (.int .i64 (prN l b : Int)) from fun x hx =>
        ⟨HC2.out _ (bl_then hB hx), by rw [← p1]; exact (HCn.out _ (bl_then hB hx) a y hy).1, by rw [← q1]; exact (HCn.out _ (bl_then hB hx) b z hz).1⟩)
      have hai : (a : Int) < (l.length : Int) := by omega
      have hbi : (b : Int) < (l.length : Int) := by omega
      have kk : ((a : Int) != (b : Int)) = true := by simp; omega
      have HD := Lib.hid (And.intro hkM (And.intro hae (And.intro hbe (And.intro hno (And.intro p2 hab)))))
      obtain ⟨n, hn⟩ : ∃ n, l.length = n := ⟨_, rfl⟩
      rw [hn] at HSx hai hbi ha1 hb1
      clear hk hno h1 h2 h3 ha2 hb2 hae hbe hy hz hkM p1 p2 p3 q1 q2 q3 hab hn
      go_wp2
      refine wp_plan (fun x => x.cell? ⟨g, 2, none⟩ = some (.slice (some ⟨gr, 0, none⟩) n cap) ∧ x.cell? ⟨gr, a * 106 + 100, none⟩ = some (.int .i64 (prN l a : Int)) ∧ x.cell? ⟨gr, b * 106 + 100, none⟩ = some (.int .i64 (prN l b : Int))) [] [0, 1, 2, 3, 4, 5, 6, 7, 8, 9, 10, 11, 12, 13, 14, 15, 16, 17] (by kernel_rfl) (by kernel_rfl) (HSx.out _ (Below.refl _ _).drew) (fun hHeld => ?_)
      iterate 18 (refine wpT_take rfl (by rfl) (by rfl) (by intro w' hSw; (try dsimp only [Mem, cellsAt] at hSw); go_simp; (try with_reducible rfl)) (by assumption) ?_; (try simp only [Act.put, List.setIfInBounds_toArray, List.set_cons_zero, List.set_cons_succ]))
      (refine wpT_nil ?_)
      go_wp2
      obtain ⟨h1, h2, h3, h4, h5, h6⟩ := HD.out
      refine ⟨⟨k + 1, by rw [HI.out.2.2]; omega, ?_, ?_, hB.drew, ?_⟩, ?_⟩
      · rw [HI.out.2.2, ← Nat.add_assoc]
        show _ = Value.int .i64 ((prN l (ancN l i (htN l i - M + k)) : Nat) : Int)
        rw [h2]
      · rw [HI.out.2.2, ← Nat.add_assoc]
        show _ = Value.int .i64 ((prN l (ancN l j (htN l j - M + k)) : Nat) : Int)
        rw [h3]
      · rw [HI.out.2.2]
        intro k' hk'
        by_cases hkk : k' = k
        · rw [hkk, h2, h3]; exact h6
        · exact h4 k' (by omega)
      · simp only [intOf]
        omega
end Go.Proofs.YtfbhpkhpkaeagaaDoor
