/- Package header: Mine; == on headers. (hM) -/
import Derived.Test.YtlhdfmaekbnhaaaGreatDoorHd3
import Derived.Test.YtlhdfmaekbnhaaaGreatDoorBy7
namespace Go.Proofs.YtlhdfmaekbnhaaaGreatDoor
set_option linter.unusedVariables false
set_option linter.unusedSimpArgs false
open Go.RowKit

/-- the header with a nonce k further on -/
def tryH (h : Hd) (k : Nat) : Hd := { h with n := (h.n + k) % 4294967296 }
theorem tryH_ok {h : Hd} (ho : HdOk h) (k : Nat) : HdOk (tryH h k) := ⟨ho.v, ho.p, ho.r, ho.t, ho.b, ⟨Int.emod_nonneg _ (by decide), Int.emod_lt_of_pos _ (by decide)⟩⟩
theorem tryH_zero {h : Hd} (ho : HdOk h) : tryH h 0 = h := by
  unfold tryH
  have := ho.n
  rw [show (h.n + ((0 : Nat) : Int)) % 4294967296 = h.n by omega]
theorem hdL_set_n (h : Hd) (n : Int) : (hdL h).set 67 (.int .u32 n) = hdL { h with n := n } := by
  apply List.ext_getElem?
  intro i
  by_cases hi : i = 67
  · subst hi
    rw [List.getElem?_set_self (by rw [hdL_len]; omega), hdL_n]
  · rw [List.getElem?_set_ne (by omega)]
    by_cases h1 : i = 0
    · subst h1; rfl
    by_cases h2 : i < 33
    · rw [show i = 1 + (i - 1) by omega, hdL_p _ _ (by omega), hdL_p _ _ (by omega)]
    by_cases h3 : i < 65
    · rw [show i = 33 + (i - 33) by omega, hdL_r _ _ (by omega), hdL_r _ _ (by omega)]
    by_cases h4 : i = 65
    · subst h4; rw [hdL_t, hdL_t]
    by_cases h5 : i = 66
    · subst h5; rw [hdL_b, hdL_b]
    · rw [List.getElem?_eq_none (by rw [hdL_len]; omega), List.getElem?_eq_none (by rw [hdL_len]; omega)]
theorem hdL_next (h : Hd) (k : Nat) : (hdL (tryH h k)).set 67 (.int .u32 (((h.n + k) % 4294967296 + 1) % 4294967296)) = hdL (tryH h (k + 1)) := by
  rw [hdL_set_n]
  unfold tryH
  congr 2
  omega
/-- does the k-th meet its target? -/
def mineB (h : Hd) (lim : Int) (k : Nat) : Bool := decide (meetsV (hashN (idF (tryH h k))) h.b lim = 0)
def MineRel (w : World) (h : Hd) (lim : Int) (m : Nat) (i : Value) (wr : World) : Prop :=
  ∃ j : Nat, j ≤ m ∧ i = .int .i64 j ∧ (∀ k, k < j → mineB h lim k = false) ∧ Below w.heap.size w wr ∧ Mem wr [(w.heap.size + 1 + 1, hdL (tryH h j)), (w.heap.size + 1, hdL hd0), (w.heap.size, hdL h)]

set_option maxRecDepth 100000 in
set_option maxHeartbeats 4000000 in
theorem hmine_any (h : Hd) (ho : HdOk h) (lim : Int) (hl : 0 ≤ lim ∧ lim < 4294967296) (tries : Int) (m : Nat) (hm : (if 4096 < tries then 4096 else tries).toNat = m) (w : World) (hT : Tab w) :
    Calls Tryz.prog 23 #[hdV h, .int .u32 lim, .int .i64 tries] w fun e w' => (∃ k, k ≤ m ∧ (∀ i, i < k → mineB h lim i = false) ∧
      ((k < m ∧ mineB h lim k = true ∧ e = .returned (.tuple #[hdV (tryH h k), .bool true])) ∨ (k = m ∧ e = .returned (.tuple #[hdV h, .bool false])))) ∧ Below w.heap.size w w' := by
  obtain ⟨M, hM0⟩ : ∃ M : Int, (if 4096 < tries then 4096 else tries) = M := ⟨_, rfl⟩
  rw [hM0] at hm
  have hM40 : M ≤ 4096 := by rw [← hM0]; split <;> omega
  have HT := Lib.hid hT
  have HO := Lib.hid (And.intro ho hl)
  have HMm := Lib.hid (And.intro hm hM40)
  have HM00 := Lib.hid (Mem.al (Mem.al (mem_nil w) (hdL h) 30) (hdL hd0) 30)
  have hB00 := bl_al (bl_al (Below.refl w.heap.size w) (.cells (hdL h).toArray 30)) (.cells (hdL hd0).toArray 30)
  simp only [World.size_alloc] at HM00
  have HB00 := Lib.hid hB00
  clear hT ho hl hB00 hm hM40
  go_enter Tryz.func23, Tryz.ntmps23
  go_wp2_with (first |
    (refine Go.wpList_load_mid rfl 30 (.tmp 3) rfl w.heap.size 0 rfl (hdL h) _ (rangeAt_of (Mem.get HM00.out (by simp))) Tryz.underlying30 rfl (by rw [hdL_len]; kernel_rfl) ?_) |
    (refine wpList_store_newV rfl (.tmp 8) (.tmp 9) 30 rfl _ (hdL h) _ Tryz.underlying30 rfl (by rw [hdL_len]; kernel_rfl) (by rw [hdL_len]; rfl) (hdL_one h) (by simp only [World.size_alloc]; rfl) rfl HM00.out ?_; intro W hMW hbW; simp only [World.size_alloc] at hMW; have HMW := Lib.hid hMW; have HBW := Lib.hid (bl_then HB00.out hbW); clear hMW hbW))
  go_loopw [12] (fun i wr => MineRel w h lim m i wr) (fun i _ => m - (intOf i).toNat)
  case atStart => exact ⟨0, Nat.zero_le _, rfl, fun k hk => by omega, HBW.out, by rw [tryH_zero HO.out.1]; exact HMW.out⟩
  case round =>
    obtain ⟨j, hj, rfl, hno, hB, hmm⟩ := hrel
    clear HMW HBW HM00 HB00
    have HNO := Lib.hid hno
    clear hno
    have hM := Lib.hid hmm
    have hF : True := trivial
    by_cases hlt : j < m
    · have hjM : (j : Int) < M := by have := HMm.out.1; omega
      have hj96 : (j : Int) < 4096 := by have := HMm.out.2; omega
      have HId := Lib.hid (fun (x : World) (hb : Below w.heap.size w x) => hid_any (tryH h j) (tryH_ok HO.out.1 j) x (HT.out.later hb))
      have HMe0 := fun (x : World) => meets_any (idF (tryH h j)) (idF_b _) h.b lim HO.out.1.b HO.out.2 x
      have hmi : mineB h lim j = decide (meetsV (hashN (idF (tryH h j))) h.b lim = 0) := rfl
      obtain ⟨I, hI⟩ : ∃ I, idF (tryH h j) = I := ⟨_, rfl⟩
      rw [hI] at HId HMe0 hmi
      obtain ⟨mv, hmv⟩ : ∃ mv, meetsV (hashN I) h.b lim = mv := ⟨_, rfl⟩
      rw [hmv] at HMe0 hmi
      have HMe := Lib.hid HMe0
      clear HMe0 hI hmv
      by_cases hz : mv = 0
      · subst hz
        have HMI : Hid (mineB h lim j = true) := by show mineB h lim j = true; rw [hmi]; rfl
        clear hmi hmm
        go_wp2
        refine wp_plan (fun x => Mem x _ ∧ x.cell? ⟨w.heap.size + 1 + 1, 66, none⟩ = some (.int .u32 h.b)) [1, 5] [0, 2, 3, 4, 1, 5, 6] (by kernel_rfl) (by kernel_rfl) (⟨Mem.drew hM.out, cellsAt_get (Mem.get (Mem.drew hM.out) (by simp)) (hdL_b (tryH h j))⟩) (fun hHeld => ?_)
        (refine wpT_yield rfl (by rfl) (Go.yieldsIf_load_mid (by rfl) 30 (.tmp 8) rfl (w.heap.size + 1 + 1) 0 rfl (hdL (tryH h j)) _ (fun w' h => rangeAt_of (Mem.get h.1 (by simp))) Tryz.underlying30 rfl (by rw [hdL_len]; kernel_rfl)) (by assumption) ?_; (try simp only [Act.put, List.setIfInBounds_toArray, List.set_cons_zero, List.set_cons_succ]))
        iterate 3 (refine wpT_take rfl (by rfl) (by rfl) (by intro w' hSw; (try dsimp only [Mem, cellsAt] at hSw); go_simp; (try with_reducible rfl)) (by assumption) ?_; (try simp only [Act.put, List.setIfInBounds_toArray, List.set_cons_zero, List.set_cons_succ]))
        (refine wpT_step rfl (by rfl) (fun K hK => ?_); go_simp)
        (refine (HId.out _ (by (repeat (first | exact hB | refine bl_al ?_ _ | refine Below.setCell ?_ (by first | exact hgs | exact Nat.le_succ_of_le hgs | exact hgs2 | exact hgs3) _ | refine Below.drew ?_ | refine bl_drewN ?_ _)))).mono ?_; rintro e w1 ⟨rfl, hb⟩; have hB : Below w.heap.size w w1 := (by refine bl_then ?_ hb; (repeat (first | exact hB | refine bl_al ?_ _ | refine Below.setCell ?_ (by first | exact hgs | exact Nat.le_succ_of_le hgs | exact hgs2 | exact hgs3) _ | refine Below.drew ?_ | refine bl_drewN ?_ _))); (first | with_reducible have hM2 := Mem.later hb (hM.out) | with_reducible have hM2 := Mem.later hb (Mem.al (hM.out) _ _) | with_reducible have hM2 := Mem.later hb (Mem.al (Mem.al (hM.out) _ _) _ _) | with_reducible have hM2 := Mem.later hb (Mem.al (Mem.al (Mem.al (hM.out) _ _) _ _) _ _) | with_reducible have hM2 := Mem.later hb (Mem.al (Mem.al (Mem.al (Mem.al (hM.out) _ _) _ _) _ _) _ _) | with_reducible have hM2 := Mem.later hb (Mem.drew (hM.out)) | with_reducible have hM2 := Mem.later hb (Mem.drew (Mem.al (hM.out) _ _)) | with_reducible have hM2 := Mem.later hb (Mem.al (Mem.drew (hM.out)) _ _) | with_reducible have hM2 := Mem.later hb (Mem.al (Mem.drew (Mem.al (hM.out) _ _)) _ _) | with_reducible have hM2 := Mem.later hb (Mem.drew (Mem.al (Mem.al (hM.out) _ _) _ _)) | with_reducible have hM2 := Mem.later hb (Mem.al (Mem.al (Mem.drew (hM.out)) _ _) _ _) | with_reducible have hM2 := Mem.later hb (Mem.drew (Mem.drew (hM.out))) | with_reducible have hM2 := Mem.later hb (Mem.drew (Mem.al (Mem.drew (hM.out)) _ _)) | with_reducible have hM2 := Mem.later hb (Mem.drew (Mem.al (Mem.al (Mem.al (hM.out) _ _) _ _) _ _)) | with_reducible have hM2 := Mem.later hb (Mem.al (Mem.al (Mem.drew (Mem.al (hM.out) _ _)) _ _) _ _) | with_reducible have hM2 := Mem.later hb (Mem.drew (Mem.al (Mem.drew (Mem.al (hM.out) _ _)) _ _)) | with_reducible have hM2 := Mem.later hb (Mem.al (Mem.al (Mem.al (Mem.al (Mem.al (hM.out) _ _) _ _) _ _) _ _) _ _) | with_reducible have hM2 := Mem.later hb (Mem.al (Mem.al (Mem.al (Mem.al (Mem.al (Mem.al (hM.out) _ _) _ _) _ _) _ _) _ _) _ _) | with_reducible have hM2 := Mem.later hb (Mem.al (Mem.al (Mem.al (Mem.al (Mem.al (Mem.al (Mem.al (hM.out) _ _) _ _) _ _) _ _) _ _) _ _) _ _) | with_reducible have hM2 := Mem.later hb (Mem.al (Mem.al (Mem.al (Mem.al (Mem.al (Mem.al (Mem.al (Mem.al (hM.out) _ _) _ _) _ _) _ _) _ _) _ _) _ _) _ _)); (try simp only [World.size_alloc, size_drew] at hM2); clear hM; have hM := Lib.hid hM2; clear hF; have hF := hM2; (try simp only [Mem, cellsAt, World.size_alloc, Nat.zero_add, Nat.reduceAdd, and_true] at hF); clear hM2; clear hb; clear hF; have hF : True := trivial; (refine hK.out _ _ _ (fun _ h => h) (⟨hM.out, cellsAt_get (Mem.get hM.out (by simp)) (hdL_b (tryH h j))⟩) (fun hHeld => ?_); clear hK; clear K; (try simp only [Act.put, List.setIfInBounds_toArray, List.set_cons_zero, List.set_cons_succ])))
        (refine wpT_step rfl (by rfl) (fun K hK => ?_); go_simp)
        (refine (HMe.out _).mono ?_; rintro e w1 ⟨rfl, hb⟩; have hB : Below w.heap.size w w1 := (by refine bl_then ?_ hb; (repeat (first | exact hB | refine bl_al ?_ _ | refine Below.setCell ?_ (by first | exact hgs | exact Nat.le_succ_of_le hgs | exact hgs2 | exact hgs3) _ | refine Below.drew ?_ | refine bl_drewN ?_ _))); (first | with_reducible have hM2 := Mem.later hb (hM.out) | with_reducible have hM2 := Mem.later hb (Mem.al (hM.out) _ _) | with_reducible have hM2 := Mem.later hb (Mem.al (Mem.al (hM.out) _ _) _ _) | with_reducible have hM2 := Mem.later hb (Mem.al (Mem.al (Mem.al (hM.out) _ _) _ _) _ _) | with_reducible have hM2 := Mem.later hb (Mem.al (Mem.al (Mem.al (Mem.al (hM.out) _ _) _ _) _ _) _ _) | with_reducible have hM2 := Mem.later hb (Mem.drew (hM.out)) | with_reducible have hM2 := Mem.later hb (Mem.drew (Mem.al (hM.out) _ _)) | with_reducible have hM2 := Mem.later hb (Mem.al (Mem.drew (hM.out)) _ _) | with_reducible have hM2 := Mem.later hb (Mem.al (Mem.drew (Mem.al (hM.out) _ _)) _ _) | with_reducible have hM2 := Mem.later hb (Mem.drew (Mem.al (Mem.al (hM.out) _ _) _ _)) | with_reducible have hM2 := Mem.later hb (Mem.al (Mem.al (Mem.drew (hM.out)) _ _) _ _) | with_reducible have hM2 := Mem.later hb (Mem.drew (Mem.drew (hM.out))) | with_reducible have hM2 := Mem.later hb (Mem.drew (Mem.al (Mem.drew (hM.out)) _ _)) | with_reducible have hM2 := Mem.later hb (Mem.drew (Mem.al (Mem.al (Mem.al (hM.out) _ _) _ _) _ _)) | with_reducible have hM2 := Mem.later hb (Mem.al (Mem.al (Mem.drew (Mem.al (hM.out) _ _)) _ _) _ _) | with_reducible have hM2 := Mem.later hb (Mem.drew (Mem.al (Mem.drew (Mem.al (hM.out) _ _)) _ _)) | with_reducible have hM2 := Mem.later hb (Mem.al (Mem.al (Mem.al (Mem.al (Mem.al (hM.out) _ _) _ _) _ _) _ _) _ _) | with_reducible have hM2 := Mem.later hb (Mem.al (Mem.al (Mem.al (Mem.al (Mem.al (Mem.al (hM.out) _ _) _ _) _ _) _ _) _ _) _ _) | with_reducible have hM2 := Mem.later hb (Mem.al (Mem.al (Mem.al (Mem.al (Mem.al (Mem.al (Mem.al (hM.out) _ _) _ _) _ _) _ _) _ _) _ _) _ _) | with_reducible have hM2 := Mem.later hb (Mem.al (Mem.al (Mem.al (Mem.al (Mem.al (Mem.al (Mem.al (Mem.al (hM.out) _ _) _ _) _ _) _ _) _ _) _ _) _ _) _ _)); (try simp only [World.size_alloc, size_drew] at hM2); clear hM; have hM := Lib.hid hM2; clear hF; have hF := hM2; (try simp only [Mem, cellsAt, World.size_alloc, Nat.zero_add, Nat.reduceAdd, and_true] at hF); clear hM2; clear hb; clear hF; have hF : True := trivial; (refine hK.out _ _ _ (fun _ h => h) (⟨hM.out, cellsAt_get (Mem.get hM.out (by simp)) (hdL_b (tryH h j))⟩) (fun hHeld => ?_); clear hK; clear K; (try simp only [Act.put, List.setIfInBounds_toArray, List.set_cons_zero, List.set_cons_succ])))
        iterate 1 (refine wpT_take rfl (by rfl) (by rfl) (by intro w' hSw; (try dsimp only [Mem, cellsAt] at hSw); go_simp; (try with_reducible rfl)) (by assumption) ?_; (try simp only [Act.put, List.setIfInBounds_toArray, List.set_cons_zero, List.set_cons_succ]))
        (refine wpT_nil ?_)
        have HTh := Lib.hid (thereW (n := 68) hM.out.2.1 (by rw [hdL_len]; omega))
        go_wp2_with (first |
          (refine Go.wpList_load_mid rfl 30 (.tmp 8) rfl (w.heap.size + 1 + 1) 0 rfl (hdL (tryH h j)) _ (rangeAt_of (Mem.get hM.out (by simp))) Tryz.underlying30 rfl (by rw [hdL_len]; kernel_rfl) ?_) |
          (refine Go.wpList_store_mid rfl 30 (.tmp 6) (.tmp 21) rfl (w.heap.size + 1) 0 (hdL (tryH h j)).toArray rfl rfl (by simpa [hdL_len] using HTh.out) (by simp only [List.size_toArray, hdL_len]; kernel_rfl) (Go.all_oneCell_toArray (hdL_one _)) ?_))
        have hl := Go.run_loadVar_mid (P := Tryz.prog) (w1.setCells (w.heap.size + 1) 0 (hdL (tryH h j))) (w.heap.size + 1) 0 30 (hdL (tryH h j)) _ (World.rangeAt_setCells_same w1 (w.heap.size + 1) 0 _ (by rw [hdL_len]; exact HTh.out)) Tryz.underlying30 rfl (by rw [hdL_len]; kernel_rfl)
        refine bodyPost_ret (v := .tuple #[hdV (tryH h j), .bool true]) (by simp [results, Tryz.results23, asAddr, hl, Act.put, Result.andThen]) rfl ⟨⟨j, hj, HNO.out, .inl ⟨hlt, HMI.out, rfl⟩⟩, bl_setCellsW (Nat.le_succ _) _ _ _ hB⟩
      · have HMI : Hid (mineB h lim j = false) := by show mineB h lim j = false; rw [hmi]; simp [hz]
        have hzb : (mv == 0) = false := by simpa using hz
        clear hmi hmm
        go_wp2
        refine wp_plan (fun x => Mem x _ ∧ x.cell? ⟨w.heap.size + 1 + 1, 66, none⟩ = some (.int .u32 h.b)) [1, 5] [0, 2, 3, 4, 1, 5, 6] (by kernel_rfl) (by kernel_rfl) (⟨Mem.drew hM.out, cellsAt_get (Mem.get (Mem.drew hM.out) (by simp)) (hdL_b (tryH h j))⟩) (fun hHeld => ?_)
        (refine wpT_yield rfl (by rfl) (Go.yieldsIf_load_mid (by rfl) 30 (.tmp 8) rfl (w.heap.size + 1 + 1) 0 rfl (hdL (tryH h j)) _ (fun w' h => rangeAt_of (Mem.get h.1 (by simp))) Tryz.underlying30 rfl (by rw [hdL_len]; kernel_rfl)) (by assumption) ?_; (try simp only [Act.put, List.setIfInBounds_toArray, List.set_cons_zero, List.set_cons_succ]))
        iterate 3 (refine wpT_take rfl (by rfl) (by rfl) (by intro w' hSw; (try dsimp only [Mem, cellsAt] at hSw); go_simp; (try with_reducible rfl)) (by assumption) ?_; (try simp only [Act.put, List.setIfInBounds_toArray, List.set_cons_zero, List.set_cons_succ]))
        (refine wpT_step rfl (by rfl) (fun K hK => ?_); go_simp)
        (refine (HId.out _ (by (repeat (first | exact hB | refine bl_al ?_ _ | refine Below.setCell ?_ (by first | exact hgs | exact Nat.le_succ_of_le hgs | exact hgs2 | exact hgs3) _ | refine Below.drew ?_ | refine bl_drewN ?_ _)))).mono ?_; rintro e w1 ⟨rfl, hb⟩; have hB : Below w.heap.size w w1 := (by refine bl_then ?_ hb; (repeat (first | exact hB | refine bl_al ?_ _ | refine Below.setCell ?_ (by first | exact hgs | exact Nat.le_succ_of_le hgs | exact hgs2 | exact hgs3) _ | refine Below.drew ?_ | refine bl_drewN ?_ _))); (first | with_reducible have hM2 := Mem.later hb (hM.out) | with_reducible have hM2 := Mem.later hb (Mem.al (hM.out) _ _) | with_reducible have hM2 := Mem.later hb (Mem.al (Mem.al (hM.out) _ _) _ _) | with_reducible have hM2 := Mem.later hb (Mem.al (Mem.al (Mem.al (hM.out) _ _) _ _) _ _) | with_reducible have hM2 := Mem.later hb (Mem.al (Mem.al (Mem.al (Mem.al (hM.out) _ _) _ _) _ _) _ _) | with_reducible have hM2 := Mem.later hb (Mem.drew (hM.out)) | with_reducible have hM2 := Mem.later hb (Mem.drew (Mem.al (hM.out) _ _)) | with_reducible have hM2 := Mem.later hb (Mem.al (Mem.drew (hM.out)) _ _) | with_reducible have hM2 := Mem.later hb (Mem.al (Mem.drew (Mem.al (hM.out) _ _)) _ _) | with_reducible have hM2 := Mem.later hb (Mem.drew (Mem.al (Mem.al (hM.out) _ _) _ _)) | with_reducible have hM2 := Mem.later hb (Mem.al (Mem.al (Mem.drew (hM.out)) _ _) _ _) | with_reducible have hM2 := Mem.later hb (Mem.drew (Mem.drew (hM.out))) | with_reducible have hM2 := Mem.later hb (Mem.drew (Mem.al (Mem.drew (hM.out)) _ _)) | with_reducible have hM2 := Mem.later hb (Mem.drew (Mem.al (Mem.al (Mem.al (hM.out) _ _) _ _) _ _)) | with_reducible have hM2 := Mem.later hb (Mem.al (Mem.al (Mem.drew (Mem.al (hM.out) _ _)) _ _) _ _) | with_reducible have hM2 := Mem.later hb (Mem.drew (Mem.al (Mem.drew (Mem.al (hM.out) _ _)) _ _)) | with_reducible have hM2 := Mem.later hb (Mem.al (Mem.al (Mem.al (Mem.al (Mem.al (hM.out) _ _) _ _) _ _) _ _) _ _) | with_reducible have hM2 := Mem.later hb (Mem.al (Mem.al (Mem.al (Mem.al (Mem.al (Mem.al (hM.out) _ _) _ _) _ _) _ _) _ _) _ _) | with_reducible have hM2 := Mem.later hb (Mem.al (Mem.al (Mem.al (Mem.al (Mem.al (Mem.al (Mem.al (hM.out) _ _) _ _) _ _) _ _) _ _) _ _) _ _) | with_reducible have hM2 := Mem.later hb (Mem.al (Mem.al (Mem.al (Mem.al (Mem.al (Mem.al (Mem.al (Mem.al (hM.out) _ _) _ _) _ _) _ _) _ _) _ _) _ _) _ _)); (try simp only [World.size_alloc, size_drew] at hM2); clear hM; have hM := Lib.hid hM2; clear hF; have hF := hM2; (try simp only [Mem, cellsAt, World.size_alloc, Nat.zero_add, Nat.reduceAdd, and_true] at hF); clear hM2; clear hb; clear hF; have hF : True := trivial; (refine hK.out _ _ _ (fun _ h => h) (⟨hM.out, cellsAt_get (Mem.get hM.out (by simp)) (hdL_b (tryH h j))⟩) (fun hHeld => ?_); clear hK; clear K; (try simp only [Act.put, List.setIfInBounds_toArray, List.set_cons_zero, List.set_cons_succ])))
        (refine wpT_step rfl (by rfl) (fun K hK => ?_); go_simp)
        (refine (HMe.out _).mono ?_; rintro e w1 ⟨rfl, hb⟩; have hB : Below w.heap.size w w1 := (by refine bl_then ?_ hb; (repeat (first | exact hB | refine bl_al ?_ _ | refine Below.setCell ?_ (by first | exact hgs | exact Nat.le_succ_of_le hgs | exact hgs2 | exact hgs3) _ | refine Below.drew ?_ | refine bl_drewN ?_ _))); (first | with_reducible have hM2 := Mem.later hb (hM.out) | with_reducible have hM2 := Mem.later hb (Mem.al (hM.out) _ _) | with_reducible have hM2 := Mem.later hb (Mem.al (Mem.al (hM.out) _ _) _ _) | with_reducible have hM2 := Mem.later hb (Mem.al (Mem.al (Mem.al (hM.out) _ _) _ _) _ _) | with_reducible have hM2 := Mem.later hb (Mem.al (Mem.al (Mem.al (Mem.al (hM.out) _ _) _ _) _ _) _ _) | with_reducible have hM2 := Mem.later hb (Mem.drew (hM.out)) | with_reducible have hM2 := Mem.later hb (Mem.drew (Mem.al (hM.out) _ _)) | with_reducible have hM2 := Mem.later hb (Mem.al (Mem.drew (hM.out)) _ _) | with_reducible have hM2 := Mem.later hb (Mem.al (Mem.drew (Mem.al (hM.out) _ _)) _ _) | with_reducible have hM2 := Mem.later hb (Mem.drew (Mem.al (Mem.al (hM.out) _ _) _ _)) | with_reducible have hM2 := Mem.later hb (Mem.al (Mem.al (Mem.drew (hM.out)) _ _) _ _) | with_reducible have hM2 := Mem.later hb (Mem.drew (Mem.drew (hM.out))) | with_reducible have hM2 := Mem.later hb (Mem.drew (Mem.al (Mem.drew (hM.out)) _ _)) | with_reducible have hM2 := Mem.later hb (Mem.drew (Mem.al (Mem.al (Mem.al (hM.out) _ _) _ _) _ _)) | with_reducible have hM2 := Mem.later hb (Mem.al (Mem.al (Mem.drew (Mem.al (hM.out) _ _)) _ _) _ _) | with_reducible have hM2 := Mem.later hb (Mem.drew (Mem.al (Mem.drew (Mem.al (hM.out) _ _)) _ _)) | with_reducible have hM2 := Mem.later hb (Mem.al (Mem.al (Mem.al (Mem.al (Mem.al (hM.out) _ _) _ _) _ _) _ _) _ _) | with_reducible have hM2 := Mem.later hb (Mem.al (Mem.al (Mem.al (Mem.al (Mem.al (Mem.al (hM.out) _ _) _ _) _ _) _ _) _ _) _ _) | with_reducible have hM2 := Mem.later hb (Mem.al (Mem.al (Mem.al (Mem.al (Mem.al (Mem.al (Mem.al (hM.out) _ _) _ _) _ _) _ _) _ _) _ _) _ _) | with_reducible have hM2 := Mem.later hb (Mem.al (Mem.al (Mem.al (Mem.al (Mem.al (Mem.al (Mem.al (Mem.al (hM.out) _ _) _ _) _ _) _ _) _ _) _ _) _ _) _ _)); (try simp only [World.size_alloc, size_drew] at hM2); clear hM; have hM := Lib.hid hM2; clear hF; have hF := hM2; (try simp only [Mem, cellsAt, World.size_alloc, Nat.zero_add, Nat.reduceAdd, and_true] at hF); clear hM2; clear hb; clear hF; have hF : True := trivial; (refine hK.out _ _ _ (fun _ h => h) (⟨hM.out, cellsAt_get (Mem.get hM.out (by simp)) (hdL_b (tryH h j))⟩) (fun hHeld => ?_); clear hK; clear K; (try simp only [Act.put, List.setIfInBounds_toArray, List.set_cons_zero, List.set_cons_succ])))
        iterate 1 (refine wpT_take rfl (by rfl) (by rfl) (by intro w' hSw; (try dsimp only [Mem, cellsAt] at hSw); go_simp; (try with_reducible rfl)) (by assumption) ?_; (try simp only [Act.put, List.setIfInBounds_toArray, List.set_cons_zero, List.set_cons_succ]))
        (refine wpT_nil ?_)
        have hc := cellsAt_get (Mem.get hM.out (List.mem_cons_self)) (hdL_n (tryH h j))
        have hfz := hM.out.1.2.1 67
        go_wp2
        refine ⟨⟨j + 1, by omega, by go_num, fun k hk => ?_, hB.setCell (by show w.heap.size ≤ w.heap.size + 1 + 1; omega) _, ?_⟩, by simp [intOf]; omega⟩
        · by_cases hkj : k = j
          · rw [hkj]; exact HMI.out
          · exact HNO.out k (by omega)
        · have h1 := Mem.setN (k := 67) (v := .int .u32 (((h.n + (j : Int)) % 4294967296 + 1) % 4294967296)) (by intro p hp; simp at hp; rcases hp with rfl | rfl <;> simp <;> omega) hM.out
          rw [hdL_next] at h1
          exact h1
    · have hje : j = m := by omega
      subst hje
      have hjM : ¬ (j : Int) < M := by have := HMm.out.1; omega
      have HTh := Lib.hid (thereW (n := 68) hM.out.2.1 (by rw [hdL_len]; omega))
      clear hmm
      go_wp2_with (first |
        (refine Go.wpList_load_mid rfl 30 (.tmp 3) rfl w.heap.size 0 rfl (hdL h) _ (rangeAt_of (Mem.get hM.out (by simp))) Tryz.underlying30 rfl (by rw [hdL_len]; kernel_rfl) ?_) |
        (refine Go.wpList_store_mid rfl 30 (.tmp 6) (.tmp 27) rfl (w.heap.size + 1) 0 (hdL h).toArray rfl rfl (by simpa [hdL_len] using HTh.out) (by simp only [List.size_toArray, hdL_len]; kernel_rfl) (Go.all_oneCell_toArray (hdL_one _)) ?_))
      have hl := Go.run_loadVar_mid (P := Tryz.prog) (wr.setCells (w.heap.size + 1) 0 (hdL h)) (w.heap.size + 1) 0 30 (hdL h) _ (World.rangeAt_setCells_same wr (w.heap.size + 1) 0 _ (by rw [hdL_len]; exact HTh.out)) Tryz.underlying30 rfl (by rw [hdL_len]; kernel_rfl)
      refine bodyPost_ret (v := .tuple #[hdV h, .bool false]) (by simp [results, Tryz.results23, asAddr, hl, Act.put, Result.andThen]) rfl ⟨⟨j, Nat.le_refl _, HNO.out, .inr ⟨rfl, rfl⟩⟩, bl_setCellsW (Nat.le_succ _) _ _ _ hB⟩
end Go.Proofs.YtlhdfmaekbnhaaaGreatDoor
