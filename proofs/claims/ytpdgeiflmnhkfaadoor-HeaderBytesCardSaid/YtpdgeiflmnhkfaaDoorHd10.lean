/- Package header: number, Get (made by gen_hd10.py). (hM) -/
import Derived.Test.YtpdgeiflmnhkfaaDoorHd7
import Derived.Test.YtpdgeiflmnhkfaaDoorLyes
import Derived.Laws.BitsAllLaws
import Derived.Laws.Cover3
namespace Go.Proofs.YtpdgeiflmnhkfaaDoor
set_option linter.unusedVariables false
set_option linter.unusedSimpArgs false
open Go.RowKit

/-- j bytes as a number, the lowest first -/
def numV (f : Nat → Int) (at0 : Nat) : Nat → Int
  | 0 => 0
  | j + 1 => numV f at0 j + f (at0 + j) * 256 ^ j
theorem numV_b (f : Nat → Int) (at0 : Nat) (hf : ∀ i, 0 ≤ f i ∧ f i < 256) : ∀ j, 0 ≤ numV f at0 j ∧ numV f at0 j < 256 ^ j
  | 0 => ⟨Int.le_refl _, (by decide : (0 : Int) < 256 ^ 0)⟩
  | j + 1 => by
    have h := numV_b f at0 hf j
    have hb := hf (at0 + j)
    have hp : (0 : Int) < 256 ^ j := Int.pow_pos (by decide)
    have h1 := Int.mul_nonneg hb.1 (Int.le_of_lt hp)
    have h2 := Int.mul_le_mul_of_nonneg_right (show f (at0 + j) ≤ 255 by omega) (Int.le_of_lt hp)
    have e : (256 : Int) ^ (j + 1) = 256 * 256 ^ j := by rw [Int.pow_succ, Int.mul_comm]
    unfold numV
    rw [e]
    omega
theorem num_le4 (x : Int) (at0 : Nat) (f : Nat → Int) (hx : 0 ≤ x ∧ x < 4294967296) (h : ∀ i, i < 4 → f (at0 + i) = le4 x i) : numV f at0 4 = x := by
  show 0 + f (at0 + 0) * 256 ^ 0 + f (at0 + 1) * 256 ^ 1 + f (at0 + 2) * 256 ^ 2 + f (at0 + 3) * 256 ^ 3 = x
  rw [h 0 (by omega), h 1 (by omega), h 2 (by omega), h 3 (by omega)]
  unfold le4
  have e1 : (256 : Int) ^ 0 = 1 := by decide
  have e2 : (256 : Int) ^ 1 = 256 := by decide
  have e3 : (256 : Int) ^ 2 = 65536 := by decide
  have e4 : (256 : Int) ^ 3 = 16777216 := by decide
  rw [e1, e2, e3, e4]
  omega
theorem num_or (a b : Int) (j : Nat) (hj : j < 4) (ha : 0 ≤ a ∧ a < 256 ^ j) (hb : 0 ≤ b ∧ b < 256) : bits .or .u32 a (b * 2 ^ (8 * j) % 4294967296) = a + b * 256 ^ j := by
  obtain ⟨A, rfl⟩ := Int.eq_ofNat_of_zero_le ha.1
  obtain ⟨B, rfl⟩ := Int.eq_ofNat_of_zero_le hb.1
  have e : (2 : Int) ^ (8 * j) = ((2 ^ (8 * j) : Nat) : Int) := by simp
  have e2 : (256 : Int) ^ j = ((2 ^ (8 * j) : Nat) : Int) := by rw [show (256 : Int) = 2 ^ 8 by decide, ← Int.pow_mul, e]
  have hA : A < 2 ^ (8 * j) := by have := ha.2; rw [e2] at this; omega
  have hle : 2 ^ (8 * j) ≤ 2 ^ 24 := Nat.pow_le_pow_right (by decide) (by omega)
  have hB : B < 256 := by omega
  have hm : 2 ^ (8 * j) * B ≤ 2 ^ 24 * 255 := Nat.mul_le_mul hle (by omega)
  rw [e, e2]
  have e3 : (B : Int) * ((2 ^ (8 * j) : Nat) : Int) % 4294967296 = ((2 ^ (8 * j) * B : Nat) : Int) := by
    rw [Int.mul_comm, ← Int.natCast_mul]
    omega
  rw [e3, u32_or_nat A (2 ^ (8 * j) * B) (by omega) (by omega), Nat.or_comm, ← Nat.two_pow_add_eq_or_of_lt hA, Int.natCast_add, Int.natCast_mul, Int.mul_comm ((2 ^ (8 * j) : Nat) : Int)]
  omega
theorem range_b8l {w : World} {b : Nat} {f : Nat → Int} {n : Nat} (hc : cellsAt w b 0 (b8l f n)) (o m : Nat) (h : o + m ≤ n) : w.rangeAt b o (b8l (fun i => f (o + i)) m) := fun j v hj => by
  have hlt : j < m := by have := (List.getElem?_eq_some_iff.1 hj).1; rwa [b8l_len] at this
  rw [b8l_get _ _ _ hlt] at hj
  cases hj
  exact cellsAt_get hc (b8l_get f n (o + j) (by omega))

def NuRel (w : World) (f : Nat → Int) (at0 : Nat) (n i : Value) (wr : World) : Prop :=
  ∃ j : Nat, j ≤ 4 ∧ i = .int .i64 j ∧ n = .int .u32 (numV f at0 j) ∧ wr = w

set_option maxRecDepth 100000 in
set_option maxHeartbeats 2000000 in
theorem number_at (g at0 : Nat) (a : Int) (f : Nat → Int) (w : World) (ha : a = (at0 : Int)) (hat : at0 + 4 ≤ 80) (hf : ∀ i, 0 ≤ f i ∧ f i < 256) (hm : cellsAt w g 0 (b8l f 80)) :
    Calls Tryd.prog 126 #[.pointer (some ⟨g, 0, none⟩), .int .i64 a] w fun e w' => e = .returned (.int .u32 (numV f at0 4)) ∧ Below w.heap.size w w' := by
  subst ha
  have HM := Lib.hid hm
  have HFb := Lib.hid hf
  clear hm hf
  go_enter Tryd.func126, Tryd.ntmps126
  go_wp2
  go_loopw [5, 7] (fun n i wr => NuRel w f at0 n i wr) (fun _ i _ => 4 - (intOf i).toNat)
  case atStart => exact ⟨0, Nat.zero_le _, rfl, rfl, rfl⟩
  case round =>
    obtain ⟨j, hj, rfl, rfl, rfl⟩ := hrel
    by_cases hlt : j < 4
    · obtain ⟨k, hk⟩ : ∃ k, at0 + j = k := ⟨_, rfl⟩
      obtain ⟨s, hs⟩ : ∃ s, 8 * j = s := ⟨_, rfl⟩
      have hc := cellsAt_get HM.out (b8l_get f 80 k (by omega))
      have g1 : IntKind.i64.wrap ((at0 : Int) + (j : Int)) = (k : Int) := by rw [IntKind.wrap_i64]; omega
      have g3 : IntKind.i64.wrap (8 * (j : Int)) = (s : Int) := by rw [IntKind.wrap_i64]; omega
      have hs64 : (s : Int) ≤ 64 := by omega
      have hk80 : (k : Int) < 80 := by omega
      have hj4 : (j : Int) < 4 := by omega
      have hmin : min s 32 = s := by omega
      have hor := num_or (numV f at0 j) (f k) j hlt (numV_b f at0 HFb.out j) (HFb.out k)
      rw [hs] at hor
      have HOR : Hid (numV f at0 j + f k * 256 ^ j = numV f at0 (j + 1)) := by show _ = _; rw [← hk]; rfl
      obtain ⟨y, hy⟩ : ∃ y, numV f at0 j + f k * 256 ^ j = y := ⟨_, rfl⟩
      rw [hy] at hor HOR
      obtain ⟨x, hx⟩ : ∃ x, numV f at0 j = x := ⟨_, rfl⟩
      rw [hx] at hor ⊢
      have hw32 : IntKind.u32.wrap (f k) = f k := by rw [IntKind.wrap_u32]; have := HFb.out k; omega
      clear hs hat hk hy hx
      go_wp2
      refine ⟨⟨j + 1, by omega, by go_num, by rw [← HOR.out], by first | rfl | trivial⟩, by simp [intOf]; omega⟩
    · have hje : j = 4 := by omega
      subst hje
      have h8 : ¬ ((4 : Nat) : Int) < 4 := by omega
      go_wp2
      go_ret
      exact ⟨rfl, Below.refl _ _⟩

set_option maxRecDepth 100000 in
theorem build_hdr (v : Int) (p r : Nat → Int) (t b n : Int) (x : World) : (Instr.build 71 #[(0, .int .u32 v), (1, arr32 p), (2, arr32 r), (3, .int .u32 t), (4, .int .u32 b), (5, .int .u32 n)]).run Tryd.prog x = .ok (hdV ⟨v, p, r, t, b, n⟩) x := by kernel_rfl
/-- the header of 80 bytes -/
def getH (f : Nat → Int) : Hd := ⟨numV f 0 4, fun i => f (4 + i), fun i => f (36 + i), numV f 68 4, numV f 72 4, numV f 76 4⟩
theorem getH_ok (f : Nat → Int) (hf : ∀ i, 0 ≤ f i ∧ f i < 256) : HdOk (getH f) := ⟨numV_b f 0 hf 4, fun i => hf _, fun i => hf _, numV_b f 68 hf 4, numV_b f 72 hf 4, numV_b f 76 hf 4⟩

theorem hdA_size (h : Hd) : (hdL h).toArray.size = 68 := by rw [List.size_toArray, hdL_len]
theorem here_zero (w : World) : (w.alloc (.cells (hdL hd0).toArray 71)).there w.heap.size 0 68 := thereW (n := 68) (Mem.al (mem_nil w) (hdL hd0) 71).1 (by rw [hdL_len]; omega)
set_option maxRecDepth 100000 in
set_option maxHeartbeats 4000000 in
theorem get_short7 (ao : Option Addr) (n c : Nat) (w : World) (hn : n < 80) :
    Calls Tryd.prog 61 #[.slice ao n c] w fun e w' => e = .returned (.tuple #[hdV hd0, .int .i64 1]) ∧ Below w.heap.size w w' := by
  have h1 : (n : Int) < 80 := by omega
  clear hn
  have HTh := Lib.hid (here_zero w)
  have hB := bl_al (Below.refl w.heap.size w) (.cells (hdL hd0).toArray 71)
  go_enter Tryd.func61, Tryd.ntmps61
  go_wp2_with (refine Go.wpList_store_mid rfl 71 (.tmp 2) (.tmp 8) rfl w.heap.size 0 (hdL hd0).toArray rfl rfl (by rw [hdA_size]; exact HTh.out) (by simp only [List.size_toArray, hdL_len]; kernel_rfl) (Go.all_oneCell_toArray (hdL_one _)) ?_)
  change bodyPost _ _ _ _ _ ((w.alloc (.cells (hdL hd0).toArray 71)).setCells w.heap.size 0 (hdL hd0))
  have hl := Go.run_loadVar_mid (P := Tryd.prog) ((w.alloc (.cells (hdL hd0).toArray 71)).setCells w.heap.size 0 (hdL hd0)) w.heap.size 0 71 (hdL hd0) _ (World.rangeAt_setCells_same _ w.heap.size 0 _ (by rw [hdL_len]; exact HTh.out)) Tryd.underlying71 rfl (by rw [hdL_len]; kernel_rfl)
  refine bodyPost_ret (v := .tuple #[hdV hd0, .int .i64 1]) (by simp [results, Tryd.results61, asAddr, hl, Act.put, Result.andThen]) rfl ⟨rfl, bl_setCellsW (Nat.le_refl _) _ _ _ hB⟩
set_option maxRecDepth 100000 in
set_option maxHeartbeats 4000000 in
theorem get_big7 (ao : Option Addr) (n c : Nat) (w : World) (hn : 80 < n) :
    Calls Tryd.prog 61 #[.slice ao n c] w fun e w' => e = .returned (.tuple #[hdV hd0, .int .i64 3]) ∧ Below w.heap.size w w' := by
  have h1 : ¬ (n : Int) < 80 := by omega
  have h2 : 80 < (n : Int) := by omega
  clear hn
  have HTh := Lib.hid (here_zero w)
  have hB := bl_al (Below.refl w.heap.size w) (.cells (hdL hd0).toArray 71)
  go_enter Tryd.func61, Tryd.ntmps61
  go_wp2_with (refine Go.wpList_store_mid rfl 71 (.tmp 2) (.tmp 12) rfl w.heap.size 0 (hdL hd0).toArray rfl rfl (by rw [hdA_size]; exact HTh.out) (by simp only [List.size_toArray, hdL_len]; kernel_rfl) (Go.all_oneCell_toArray (hdL_one _)) ?_)
  change bodyPost _ _ _ _ _ ((w.alloc (.cells (hdL hd0).toArray 71)).setCells w.heap.size 0 (hdL hd0))
  have hl := Go.run_loadVar_mid (P := Tryd.prog) ((w.alloc (.cells (hdL hd0).toArray 71)).setCells w.heap.size 0 (hdL hd0)) w.heap.size 0 71 (hdL hd0) _ (World.rangeAt_setCells_same _ w.heap.size 0 _ (by rw [hdL_len]; exact HTh.out)) Tryd.underlying71 rfl (by rw [hdL_len]; kernel_rfl)
  refine bodyPost_ret (v := .tuple #[hdV hd0, .int .i64 3]) (by simp [results, Tryd.results61, asAddr, hl, Act.put, Result.andThen]) rfl ⟨rfl, bl_setCellsW (Nat.le_refl _) _ _ _ hB⟩
set_option maxRecDepth 100000 in
set_option maxHeartbeats 4000000 in
theorem hget_any (b off c : Nat) (f : Nat → Int) (w : World) (hr : Row w (some ⟨b, off, none⟩) 80 c 1 (bcells f 80)) (hf : ∀ i, 0 ≤ f i ∧ f i < 256) :
    Calls Tryd.prog 61 #[.slice (some ⟨b, off, none⟩) 80 c] w fun e w' => e = .returned (.tuple #[hdV (getH f), .int .i64 0]) ∧ Below w.heap.size w w' := by
  have harr := fun (x : World) => run_arrayAt (P := Tryd.prog) x 147 5 80 (some ⟨b, off, none⟩) 80 c Tryd.underlying147 (Nat.le_refl _)
  have HFb := Lib.hid hf
  have HR := Lib.hid hr
  clear hf hr
  have HM0 := Lib.hid (Mem.al (mem_nil w) (hdL hd0) 71)
  have HB0 := Lib.hid (bl_al (Below.refl w.heap.size w) (.cells (hdL hd0).toArray 71))
  have hF : True := trivial
  go_enter Tryd.func61, Tryd.ntmps61
  go_wp2_with (first |
    (refine Go.wpList_load_mid rfl 147 (.tmp 14) rfl b off rfl (b8l f 80) _ (fun j v hj => ((HR.out.later (below_alloc _ _)).cells _ rfl j v hj).2) Tryd.underlying147 rfl (by rw [b8l_len]; kernel_rfl) ?_) |
    (refine wpList_store_newV rfl (.tmp 4) (.tmp 15) 147 rfl _ (b8l f 80) _ Tryd.underlying147 rfl (by rw [b8l_len]; kernel_rfl) (by rw [b8l_len]; rfl) (b8l_one f 80) (by simp only [World.size_alloc]; rfl) rfl HM0.out ?_; intro W hMW hbW; simp only [World.size_alloc] at hMW; have hBW := bl_then HB0.out hbW; obtain ⟨bx, hbx⟩ : ∃ b, w.heap.size + 1 = b := ⟨_, rfl⟩; rw [hbx] at hMW; simp only [hbx]; have HBX := Lib.hid hbx; clear hbx; have hM := Lib.hid hMW; have hB := hBW; have hF : True := trivial; clear hMW hbW hBW))
  have ha1 := fun (x : World) => run_arrayAt (P := Tryd.prog) x 30 5 32 (some ⟨bx, 4, none⟩) 32 76 Tryd.underlying30 (Nat.le_refl _)
  have ha2 := fun (x : World) => run_arrayAt (P := Tryd.prog) x 30 5 32 (some ⟨bx, 36, none⟩) 32 44 Tryd.underlying30 (Nat.le_refl _)
  have hbd := build_hdr (numV f 0 4) (fun i => f (4 + i)) (fun i => f (36 + i)) (numV f 68 4) (numV f 72 4) (numV f 76 4)
  refine wp_plan (fun x => Mem x [(bx, b8l f 80)]) [0, 7, 8, 9, 11] [1, 2, 3, 4, 5, 6, 0, 7, 8, 9, 10, 11, 12] (by kernel_rfl) (by kernel_rfl) (⟨(Mem.drew hM.out).1, trivial⟩) (fun hHeld => ?_)
  iterate 2 (refine wpT_take rfl (by rfl) (by rfl) (by intro w' hSw; (try dsimp only [Mem, cellsAt] at hSw); go_simp; (try with_reducible rfl)) (by assumption) ?_; (try simp only [Act.put, List.setIfInBounds_toArray, List.set_cons_zero, List.set_cons_succ]))
  (refine wpT_yield rfl (by rfl) (Go.yieldsIf_load_mid (by rfl) 30 (.tmp 18) rfl bx (4) rfl (b8l (fun i => f (4 + i)) 32) _ (fun w' h => range_b8l (f := f) (n := 80) (Mem.get h (by simp)) 4 32 (by omega)) Tryd.underlying30 rfl (by rw [b8l_len]; kernel_rfl)) (by assumption) ?_; (try simp only [Act.put, List.setIfInBounds_toArray, List.set_cons_zero, List.set_cons_succ]))
  iterate 2 (refine wpT_take rfl (by rfl) (by rfl) (by intro w' hSw; (try dsimp only [Mem, cellsAt] at hSw); go_simp; (try with_reducible rfl)) (by assumption) ?_; (try simp only [Act.put, List.setIfInBounds_toArray, List.set_cons_zero, List.set_cons_succ]))
  (refine wpT_yield rfl (by rfl) (Go.yieldsIf_load_mid (by rfl) 30 (.tmp 21) rfl bx (36) rfl (b8l (fun i => f (36 + i)) 32) _ (fun w' h => range_b8l (f := f) (n := 80) (Mem.get h (by simp)) 36 32 (by omega)) Tryd.underlying30 rfl (by rw [b8l_len]; kernel_rfl)) (by assumption) ?_; (try simp only [Act.put, List.setIfInBounds_toArray, List.set_cons_zero, List.set_cons_succ]))
  (refine wpT_step rfl (by rfl) (fun K hK => ?_); go_simp)
  ((with_reducible refine (number_at bx 0 0 f _ rfl (by omega) HFb.out (Mem.get (Mem.drew hM.out) (by simp))).mono ?_); rintro e w1 ⟨rfl, hb⟩; have hB : Below w.heap.size w w1 := (by refine bl_then ?_ hb; (repeat (first | exact hB | refine bl_al ?_ _ | refine Below.setCell ?_ (by first | exact hgs | exact Nat.le_succ_of_le hgs | exact hgs2 | exact hgs3) _ | refine Below.drew ?_ | refine bl_drewN ?_ _))); (first | with_reducible have hM2 := Mem.later hb (hM.out) | with_reducible have hM2 := Mem.later hb (Mem.al (hM.out) _ _) | with_reducible have hM2 := Mem.later hb (Mem.al (Mem.al (hM.out) _ _) _ _) | with_reducible have hM2 := Mem.later hb (Mem.al (Mem.al (Mem.al (hM.out) _ _) _ _) _ _) | with_reducible have hM2 := Mem.later hb (Mem.al (Mem.al (Mem.al (Mem.al (hM.out) _ _) _ _) _ _) _ _) | with_reducible have hM2 := Mem.later hb (Mem.drew (hM.out)) | with_reducible have hM2 := Mem.later hb (Mem.drew (Mem.al (hM.out) _ _)) | with_reducible have hM2 := Mem.later hb (Mem.al (Mem.drew (hM.out)) _ _) | with_reducible have hM2 := Mem.later hb (Mem.al (Mem.drew (Mem.al (hM.out) _ _)) _ _) | with_reducible have hM2 := Mem.later hb (Mem.drew (Mem.al (Mem.al (hM.out) _ _) _ _)) | with_reducible have hM2 := Mem.later hb (Mem.al (Mem.al (Mem.drew (hM.out)) _ _) _ _) | with_reducible have hM2 := Mem.later hb (Mem.drew (Mem.drew (hM.out))) | with_reducible have hM2 := Mem.later hb (Mem.drew (Mem.al (Mem.drew (hM.out)) _ _)) | with_reducible have hM2 := Mem.later hb (Mem.drew (Mem.al (Mem.al (Mem.al (hM.out) _ _) _ _) _ _)) | with_reducible have hM2 := Mem.later hb (Mem.al (Mem.al (Mem.drew (Mem.al (hM.out) _ _)) _ _) _ _) | with_reducible have hM2 := Mem.later hb (Mem.drew (Mem.al (Mem.drew (Mem.al (hM.out) _ _)) _ _)) | with_reducible have hM2 := Mem.later hb (Mem.al (Mem.al (Mem.al (Mem.al (Mem.al (hM.out) _ _) _ _) _ _) _ _) _ _) | with_reducible have hM2 := Mem.later hb (Mem.al (Mem.al (Mem.al (Mem.al (Mem.al (Mem.al (hM.out) _ _) _ _) _ _) _ _) _ _) _ _) | with_reducible have hM2 := Mem.later hb (Mem.al (Mem.al (Mem.al (Mem.al (Mem.al (Mem.al (Mem.al (hM.out) _ _) _ _) _ _) _ _) _ _) _ _) _ _) | with_reducible have hM2 := Mem.later hb (Mem.al (Mem.al (Mem.al (Mem.al (Mem.al (Mem.al (Mem.al (Mem.al (hM.out) _ _) _ _) _ _) _ _) _ _) _ _) _ _) _ _)); (try simp only [World.size_alloc, size_drew] at hM2); clear hM; have hM := Lib.hid hM2; clear hF; have hF := hM2; (try simp only [Mem, cellsAt, World.size_alloc, Nat.zero_add, Nat.reduceAdd, and_true] at hF); clear hM2; clear hb; clear hF; have hF : True := trivial; (refine hK.out _ _ _ (fun _ h => h) (⟨hM.out.1, trivial⟩) (fun hHeld => ?_); clear hK; clear K; (try simp only [Act.put, List.setIfInBounds_toArray, List.set_cons_zero, List.set_cons_succ])))
  (refine wpT_step rfl (by rfl) (fun K hK => ?_); go_simp)
  ((with_reducible refine (number_at bx 68 68 f _ rfl (by omega) HFb.out (Mem.get hM.out (by simp))).mono ?_); rintro e w1 ⟨rfl, hb⟩; have hB : Below w.heap.size w w1 := (by refine bl_then ?_ hb; (repeat (first | exact hB | refine bl_al ?_ _ | refine Below.setCell ?_ (by first | exact hgs | exact Nat.le_succ_of_le hgs | exact hgs2 | exact hgs3) _ | refine Below.drew ?_ | refine bl_drewN ?_ _))); (first | with_reducible have hM2 := Mem.later hb (hM.out) | with_reducible have hM2 := Mem.later hb (Mem.al (hM.out) _ _) | with_reducible have hM2 := Mem.later hb (Mem.al (Mem.al (hM.out) _ _) _ _) | with_reducible have hM2 := Mem.later hb (Mem.al (Mem.al (Mem.al (hM.out) _ _) _ _) _ _) | with_reducible have hM2 := Mem.later hb (Mem.al (Mem.al (Mem.al (Mem.al (hM.out) _ _) _ _) _ _) _ _) | with_reducible have hM2 := Mem.later hb (Mem.drew (hM.out)) | with_reducible have hM2 := Mem.later hb (Mem.drew (Mem.al (hM.out) _ _)) | with_reducible have hM2 := Mem.later hb (Mem.al (Mem.drew (hM.out)) _ _) | with_reducible have hM2 := Mem.later hb (Mem.al (Mem.drew (Mem.al (hM.out) _ _)) _ _) | with_reducible have hM2 := Mem.later hb (Mem.drew (Mem.al (Mem.al (hM.out) _ _) _ _)) | with_reducible have hM2 := Mem.later hb (Mem.al (Mem.al (Mem.drew (hM.out)) _ _) _ _) | with_reducible have hM2 := Mem.later hb (Mem.drew (Mem.drew (hM.out))) | with_reducible have hM2 := Mem.later hb (Mem.drew (Mem.al (Mem.drew (hM.out)) _ _)) | with_reducible have hM2 := Mem.later hb (Mem.drew (Mem.al (Mem.al (Mem.al (hM.out) _ _) _ _) _ _)) | with_reducible have hM2 := Mem.later hb (Mem.al (Mem.al (Mem.drew (Mem.al (hM.out) _ _)) _ _) _ _) | with_reducible have hM2 := Mem.later hb (Mem.drew (Mem.al (Mem.drew (Mem.al (hM.out) _ _)) _ _)) | with_reducible have hM2 := Mem.later hb (Mem.al (Mem.al (Mem.al (Mem.al (Mem.al (hM.out) _ _) _ _) _ _) _ _) _ _) | with_reducible have hM2 := Mem.later hb (Mem.al (Mem.al (Mem.al (Mem.al (Mem.al (Mem.al (hM.out) _ _) _ _) _ _) _ _) _ _) _ _) | with_reducible have hM2 := Mem.later hb (Mem.al (Mem.al (Mem.al (Mem.al (Mem.al (Mem.al (Mem.al (hM.out) _ _) _ _) _ _) _ _) _ _) _ _) _ _) | with_reducible have hM2 := Mem.later hb (Mem.al (Mem.al (Mem.al (Mem.al (Mem.al (Mem.al (Mem.al (Mem.al (hM.out) _ _) _ _) _ _) _ _) _ _) _ _) _ _) _ _)); (try simp only [World.size_alloc, size_drew] at hM2); clear hM; have hM := Lib.hid hM2; clear hF; have hF := hM2; (try simp only [Mem, cellsAt, World.size_alloc, Nat.zero_add, Nat.reduceAdd, and_true] at hF); clear hM2; clear hb; clear hF; have hF : True := trivial; (refine hK.out _ _ _ (fun _ h => h) (⟨hM.out.1, trivial⟩) (fun hHeld => ?_); clear hK; clear K; (try simp only [Act.put, List.setIfInBounds_toArray, List.set_cons_zero, List.set_cons_succ])))
  (refine wpT_step rfl (by rfl) (fun K hK => ?_); go_simp)
  ((with_reducible refine (number_at bx 72 72 f _ rfl (by omega) HFb.out (Mem.get hM.out (by simp))).mono ?_); rintro e w1 ⟨rfl, hb⟩; have hB : Below w.heap.size w w1 := (by refine bl_then ?_ hb; (repeat (first | exact hB | refine bl_al ?_ _ | refine Below.setCell ?_ (by first | exact hgs | exact Nat.le_succ_of_le hgs | exact hgs2 | exact hgs3) _ | refine Below.drew ?_ | refine bl_drewN ?_ _))); (first | with_reducible have hM2 := Mem.later hb (hM.out) | with_reducible have hM2 := Mem.later hb (Mem.al (hM.out) _ _) | with_reducible have hM2 := Mem.later hb (Mem.al (Mem.al (hM.out) _ _) _ _) | with_reducible have hM2 := Mem.later hb (Mem.al (Mem.al (Mem.al (hM.out) _ _) _ _) _ _) | with_reducible have hM2 := Mem.later hb (Mem.al (Mem.al (Mem.al (Mem.al (hM.out) _ _) _ _) _ _) _ _) | with_reducible have hM2 := Mem.later hb (Mem.drew (hM.out)) | with_reducible have hM2 := Mem.later hb (Mem.drew (Mem.al (hM.out) _ _)) | with_reducible have hM2 := Mem.later hb (Mem.al (Mem.drew (hM.out)) _ _) | with_reducible have hM2 := Mem.later hb (Mem.al (Mem.drew (Mem.al (hM.out) _ _)) _ _) | with_reducible have hM2 := Mem.later hb (Mem.drew (Mem.al (Mem.al (hM.out) _ _) _ _)) | with_reducible have hM2 := Mem.later hb (Mem.al (Mem.al (Mem.drew (hM.out)) _ _) _ _) | with_reducible have hM2 := Mem.later hb (Mem.drew (Mem.drew (hM.out))) | with_reducible have hM2 := Mem.later hb (Mem.drew (Mem.al (Mem.drew (hM.out)) _ _)) | with_reducible have hM2 := Mem.later hb (Mem.drew (Mem.al (Mem.al (Mem.al (hM.out) _ _) _ _) _ _)) | with_reducible have hM2 := Mem.later hb (Mem.al (Mem.al (Mem.drew (Mem.al (hM.out) _ _)) _ _) _ _) | with_reducible have hM2 := Mem.later hb (Mem.drew (Mem.al (Mem.drew (Mem.al (hM.out) _ _)) _ _)) | with_reducible have hM2 := Mem.later hb (Mem.al (Mem.al (Mem.al (Mem.al (Mem.al (hM.out) _ _) _ _) _ _) _ _) _ _) | with_reducible have hM2 := Mem.later hb (Mem.al (Mem.al (Mem.al (Mem.al (Mem.al (Mem.al (hM.out) _ _) _ _) _ _) _ _) _ _) _ _) | with_reducible have hM2 := Mem.later hb (Mem.al (Mem.al (Mem.al (Mem.al (Mem.al (Mem.al (Mem.al (hM.out) _ _) _ _) _ _) _ _) _ _) _ _) _ _) | with_reducible have hM2 := Mem.later hb (Mem.al (Mem.al (Mem.al (Mem.al (Mem.al (Mem.al (Mem.al (Mem.al (hM.out) _ _) _ _) _ _) _ _) _ _) _ _) _ _) _ _)); (try simp only [World.size_alloc, size_drew] at hM2); clear hM; have hM := Lib.hid hM2; clear hF; have hF := hM2; (try simp only [Mem, cellsAt, World.size_alloc, Nat.zero_add, Nat.reduceAdd, and_true] at hF); clear hM2; clear hb; clear hF; have hF : True := trivial; (refine hK.out _ _ _ (fun _ h => h) (⟨hM.out.1, trivial⟩) (fun hHeld => ?_); clear hK; clear K; (try simp only [Act.put, List.setIfInBounds_toArray, List.set_cons_zero, List.set_cons_succ])))
  (refine wpT_step rfl (by rfl) (fun K hK => ?_); go_simp)
  ((with_reducible refine (number_at bx 76 76 f _ rfl (by omega) HFb.out (Mem.get hM.out (by simp))).mono ?_); rintro e w1 ⟨rfl, hb⟩; have hB : Below w.heap.size w w1 := (by refine bl_then ?_ hb; (repeat (first | exact hB | refine bl_al ?_ _ | refine Below.setCell ?_ (by first | exact hgs | exact Nat.le_succ_of_le hgs | exact hgs2 | exact hgs3) _ | refine Below.drew ?_ | refine bl_drewN ?_ _))); (first | with_reducible have hM2 := Mem.later hb (hM.out) | with_reducible have hM2 := Mem.later hb (Mem.al (hM.out) _ _) | with_reducible have hM2 := Mem.later hb (Mem.al (Mem.al (hM.out) _ _) _ _) | with_reducible have hM2 := Mem.later hb (Mem.al (Mem.al (Mem.al (hM.out) _ _) _ _) _ _) | with_reducible have hM2 := Mem.later hb (Mem.al (Mem.al (Mem.al (Mem.al (hM.out) _ _) _ _) _ _) _ _) | with_reducible have hM2 := Mem.later hb (Mem.drew (hM.out)) | with_reducible have hM2 := Mem.later hb (Mem.drew (Mem.al (hM.out) _ _)) | with_reducible have hM2 := Mem.later hb (Mem.al (Mem.drew (hM.out)) _ _) | with_reducible have hM2 := Mem.later hb (Mem.al (Mem.drew (Mem.al (hM.out) _ _)) _ _) | with_reducible have hM2 := Mem.later hb (Mem.drew (Mem.al (Mem.al (hM.out) _ _) _ _)) | with_reducible have hM2 := Mem.later hb (Mem.al (Mem.al (Mem.drew (hM.out)) _ _) _ _) | with_reducible have hM2 := Mem.later hb (Mem.drew (Mem.drew (hM.out))) | with_reducible have hM2 := Mem.later hb (Mem.drew (Mem.al (Mem.drew (hM.out)) _ _)) | with_reducible have hM2 := Mem.later hb (Mem.drew (Mem.al (Mem.al (Mem.al (hM.out) _ _) _ _) _ _)) | with_reducible have hM2 := Mem.later hb (Mem.al (Mem.al (Mem.drew (Mem.al (hM.out) _ _)) _ _) _ _) | with_reducible have hM2 := Mem.later hb (Mem.drew (Mem.al (Mem.drew (Mem.al (hM.out) _ _)) _ _)) | with_reducible have hM2 := Mem.later hb (Mem.al (Mem.al (Mem.al (Mem.al (Mem.al (hM.out) _ _) _ _) _ _) _ _) _ _) | with_reducible have hM2 := Mem.later hb (Mem.al (Mem.al (Mem.al (Mem.al (Mem.al (Mem.al (hM.out) _ _) _ _) _ _) _ _) _ _) _ _) | with_reducible have hM2 := Mem.later hb (Mem.al (Mem.al (Mem.al (Mem.al (Mem.al (Mem.al (Mem.al (hM.out) _ _) _ _) _ _) _ _) _ _) _ _) _ _) | with_reducible have hM2 := Mem.later hb (Mem.al (Mem.al (Mem.al (Mem.al (Mem.al (Mem.al (Mem.al (Mem.al (hM.out) _ _) _ _) _ _) _ _) _ _) _ _) _ _) _ _)); (try simp only [World.size_alloc, size_drew] at hM2); clear hM; have hM := Lib.hid hM2; clear hF; have hF := hM2; (try simp only [Mem, cellsAt, World.size_alloc, Nat.zero_add, Nat.reduceAdd, and_true] at hF); clear hM2; clear hb; clear hF; have hF : True := trivial; (refine hK.out _ _ _ (fun _ h => h) (⟨hM.out.1, trivial⟩) (fun hHeld => ?_); clear hK; clear K; (try simp only [Act.put, List.setIfInBounds_toArray, List.set_cons_zero, List.set_cons_succ])))
  (refine wpT_take (v := hdV (getH f)) rfl (by rfl) (by rfl) (by intro w' hSw; kernel_rfl) (by assumption) ?_; (try simp only [Act.put, List.setIfInBounds_toArray, List.set_cons_zero, List.set_cons_succ]))
  (refine wpT_step rfl (by rfl) (fun K hK => ?_))
  (refine step_storeW rfl 71 (.tmp 2) (.tmp 26) rfl w.heap.size 0 (hdL (getH f)).toArray rfl rfl (by rw [hdA_size]; exact thereW (n := 68) hM.out.2.1 (by rw [hdL_len]; omega)) (by simp only [List.size_toArray, hdL_len]; kernel_rfl) (Go.all_oneCell_toArray (hdL_one _)) ?_; have hmo := Mem.over (us := hdL (getH f)) (L := [(bx, b8l f 80)]) (by intro p hp; simp at hp; subst hp; have := HBX.out; simp; omega) (Mem.swap hM.out) (by rw [hdL_len, hdL_len]); (refine hK.out _ _ _ (fun _ h => h) (⟨hmo.2.1, trivial⟩) (fun hHeld => ?_); clear hK; clear K; (try simp only [Act.put, List.setIfInBounds_toArray, List.set_cons_zero, List.set_cons_succ])))
  iterate 1 (refine wpT_take rfl (by rfl) (by rfl) (by intro w' hSw; (try dsimp only [Mem, cellsAt] at hSw); go_simp; (try with_reducible rfl)) (by assumption) ?_; (try simp only [Act.put, List.setIfInBounds_toArray, List.set_cons_zero, List.set_cons_succ]))
  (refine wpT_nil ?_)
  have HTh := Lib.hid (thereW (n := 68) hM.out.2.1 (by rw [hdL_len]; omega))
  go_wp2
  have hl := Go.run_loadVar_mid (P := Tryd.prog) (w1.setCells w.heap.size 0 (hdL (getH f))) w.heap.size 0 71 (hdL (getH f)) _ (World.rangeAt_setCells_same w1 w.heap.size 0 _ (by rw [hdL_len]; exact HTh.out)) Tryd.underlying71 rfl (by rw [hdL_len]; kernel_rfl)
  refine bodyPost_ret (v := .tuple #[hdV (getH f), .int .i64 0]) (by simp [results, Tryd.results61, asAddr, hl, Act.put, Result.andThen]) rfl ⟨rfl, bl_setCellsW (Nat.le_refl _) _ _ _ hB⟩
end Go.Proofs.YtpdgeiflmnhkfaaDoor
