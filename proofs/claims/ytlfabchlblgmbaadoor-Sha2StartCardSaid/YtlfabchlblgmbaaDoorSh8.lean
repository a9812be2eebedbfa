/- SHA-256: Sum, Double. (hM) -/
import Derived.Test.YtlfabchlblgmbaaDoorSh7
namespace Go.Proofs.YtlfabchlblgmbaaDoor
set_option linter.unusedVariables false
set_option linter.unusedSimpArgs false
open Go.RowKit

theorem catF_zero (f g : Nat → Int) : catF f 0 g = g := by
  funext i
  unfold catF
  rw [if_neg (by omega), Nat.sub_zero]
theorem wds_congr {f g : Nat → Int} (h : ∀ i, i < 64 → f i = g i) (t : Nat) : wds f t = wds g t := by
  have h0 : wd0 f 16 = wd0 g 16 := by
    funext k
    unfold wd0
    by_cases hk : k < 16
    · rw [if_pos hk, if_pos hk]
      unfold be4
      rw [h (4 * k) (by omega), h (4 * k + 1) (by omega), h (4 * k + 2) (by omega), h (4 * k + 3) (by omega)]
    · rw [if_neg hk, if_neg hk]
  induction t with
  | zero => exact h0
  | succ t ih =>
    show setF (wds f t) _ _ = setF (wds g t) _ _
    rw [ih]
theorem blk_congr (s : S8) {f g : Nat → Int} (h : ∀ i, i < 64 → f i = g i) : blk s f = blk s g := by
  unfold blk
  rw [wds_congr h]
theorem blks_congr (s : S8) {f g : Nat → Int} : ∀ k, (∀ i, i < 64 * k → f i = g i) → blks s f k = blks s g k
  | 0, _ => rfl
  | k + 1, h => by
    show blk (blks s f k) _ = blk (blks s g k) _
    rw [blks_congr s k fun i hi => h i (by omega)]
    exact blk_congr _ fun i hi => h (64 * k + i) (by omega)
theorem blks_split (s : S8) (f : Nat → Int) (a : Nat) : ∀ b, blks s f (a + b) = blks (blks s f a) (fun i => f (64 * a + i)) b
  | 0 => rfl
  | b + 1 => by
    show blk (blks s f (a + b)) (fun i => f (64 * (a + b) + i)) = blk (blks (blks s f a) (fun i => f (64 * a + i)) b) (fun i => f (64 * a + (64 * b + i)))
    rw [blks_split s f a b]
    refine blk_congr _ fun i _ => ?_
    congr 1
    omega
theorem sha_split (f : Nat → Int) (n : Nat) : outF (blks (blks s0H f (n / 64)) (catF (fun i => f (64 * (n / 64) + i)) (n % 64) (padF n (padN n))) ((n % 64 + padN n) / 64)) = shaF f n := by
  unfold shaF
  have hw := padN_whole n
  have hd : (n + padN n) / 64 = n / 64 + (n % 64 + padN n) / 64 := by omega
  rw [hd, blks_split]
  congr 1
  rw [blks_congr s0H (f := catF f n (padF n (padN n))) (g := f) (n / 64) (fun i hi => by unfold catF; rw [if_pos (by omega)])]
  refine blks_congr _ _ fun i _ => ?_
  unfold catF
  by_cases h : i < n % 64
  · rw [if_pos h, if_pos (by omega)]
  · rw [if_neg h, if_neg (by omega)]
    congr 1
    omega
theorem outF_b (s : S8) (j : Nat) : 0 ≤ outF s j ∧ outF s j < 256 := by
  unfold outF
  rw [IntKind.wrap_u8]
  omega
theorem shaF_b (f : Nat → Int) (n j : Nat) : 0 ≤ shaF f n j ∧ shaF f n j < 256 := outF_b _ _
theorem shaF_congr {f g : Nat → Int} (n : Nat) (h : ∀ i, i < n → f i = g i) : shaF f n = shaF g n := by
  unfold shaF
  rw [blks_congr s0H (f := catF f n (padF n (padN n))) (g := catF g n (padF n (padN n))) _ fun i _ => by
    unfold catF
    by_cases hi : i < n
    · rw [if_pos hi, if_pos hi, h i hi]
    · rw [if_neg hi, if_neg hi]]
theorem end_yes (s : S8) (a1 : Option Addr) (n1 c1 N : Nat) (f1 : Nat → Int) (w : World) (hT : Tab w) (hr1 : Row w a1 n1 c1 1 (bcells f1 n1)) (hf1 : ∀ i, 0 ≤ f1 i ∧ f1 i < 256) (hn : n1 = N % 64) (hN : N < 18446744073709551616) :
    Calls Tryd.prog 23 #[stV s (.slice a1 n1 c1) N] w fun e w' => e = .returned (.agg (bcells (outF (blks s (catF f1 n1 (padF N (padN N))) ((n1 + padN N) / 64))) 32).toArray) ∧ Below w.heap.size w w' :=
  end_of s a1 n1 c1 N s a1 n1 c1 N f1 w hT (fun x _ => sane_yes s a1 n1 c1 N (by omega) (by omega) x) hr1 hf1 hn hN

theorem row_ofW {w : World} {b n : Nat} {f : Nat → Int} (h : cellsAt w b 0 (bcells f n)) : Row w (some ⟨b, 0, none⟩) n n 1 (bcells f n) :=
  ⟨by rw [bcells_len, Nat.mul_one], Nat.le_refl _, (fun h => by cases h), (fun ad ha i u hu => by
    simp only [Option.some.injEq] at ha
    subst ha
    refine ⟨rfl, ?_⟩
    rw [Nat.zero_add]
    exact cellsAt_get h hu), bcells_one f n⟩
abbrev h32 (f : Nat → Int) : Value := .agg (bcells f 32).toArray
set_option maxRecDepth 100000 in
set_option maxHeartbeats 2000000 in
theorem sum_any (ao : Option Addr) (n c : Nat) (f : Nat → Int) (w : World) (hT : Tab w) (hr : Row w ao n c 1 (bcells f n)) (hf : ∀ i, 0 ≤ f i ∧ f i < 256) (hn : n ≤ 70368744177664) :
    Calls Tryd.prog 14 #[.slice ao n c] w fun e w' => e = .returned (h32 (shaF f n)) ∧ Below w.heap.size w w' := by
  have HSt := Lib.hid (fun (x : World) (hb : Below w.heap.size w x) => start_any x (hT.later hb))
  have hWr := fun (x : World) (hb : Below w.heap.size w x) => write_yes s0H none ao 0 0 n c 0 (fun _ => 0) f x (hT.later hb) rfl (row_nil x 1) (hr.later hb) (fun _ => by simp) hf hn ⟨by omega, by decide⟩
  simp only [catF_zero, Nat.zero_add, Int.zero_add] at hWr
  have hw : IntKind.u64.wrap (n : Int) = (n : Int) := by rw [IntKind.wrap_u64]; omega
  rw [hw] at hWr
  have hEnd := fun (x : World) (hb : Below w.heap.size w x) (a1 : Option Addr) (c1 : Nat) (h1 : Row x a1 (n % 64) c1 1 (bcells (fun i => f (64 * (n / 64) + i)) (n % 64))) =>
    end_yes (blks s0H f (n / 64)) a1 (n % 64) c1 n (fun i => f (64 * (n / 64) + i)) x (hT.later hb) h1 (fun i => hf _) rfl (by omega)
  simp only [sha_split] at hEnd
  obtain ⟨g, hg⟩ : ∃ g, shaF f n = g := ⟨_, rfl⟩
  rw [hg] at hEnd ⊢
  obtain ⟨t, ht⟩ : ∃ t, blks s0H f (n / 64) = t := ⟨_, rfl⟩
  obtain ⟨F, hF'⟩ : ∃ F : Nat → Int, (fun i => f (64 * (n / 64) + i)) = F := ⟨_, rfl⟩
  obtain ⟨m, hm⟩ : ∃ m, n % 64 = m := ⟨_, rfl⟩
  rw [ht, hF', hm] at hEnd
  rw [ht, hF', hm] at hWr
  have HWr := Lib.hid hWr
  have HEnd := Lib.hid hEnd
  clear hWr hEnd hw hr hf hT hg ht hF' hm
  obtain ⟨ta, tb, tc, td, te, tf, tg, th⟩ := t
  have hB := Below.refl w.heap.size w
  have hM := Lib.hid (mem_nil w)
  have hF : True := trivial
  go_enter Tryd.func14, Tryd.ntmps14
  go_wp2_with (first | (go_at_call 31; refine (HSt.out _ (by (repeat (first | exact hB | refine bl_al ?_ _ | refine Below.setCell ?_ (by first | exact hgs | exact Nat.le_succ_of_le hgs | exact hgs2 | exact hgs3) _ | refine Below.drew ?_ | refine bl_drewN ?_ _)))).mono ?_; rintro e w1 ⟨rfl, hb⟩; have hB : Below w.heap.size w w1 := (by refine bl_then ?_ hb; (repeat (first | exact hB | refine bl_al ?_ _ | refine Below.setCell ?_ (by first | exact hgs | exact Nat.le_succ_of_le hgs | exact hgs2 | exact hgs3) _ | refine Below.drew ?_ | refine bl_drewN ?_ _))); (first | with_reducible have hM2 := Mem.later hb (hM.out) | with_reducible have hM2 := Mem.later hb (Mem.al (hM.out) _ _) | with_reducible have hM2 := Mem.later hb (Mem.al (Mem.al (hM.out) _ _) _ _) | with_reducible have hM2 := Mem.later hb (Mem.al (Mem.al (Mem.al (hM.out) _ _) _ _) _ _) | with_reducible have hM2 := Mem.later hb (Mem.al (Mem.al (Mem.al (Mem.al (hM.out) _ _) _ _) _ _) _ _) | with_reducible have hM2 := Mem.later hb (Mem.drew (hM.out)) | with_reducible have hM2 := Mem.later hb (Mem.drew (Mem.al (hM.out) _ _)) | with_reducible have hM2 := Mem.later hb (Mem.al (Mem.drew (hM.out)) _ _) | with_reducible have hM2 := Mem.later hb (Mem.al (Mem.drew (Mem.al (hM.out) _ _)) _ _) | with_reducible have hM2 := Mem.later hb (Mem.drew (Mem.al (Mem.al (hM.out) _ _) _ _)) | with_reducible have hM2 := Mem.later hb (Mem.al (Mem.al (Mem.drew (hM.out)) _ _) _ _) | with_reducible have hM2 := Mem.later hb (Mem.drew (Mem.drew (hM.out))) | with_reducible have hM2 := Mem.later hb (Mem.drew (Mem.al (Mem.drew (hM.out)) _ _)) | with_reducible have hM2 := Mem.later hb (Mem.drew (Mem.al (Mem.al (Mem.al (hM.out) _ _) _ _) _ _)) | with_reducible have hM2 := Mem.later hb (Mem.al (Mem.al (Mem.drew (Mem.al (hM.out) _ _)) _ _) _ _) | with_reducible have hM2 := Mem.later hb (Mem.drew (Mem.al (Mem.drew (Mem.al (hM.out) _ _)) _ _)) | with_reducible have hM2 := Mem.later hb (Mem.al (Mem.al (Mem.al (Mem.al (Mem.al (hM.out) _ _) _ _) _ _) _ _) _ _) | with_reducible have hM2 := Mem.later hb (Mem.al (Mem.al (Mem.al (Mem.al (Mem.al (Mem.al (hM.out) _ _) _ _) _ _) _ _) _ _) _ _) | with_reducible have hM2 := Mem.later hb (Mem.al (Mem.al (Mem.al (Mem.al (Mem.al (Mem.al (Mem.al (hM.out) _ _) _ _) _ _) _ _) _ _) _ _) _ _) | with_reducible have hM2 := Mem.later hb (Mem.al (Mem.al (Mem.al (Mem.al (Mem.al (Mem.al (Mem.al (Mem.al (hM.out) _ _) _ _) _ _) _ _) _ _) _ _) _ _) _ _)); (try simp only [World.size_alloc, size_drew] at hM2); clear hM; have hM := Lib.hid hM2; clear hF; have hF := hM2; (try simp only [Mem, cellsAt, World.size_alloc, Nat.zero_add, Nat.reduceAdd, and_true] at hF); clear hM2; clear hb) | (go_at_call 20; refine (HWr.out _ (by (repeat (first | exact hB | refine bl_al ?_ _ | refine Below.setCell ?_ (by first | exact hgs | exact Nat.le_succ_of_le hgs | exact hgs2 | exact hgs3) _ | refine Below.drew ?_ | refine bl_drewN ?_ _)))).mono ?_; rintro e w2 ⟨a1, c1, rfl, hown, hb⟩; have HO := Lib.hid (hown.row (bcells_one _ _)); have hB : Below w.heap.size w w2 := (by refine bl_then ?_ hb; (repeat (first | exact hB | refine bl_al ?_ _ | refine Below.setCell ?_ (by first | exact hgs | exact Nat.le_succ_of_le hgs | exact hgs2 | exact hgs3) _ | refine Below.drew ?_ | refine bl_drewN ?_ _))); (first | with_reducible have hM2 := Mem.later hb (hM.out) | with_reducible have hM2 := Mem.later hb (Mem.al (hM.out) _ _) | with_reducible have hM2 := Mem.later hb (Mem.al (Mem.al (hM.out) _ _) _ _) | with_reducible have hM2 := Mem.later hb (Mem.al (Mem.al (Mem.al (hM.out) _ _) _ _) _ _) | with_reducible have hM2 := Mem.later hb (Mem.al (Mem.al (Mem.al (Mem.al (hM.out) _ _) _ _) _ _) _ _) | with_reducible have hM2 := Mem.later hb (Mem.drew (hM.out)) | with_reducible have hM2 := Mem.later hb (Mem.drew (Mem.al (hM.out) _ _)) | with_reducible have hM2 := Mem.later hb (Mem.al (Mem.drew (hM.out)) _ _) | with_reducible have hM2 := Mem.later hb (Mem.al (Mem.drew (Mem.al (hM.out) _ _)) _ _) | with_reducible have hM2 := Mem.later hb (Mem.drew (Mem.al (Mem.al (hM.out) _ _) _ _)) | with_reducible have hM2 := Mem.later hb (Mem.al (Mem.al (Mem.drew (hM.out)) _ _) _ _) | with_reducible have hM2 := Mem.later hb (Mem.drew (Mem.drew (hM.out))) | with_reducible have hM2 := Mem.later hb (Mem.drew (Mem.al (Mem.drew (hM.out)) _ _)) | with_reducible have hM2 := Mem.later hb (Mem.drew (Mem.al (Mem.al (Mem.al (hM.out) _ _) _ _) _ _)) | with_reducible have hM2 := Mem.later hb (Mem.al (Mem.al (Mem.drew (Mem.al (hM.out) _ _)) _ _) _ _) | with_reducible have hM2 := Mem.later hb (Mem.drew (Mem.al (Mem.drew (Mem.al (hM.out) _ _)) _ _)) | with_reducible have hM2 := Mem.later hb (Mem.al (Mem.al (Mem.al (Mem.al (Mem.al (hM.out) _ _) _ _) _ _) _ _) _ _) | with_reducible have hM2 := Mem.later hb (Mem.al (Mem.al (Mem.al (Mem.al (Mem.al (Mem.al (hM.out) _ _) _ _) _ _) _ _) _ _) _ _) | with_reducible have hM2 := Mem.later hb (Mem.al (Mem.al (Mem.al (Mem.al (Mem.al (Mem.al (Mem.al (hM.out) _ _) _ _) _ _) _ _) _ _) _ _) _ _) | with_reducible have hM2 := Mem.later hb (Mem.al (Mem.al (Mem.al (Mem.al (Mem.al (Mem.al (Mem.al (Mem.al (hM.out) _ _) _ _) _ _) _ _) _ _) _ _) _ _) _ _)); (try simp only [World.size_alloc, size_drew] at hM2); clear hM; have hM := Lib.hid hM2; clear hF; have hF := hM2; (try simp only [Mem, cellsAt, World.size_alloc, Nat.zero_add, Nat.reduceAdd, and_true] at hF); clear hM2; clear hb; clear hown) | (go_at_call 23; refine (HEnd.out _ (by (repeat (first | exact hB | refine bl_al ?_ _ | refine Below.setCell ?_ (by first | exact hgs | exact Nat.le_succ_of_le hgs | exact hgs2 | exact hgs3) _ | refine Below.drew ?_ | refine bl_drewN ?_ _))) _ _ HO.out).mono ?_; rintro e w3 ⟨rfl, hb⟩; have hB : Below w.heap.size w w3 := (by refine bl_then ?_ hb; (repeat (first | exact hB | refine bl_al ?_ _ | refine Below.setCell ?_ (by first | exact hgs | exact Nat.le_succ_of_le hgs | exact hgs2 | exact hgs3) _ | refine Below.drew ?_ | refine bl_drewN ?_ _))); (first | with_reducible have hM2 := Mem.later hb (hM.out) | with_reducible have hM2 := Mem.later hb (Mem.al (hM.out) _ _) | with_reducible have hM2 := Mem.later hb (Mem.al (Mem.al (hM.out) _ _) _ _) | with_reducible have hM2 := Mem.later hb (Mem.al (Mem.al (Mem.al (hM.out) _ _) _ _) _ _) | with_reducible have hM2 := Mem.later hb (Mem.al (Mem.al (Mem.al (Mem.al (hM.out) _ _) _ _) _ _) _ _) | with_reducible have hM2 := Mem.later hb (Mem.drew (hM.out)) | with_reducible have hM2 := Mem.later hb (Mem.drew (Mem.al (hM.out) _ _)) | with_reducible have hM2 := Mem.later hb (Mem.al (Mem.drew (hM.out)) _ _) | with_reducible have hM2 := Mem.later hb (Mem.al (Mem.drew (Mem.al (hM.out) _ _)) _ _) | with_reducible have hM2 := Mem.later hb (Mem.drew (Mem.al (Mem.al (hM.out) _ _) _ _)) | with_reducible have hM2 := Mem.later hb (Mem.al (Mem.al (Mem.drew (hM.out)) _ _) _ _) | with_reducible have hM2 := Mem.later hb (Mem.drew (Mem.drew (hM.out))) | with_reducible have hM2 := Mem.later hb (Mem.drew (Mem.al (Mem.drew (hM.out)) _ _)) | with_reducible have hM2 := Mem.later hb (Mem.drew (Mem.al (Mem.al (Mem.al (hM.out) _ _) _ _) _ _)) | with_reducible have hM2 := Mem.later hb (Mem.al (Mem.al (Mem.drew (Mem.al (hM.out) _ _)) _ _) _ _) | with_reducible have hM2 := Mem.later hb (Mem.drew (Mem.al (Mem.drew (Mem.al (hM.out) _ _)) _ _)) | with_reducible have hM2 := Mem.later hb (Mem.al (Mem.al (Mem.al (Mem.al (Mem.al (hM.out) _ _) _ _) _ _) _ _) _ _) | with_reducible have hM2 := Mem.later hb (Mem.al (Mem.al (Mem.al (Mem.al (Mem.al (Mem.al (hM.out) _ _) _ _) _ _) _ _) _ _) _ _) | with_reducible have hM2 := Mem.later hb (Mem.al (Mem.al (Mem.al (Mem.al (Mem.al (Mem.al (Mem.al (hM.out) _ _) _ _) _ _) _ _) _ _) _ _) _ _) | with_reducible have hM2 := Mem.later hb (Mem.al (Mem.al (Mem.al (Mem.al (Mem.al (Mem.al (Mem.al (Mem.al (hM.out) _ _) _ _) _ _) _ _) _ _) _ _) _ _) _ _)); (try simp only [World.size_alloc, size_drew] at hM2); clear hM; have hM := Lib.hid hM2; clear hF; have hF := hM2; (try simp only [Mem, cellsAt, World.size_alloc, Nat.zero_add, Nat.reduceAdd, and_true] at hF); clear hM2; clear hb; have HTh := Lib.hid (thereW (n := 32) hM.out.1 (Nat.le_refl _)); clear hF) | (refine Go.wpList_store_mid rfl 30 (.tmp 2) (.tmp 6) rfl w.heap.size 0 (bcells g 32).toArray rfl rfl (by simpa [bcells_len] using HTh.out) (by simp only [List.size_toArray, bcells_len]; kernel_rfl) (Go.all_oneCell_toArray (bcells_one _ 32)) ?_))
  have hl := Go.run_loadVar_mid (P := Tryd.prog) (w3.setCells w.heap.size 0 (bcells g 32)) w.heap.size 0 30 (bcells g 32) _ (World.rangeAt_setCells_same w3 w.heap.size 0 _ (by rw [bcells_len]; exact HTh.out)) Tryd.underlying30 rfl (by rw [bcells_len]; kernel_rfl)
  refine bodyPost_ret (v := h32 g) (by simp [results, Tryd.results14, asAddr, hl, Act.put]) rfl ⟨rfl, bl_setCellsW (Nat.le_refl _) _ _ _ hB⟩

set_option maxRecDepth 100000 in
set_option maxHeartbeats 2000000 in
theorem double_any (ao : Option Addr) (n c : Nat) (f : Nat → Int) (w : World) (hT : Tab w) (hr : Row w ao n c 1 (bcells f n)) (hf : ∀ i, 0 ≤ f i ∧ f i < 256) (hn : n ≤ 70368744177664) :
    Calls Tryd.prog 16 #[.slice ao n c] w fun e w' => e = .returned (h32 (shaF (shaF f n) 32)) ∧ Below w.heap.size w w' := by
  obtain ⟨g, hg⟩ : ∃ g, shaF f n = g := ⟨_, rfl⟩
  have hgb : ∀ i, 0 ≤ g i ∧ g i < 256 := fun i => by rw [← hg]; exact shaF_b _ _ _
  have HS1 := Lib.hid (fun (x : World) (hb : Below w.heap.size w x) => hg ▸ sum_any ao n c f x (hT.later hb) (hr.later hb) hf hn)
  obtain ⟨q, hq⟩ : ∃ q, shaF g 32 = q := ⟨_, rfl⟩
  have HS2 := Lib.hid (fun (x : World) (b : Nat) (hb : Below w.heap.size w x) (h : Row x (some ⟨b, 0, none⟩) 32 32 1 (bcells g 32)) => hq ▸ sum_any (some ⟨b, 0, none⟩) 32 32 g x (hT.later hb) h hgb (by omega))
  rw [hg, hq]
  clear hT hr hf hg hgb hq
  have hB := Below.refl w.heap.size w
  have hM := Lib.hid (mem_nil w)
  have hF : True := trivial
  go_enter Tryd.func16, Tryd.ntmps16
  go_wp2_with (first | (go_at_call 14; refine (HS1.out _ (by (repeat (first | exact hB | refine bl_al ?_ _ | refine Below.setCell ?_ (by first | exact hgs | exact Nat.le_succ_of_le hgs | exact hgs2 | exact hgs3) _ | refine Below.drew ?_ | refine bl_drewN ?_ _)))).mono ?_; rintro e w1 ⟨rfl, hb⟩; have hB : Below w.heap.size w w1 := (by refine bl_then ?_ hb; (repeat (first | exact hB | refine bl_al ?_ _ | refine Below.setCell ?_ (by first | exact hgs | exact Nat.le_succ_of_le hgs | exact hgs2 | exact hgs3) _ | refine Below.drew ?_ | refine bl_drewN ?_ _))); (first | with_reducible have hM2 := Mem.later hb (hM.out) | with_reducible have hM2 := Mem.later hb (Mem.al (hM.out) _ _) | with_reducible have hM2 := Mem.later hb (Mem.al (Mem.al (hM.out) _ _) _ _) | with_reducible have hM2 := Mem.later hb (Mem.al (Mem.al (Mem.al (hM.out) _ _) _ _) _ _) | with_reducible have hM2 := Mem.later hb (Mem.al (Mem.al (Mem.al (Mem.al (hM.out) _ _) _ _) _ _) _ _) | with_reducible have hM2 := Mem.later hb (Mem.drew (hM.out)) | with_reducible have hM2 := Mem.later hb (Mem.drew (Mem.al (hM.out) _ _)) | with_reducible have hM2 := Mem.later hb (Mem.al (Mem.drew (hM.out)) _ _) | with_reducible have hM2 := Mem.later hb (Mem.al (Mem.drew (Mem.al (hM.out) _ _)) _ _) | with_reducible have hM2 := Mem.later hb (Mem.drew (Mem.al (Mem.al (hM.out) _ _) _ _)) | with_reducible have hM2 := Mem.later hb (Mem.al (Mem.al (Mem.drew (hM.out)) _ _) _ _) | with_reducible have hM2 := Mem.later hb (Mem.drew (Mem.drew (hM.out))) | with_reducible have hM2 := Mem.later hb (Mem.drew (Mem.al (Mem.drew (hM.out)) _ _)) | with_reducible have hM2 := Mem.later hb (Mem.drew (Mem.al (Mem.al (Mem.al (hM.out) _ _) _ _) _ _)) | with_reducible have hM2 := Mem.later hb (Mem.al (Mem.al (Mem.drew (Mem.al (hM.out) _ _)) _ _) _ _) | with_reducible have hM2 := Mem.later hb (Mem.drew (Mem.al (Mem.drew (Mem.al (hM.out) _ _)) _ _)) | with_reducible have hM2 := Mem.later hb (Mem.al (Mem.al (Mem.al (Mem.al (Mem.al (hM.out) _ _) _ _) _ _) _ _) _ _) | with_reducible have hM2 := Mem.later hb (Mem.al (Mem.al (Mem.al (Mem.al (Mem.al (Mem.al (hM.out) _ _) _ _) _ _) _ _) _ _) _ _) | with_reducible have hM2 := Mem.later hb (Mem.al (Mem.al (Mem.al (Mem.al (Mem.al (Mem.al (Mem.al (hM.out) _ _) _ _) _ _) _ _) _ _) _ _) _ _) | with_reducible have hM2 := Mem.later hb (Mem.al (Mem.al (Mem.al (Mem.al (Mem.al (Mem.al (Mem.al (Mem.al (hM.out) _ _) _ _) _ _) _ _) _ _) _ _) _ _) _ _)); (try simp only [World.size_alloc, size_drew] at hM2); clear hM; have hM := Lib.hid hM2; clear hF; have hF := hM2; (try simp only [Mem, cellsAt, World.size_alloc, Nat.zero_add, Nat.reduceAdd, and_true] at hF); clear hM2; clear hb) | (refine wpList_store_newV rfl (.tmp 3) (.tmp 5) 30 rfl _ (bcells g 32) _ Tryd.underlying30 rfl (by rw [bcells_len]; kernel_rfl) (by rw [bcells_len]; rfl) (bcells_one g 32) rfl rfl hM.out ?_; intro W2 hMW hbW; have hBW := bl_then hB hbW; clear hM hF hB; have hM := Lib.hid hMW; have hB := hBW; clear hMW hbW hBW))
  refine (HS2.out _ w1.heap.size hB (row_ofW hM.out.1.2.2)).mono ?_
  rintro e w3 ⟨rfl, hb3⟩
  have HM3 := Lib.hid (Mem.later hb3 hM.out)
  have hB3 := bl_then hB hb3
  have HTh := Lib.hid (thereW (n := 32) HM3.out.2.1 (Nat.le_refl _))
  clear hb3 hB
  go_wp2_with (refine Go.wpList_store_mid rfl 30 (.tmp 2) (.tmp 7) rfl w.heap.size 0 (bcells q 32).toArray rfl rfl (by simpa [bcells_len] using HTh.out) (by simp only [List.size_toArray, bcells_len]; kernel_rfl) (Go.all_oneCell_toArray (bcells_one _ 32)) ?_)
  have hl := Go.run_loadVar_mid (P := Tryd.prog) (w3.setCells w.heap.size 0 (bcells q 32)) w.heap.size 0 30 (bcells q 32) _ (World.rangeAt_setCells_same w3 w.heap.size 0 _ (by rw [bcells_len]; exact HTh.out)) Tryd.underlying30 rfl (by rw [bcells_len]; kernel_rfl)
  refine bodyPost_ret (v := h32 q) (by simp [results, Tryd.results16, asAddr, hl, Act.put]) rfl ⟨rfl, bl_setCellsW (Nat.le_refl _) _ _ _ hB3⟩
end Go.Proofs.YtlfabchlblgmbaaDoor
