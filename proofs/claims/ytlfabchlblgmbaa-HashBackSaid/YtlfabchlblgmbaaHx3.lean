/- Package hash: digit, Parse of what Text has written. (hM) -/
import Derived.Test.YtlfabchlblgmbaaHx2
import Derived.Test.YtlfabchlblgmbaaBy11
namespace Go.Proofs.Ytlfabchlblgmbaa
set_option linter.unusedVariables false
set_option linter.unusedSimpArgs false
open Go.RowKit

set_option maxHeartbeats 1000000 in
theorem hdigit_any (d : Int) (hd : 0 ≤ d ∧ d < 16) (w : World) :
    Calls Try.prog 52 #[.int .i32 (hexd d)] w fun e w' => e = .returned (.tuple #[.int .u8 d, .bool true]) ∧ Below w.heap.size w w' := by
  by_cases h : d < 10
  · rw [show hexd d = 48 + d by unfold hexd; rw [if_pos h]]
    have h1 : (48 : Int) ≤ 48 + d := by omega
    have h2 : 48 + d ≤ (57 : Int) := by omega
    have h3 : IntKind.i32.wrap (48 + d - 48) = d := by rw [show 48 + d - 48 = d by omega]; rw [IntKind.wrap_i32]; omega
    have h4 : IntKind.u8.wrap d = d := by rw [IntKind.wrap_u8]; omega
    go_enter Try.func52, Try.ntmps52
    go_wp2
    refine bodyPost_ret (v := .tuple #[.int .u8 d, .bool true]) (by simp [results, Try.results52, go_sem]) rfl ?_
    exact ⟨rfl, by (repeat (first | exact Below.refl _ _ | refine Below.drew ?_ | refine bl_drewN ?_ _ | (refine Below.alloc ?_ (by first | exact Nat.le_refl _ | (simp; done) | (simp; omega)) _)))⟩
  · rw [show hexd d = 87 + d by unfold hexd; rw [if_neg h]]
    have h1 : (48 : Int) ≤ 87 + d := by omega
    have h2 : ¬ 87 + d ≤ (57 : Int) := by omega
    have h5 : (97 : Int) ≤ 87 + d := by omega
    have h6 : 87 + d ≤ (102 : Int) := by omega
    have h3 : IntKind.i32.wrap (87 + d - 97) = d - 10 := by rw [show 87 + d - 97 = d - 10 by omega]; rw [IntKind.wrap_i32]; omega
    have h4 : IntKind.u8.wrap (d - 10) = d - 10 := by rw [IntKind.wrap_u8]; omega
    have h7 : IntKind.u8.wrap (d - 10 + 10) = d := by rw [IntKind.wrap_u8]; omega
    go_enter Try.func52, Try.ntmps52
    go_wp2
    refine bodyPost_ret (v := .tuple #[.int .u8 d, .bool true]) (by simp [results, Try.results52, go_sem]) rfl ?_
    exact ⟨rfl, by (repeat (first | exact Below.refl _ _ | refine Below.drew ?_ | refine bl_drewN ?_ _ | (refine Below.alloc ?_ (by first | exact Nat.le_refl _ | (simp; done) | (simp; omega)) _)))⟩

theorem text_size (f : Nat → Int) : (textT f).size = 64 := by
  show (List.map _ _).toArray.size = 64
  simp [bnums]
theorem text_at (f : Nat → Int) (hf : ∀ i, 0 ≤ f i ∧ f i < 256) (j : Nat) (h : j < (textT f).size) : (((textT f)[j]'h).toNat : Int) = hexd (txN f j) := by
  have hb := hexd_b (txN_b f hf j)
  have e : (textT f)[j]'h = UInt8.ofNat (hexd (txN f j)).toNat := by
    show ((List.map (fun n : Int => UInt8.ofNat n.toNat) (bnums (txC f) 64)).toArray)[j]'_ = _
    simp [bnums, txC]
  rw [e, UInt8.toNat_ofNat']
  omega
/-- the bytes behind j digits -/
def parF (f : Nat → Int) (j i : Nat) : Int := if 31 < i + j / 2 then f i else if i + j / 2 = 31 ∧ j % 2 = 1 then f i / 16 else 0
theorem par_end (f : Nat → Int) : b8l (parF f 64) 32 = b8l f 32 := b8l_congr fun i hi => by unfold parF; rw [if_pos (by omega)]
theorem or_nib : ∀ e d : Fin 16, bits .or .u8 (IntKind.u8.wrap ((e.val : Int) * 2 ^ 4)) (d.val : Int) = (e.val : Int) * 16 + (d.val : Int) := by decide +kernel
theorem par_step (f : Nat → Int) (hf : ∀ i, 0 ≤ f i ∧ f i < 256) (j q : Nat) (hj : j < 64) (hq : q + j / 2 = 31) : bits .or .u8 (IntKind.u8.wrap (parF f j q * 2 ^ 4)) (txN f j) = parF f (j + 1) q := by
  have hb := hf q
  have ht := txN_b f hf j
  have he : 0 ≤ parF f j q ∧ parF f j q < 16 := by unfold parF; rw [if_neg (by omega)]; split <;> omega
  have h := or_nib ⟨(parF f j q).toNat, by omega⟩ ⟨(txN f j).toNat, by omega⟩
  simp only [Int.toNat_of_nonneg he.1, Int.toNat_of_nonneg ht.1] at h
  rw [h]
  unfold parF txN
  rw [if_neg (show ¬ 31 < q + j / 2 by omega), show 31 - j / 2 = q by omega]
  rcases Nat.mod_two_eq_zero_or_one j with hp | hp
  · rw [if_neg (by omega), if_pos hp, if_neg (by omega), if_pos (by omega)]; omega
  · rw [if_pos (by omega), if_neg (by omega), if_pos (by omega)]; omega
theorem par_set (f : Nat → Int) (j q : Nat) (hq : q + j / 2 = 31) : b8l (setF (parF f j) q (parF f (j + 1) q)) 32 = b8l (parF f (j + 1)) 32 := b8l_congr fun i hi => by
  unfold setF
  by_cases h : i = q
  · rw [if_pos h, h]
  · rw [if_neg h]
    unfold parF
    by_cases h1 : 31 < i + j / 2
    · rw [if_pos h1, if_pos (by omega)]
    · rw [if_neg h1, if_neg (by omega), if_neg (by omega), if_neg (by omega)]

def ParIn (w : World) (s : ByteArray) (f : Nat → Int) (n : Value) (wr : World) : Prop :=
  ∃ j : Nat, j ≤ 64 ∧ n = .int .i64 j ∧ Below w.heap.size w wr ∧ wr.heap[w.heap.size + 2]? = some (.stringIter s j) ∧
    Mem wr [(w.heap.size + 1, b8l (parF f j) 32), (w.heap.size, b8l (fun _ => 0) 32)]

set_option maxRecDepth 100000 in
set_option maxHeartbeats 4000000 in
theorem parse_of (s : ByteArray) (f : Nat → Int) (hs : s.size = 64) (hf : ∀ i, 0 ≤ f i ∧ f i < 256) (hch : ∀ j (h : j < s.size), ((s[j]'h).toNat : Int) = hexd (txN f j)) (w : World) :
    Calls Try.prog 39 #[.string s] w fun e w' => e = .returned (.tuple #[arr32 f, .int .i64 0]) ∧ Below w.heap.size w w' := by
  have HA := Lib.hid (And.intro hs (And.intro hf hch))
  clear hs hf hch
  go_enter Try.func39, Try.ntmps39
  go_wp2
  go_loopw [5] (fun n wr => ParIn w s f n wr) (fun n _ => 64 - (intOf n).toNat)
  case atStart =>
    refine ⟨0, Nat.zero_le _, rfl, by unfold World.iter; (repeat (first | exact Below.refl _ _ | refine Below.drew ?_ | refine bl_drewN ?_ _ | (refine Below.alloc ?_ (by first | exact Nat.le_refl _ | (simp; done) | (simp; omega)) _))), ?_, ?_⟩
    · have h := World.iter_heap ((w.alloc (.cells (b8l (fun _ => 0) 32).toArray 67)).alloc (.cells (b8l (fun _ => 0) 32).toArray 67)) s 0
      simp only [World.size_alloc] at h
      exact h
    · have h := Mem.skip (Mem.al (Mem.al (mem_nil w) (b8l (fun _ => 0) 32) 67) (b8l (fun _ => 0) 32) 67) (.stringIter s 0)
      simp only [World.size_alloc] at h
      rw [show b8l (parF f 0) 32 = b8l (fun _ => 0) 32 from b8l_congr fun i hi => by unfold parF; rw [if_neg (by omega), if_neg (by omega)]]
      exact h
  case round =>
    obtain ⟨j, hj, rfl, hB, hit, hm⟩ := hrel
    obtain ⟨hs, hf, hch⟩ := HA.out
    by_cases hlt : j < 64
    · obtain ⟨c, hc⟩ : ∃ c, hexd (txN f j) = c := ⟨_, rfl⟩
      have htb := txN_b f hf j
      have hcb := hexd_b htb
      have hcj := hch j (by omega)
      have HDig := Lib.hid (fun w => hc ▸ hdigit_any (txN f j) htb w)
      obtain ⟨W, hW⟩ : ∃ W, wr.iterAt (w.heap.size + 2) s (j + 1) = W := ⟨_, rfl⟩
      have hnx : ∀ ty, (Instr.next (.pointer (some ⟨w.heap.size + 2, 0, none⟩)) true ty).run Try.prog wr = .ok (.tuple #[.bool true, .int .i64 j, .int .i32 c]) W := fun ty => by
        rw [Lib.run_next_ascii_at wr (w.heap.size + 2) s j ty hit (by omega) (by omega), hcj, hc, hW]
      have hsz := (Array.getElem?_eq_some_iff.1 hit).1
      have hBW : Below w.heap.size w W := by rw [← hW]; exact Lib.below_iterAt hB (by omega) s (j + 1)
      have hIW : W.heap[w.heap.size + 2]? = some (.stringIter s (j + 1)) := by rw [← hW]; exact Lib.iterAt_heap wr (w.heap.size + 2) s j (j + 1) hit
      have hMW : Mem W [(w.heap.size + 1, b8l (parF f j) 32), (w.heap.size, b8l (fun _ => 0) 32)] := by
        rw [← hW]
        exact Mem.laterB (Lib.below_iterAt (Below.refl (w.heap.size + 2) wr) (Nat.le_refl _) s (j + 1)) (by intro p hp; simp at hp; rcases hp with rfl | rfl <;> simp) hm
      have hkl : w.heap.size + 2 < W.heap.size := (Array.getElem?_eq_some_iff.1 hIW).1
      have HI := Lib.hid (And.intro hIW hkl)
      obtain ⟨q, hq⟩ : ∃ q : Nat, q + j / 2 = 31 := ⟨31 - j / 2, by omega⟩
      have hps := par_step f hf j q hlt hq
      obtain ⟨d, hd⟩ : ∃ d, txN f j = d := ⟨_, rfl⟩
      obtain ⟨y, hy⟩ : ∃ y, parF f (j + 1) q = y := ⟨_, rfl⟩
      obtain ⟨x, hx⟩ : ∃ x, parF f j q = x := ⟨_, rfl⟩
      rw [hd] at hps HDig
      rw [hy, hx, IntKind.wrap_u8, show (2 : Int) ^ 4 = 16 by decide] at hps
      have hq2 : 31 - (j : Int) / 2 = (q : Int) := by omega
      have hq32 : (q : Int) < 32 := by omega
      have hn64 : ¬ (j : Int) = 64 := by omega
      have hset : (b8l (parF f j) 32).set q (.int .u8 y) = b8l (parF f (j + 1)) 32 := by rw [b8l_set, ← hy]; exact par_set f j q hq
      have HSet := Lib.hid hset
      clear hs hf hch htb hcb hcj hc hW hIW hkl hm hit hB hsz hq hd hy hset
      have hB := hBW
      have hM := Lib.hid hMW
      have hF : True := trivial
      clear hMW hBW
      go_wp2_with (first | (go_at_call 52; (with_reducible refine (HDig.out _).mono ?_); rintro e w1 ⟨rfl, hb⟩; have HI2 := Lib.hid (And.intro ((hb.block _ HI.out.2).trans HI.out.1) (Nat.lt_of_lt_of_le HI.out.2 hb.size)); clear HI; have HI := HI2; clear HI2; have hB : Below w.heap.size w w1 := (by refine bl_then ?_ hb; (repeat (first | exact hB | refine bl_al ?_ _ | refine Below.setCell ?_ (by first | exact hgs | exact Nat.le_succ_of_le hgs | exact hgs2 | exact hgs3) _ | refine Below.drew ?_ | refine bl_drewN ?_ _))); (first | with_reducible have hM2 := Mem.later hb (hM.out) | with_reducible have hM2 := Mem.later hb (Mem.al (hM.out) _ _) | with_reducible have hM2 := Mem.later hb (Mem.al (Mem.al (hM.out) _ _) _ _) | with_reducible have hM2 := Mem.later hb (Mem.al (Mem.al (Mem.al (hM.out) _ _) _ _) _ _) | with_reducible have hM2 := Mem.later hb (Mem.al (Mem.al (Mem.al (Mem.al (hM.out) _ _) _ _) _ _) _ _) | with_reducible have hM2 := Mem.later hb (Mem.drew (hM.out)) | with_reducible have hM2 := Mem.later hb (Mem.drew (Mem.al (hM.out) _ _)) | with_reducible have hM2 := Mem.later hb (Mem.al (Mem.drew (hM.out)) _ _) | with_reducible have hM2 := Mem.later hb (Mem.al (Mem.drew (Mem.al (hM.out) _ _)) _ _) | with_reducible have hM2 := Mem.later hb (Mem.drew (Mem.al (Mem.al (hM.out) _ _) _ _)) | with_reducible have hM2 := Mem.later hb (Mem.al (Mem.al (Mem.drew (hM.out)) _ _) _ _) | with_reducible have hM2 := Mem.later hb (Mem.drew (Mem.drew (hM.out))) | with_reducible have hM2 := Mem.later hb (Mem.drew (Mem.al (Mem.drew (hM.out)) _ _)) | with_reducible have hM2 := Mem.later hb (Mem.drew (Mem.al (Mem.al (Mem.al (hM.out) _ _) _ _) _ _)) | with_reducible have hM2 := Mem.later hb (Mem.al (Mem.al (Mem.drew (Mem.al (hM.out) _ _)) _ _) _ _) | with_reducible have hM2 := Mem.later hb (Mem.drew (Mem.al (Mem.drew (Mem.al (hM.out) _ _)) _ _)) | with_reducible have hM2 := Mem.later hb (Mem.al (Mem.al (Mem.al (Mem.al (Mem.al (hM.out) _ _) _ _) _ _) _ _) _ _) | with_reducible have hM2 := Mem.later hb (Mem.al (Mem.al (Mem.al (Mem.al (Mem.al (Mem.al (hM.out) _ _) _ _) _ _) _ _) _ _) _ _) | with_reducible have hM2 := Mem.later hb (Mem.al (Mem.al (Mem.al (Mem.al (Mem.al (Mem.al (Mem.al (hM.out) _ _) _ _) _ _) _ _) _ _) _ _) _ _) | with_reducible have hM2 := Mem.later hb (Mem.al (Mem.al (Mem.al (Mem.al (Mem.al (Mem.al (Mem.al (Mem.al (hM.out) _ _) _ _) _ _) _ _) _ _) _ _) _ _) _ _)); (try simp only [World.size_alloc, size_drew] at hM2); clear hM; have hM := Lib.hid hM2; clear hF; have hF := hM2; (try simp only [Mem, cellsAt, World.size_alloc, Nat.zero_add, Nat.reduceAdd, and_true] at hF); clear hM2; clear hb; have hcq := cellsAt_get hM.out.1.2.2 (b8l_get (parF f j) 32 q (by omega)); rw [hx] at hcq; have hfq := hM.out.1.2.1 q))
      have hset2 : Mem (w1.setCell ⟨w.heap.size + 1, q, none⟩ (.int .u8 y)) [(w.heap.size + 1, b8l (parF f (j + 1)) 32), (w.heap.size, b8l (fun _ => 0) 32)] := by
        rw [← HSet.out]
        exact Mem.setN (b := w.heap.size + 1) (by intro p hp; simp at hp; subst hp; simp) hM.out
      refine ⟨⟨j + 1, by omega, by go_num, hB.setCell (by show w.heap.size ≤ w.heap.size + 1; omega) _, ?_, hset2⟩, by simp only [intOf]; omega⟩
      rw [Below.heap_setCell _ _ _ _ (by show w.heap.size + 2 ≠ w.heap.size + 1; omega)]
      exact HI.out.1
    · have hje : j = 64 := by omega
      subst hje
      rw [par_end] at hm
      have hnx : ∀ ty, (Instr.next (.pointer (some ⟨w.heap.size + 2, 0, none⟩)) true ty).run Try.prog wr = .ok (.tuple #[.bool false]) wr := fun ty => Lib.run_next_end_at wr (w.heap.size + 2) s 64 ty hit (by omega)
      have HTh := Lib.hid (thereW (n := 32) hm.2.1 (Nat.le_refl _))
      have HM := Lib.hid hm
      have HH := Lib.hid hf
      clear hs hf hch hit hm HA
      go_wp2_with (first | (refine Go.wpList_load_mid rfl 67 (.tmp 4) rfl (w.heap.size + 1) 0 rfl (b8l f 32) _ (rangeAt_of HM.out.1.2.2) Try.underlying67 rfl (by rw [b8l_len]; kernel_rfl) ?_) | (refine Go.wpList_store_mid rfl 67 (.tmp 2) (.tmp 44) rfl w.heap.size 0 (b8l f 32).toArray rfl rfl (by simpa [b8l_len] using HTh.out) (by simp only [List.size_toArray, b8l_len]; kernel_rfl) (Go.all_oneCell_toArray (b8l_one f 32)) ?_))
      have hl := Go.run_loadVar_mid (P := Try.prog) (wr.setCells w.heap.size 0 (b8l f 32)) w.heap.size 0 67 (b8l f 32) _ (World.rangeAt_setCells_same wr w.heap.size 0 (b8l f 32) (by rw [b8l_len]; exact HTh.out)) Try.underlying67 rfl (by rw [b8l_len]; kernel_rfl)
      refine bodyPost_ret (v := .tuple #[arr32 f, .int .i64 0]) (by simp [results, Try.results39, asAddr, hl, Act.put, Result.andThen]) rfl ⟨rfl, bl_setCellsW (Nat.le_refl _) _ _ _ hB⟩
theorem parse_text (f : Nat → Int) (hf : ∀ i, 0 ≤ f i ∧ f i < 256) (w : World) :
    Calls Try.prog 39 #[.string (textT f)] w fun e w' => e = .returned (.tuple #[arr32 f, .int .i64 0]) ∧ Below w.heap.size w w' :=
  parse_of (textT f) f (text_size f) hf (text_at f hf) w
end Go.Proofs.Ytlfabchlblgmbaa
