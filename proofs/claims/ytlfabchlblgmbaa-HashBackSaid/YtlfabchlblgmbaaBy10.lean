/- Package u256: FromHex, the loop. (hM) -/
import Derived.Test.YtlfabchlblgmbaaBy9
namespace Go.Proofs.Ytlfabchlblgmbaa
set_option linter.unusedVariables false
set_option linter.unusedSimpArgs false
open Go.RowKit

theorem hex_step {a0 a1 a2 a3 : Int} (ha : B4 a0 a1 a2 a3) (d : Int) (hd : 0 ≤ d ∧ d < 16) (hlt : N4 a0 a1 a2 a3 * 16 + d < WW) :
    ∃ p0 p1 p2 p3 z : Int, B4 p0 p1 p2 p3 ∧ N4 p0 p1 p2 p3 = N4 a0 a1 a2 a3 * 2 ^ (4 : Int).toNat % WW ∧ decide (WW ≤ N4 a0 a1 a2 a3 * 2 ^ (4 : Int).toNat) = false ∧ bits .or .u64 p0 d = z ∧ B4 z p1 p2 p3 ∧ N4 z p1 p2 p3 = N4 a0 a1 a2 a3 * 16 + d := by
  have e4 : (2 : Int) ^ (4 : Int).toNat = 16 := by decide
  rw [e4]
  have hn := ha.nn
  obtain ⟨p0, p1, p2, p3, hp, hpn⟩ := b4_of (N4 a0 a1 a2 a3 * 16) ⟨by omega, by omega⟩
  obtain ⟨y, hy⟩ : ∃ y, p0 / 16 = y := ⟨_, rfl⟩
  have h0 := hp.h0
  have hp0 : p0 = 16 * y := by
    have h1 := hpn
    unfold N4 WI at h1
    have h2 := hp.h1; have h3 := hp.h2; have h4 := hp.h3
    omega
  have hor := or_add y 4 d ⟨hd.1, by rw [show (2 : Int) ^ 4 = 16 by decide]; exact hd.2⟩ (by rw [show (2 : Int) ^ 4 = 16 by decide]; omega) (by omega)
  rw [show (2 : Int) ^ 4 = 16 by decide, ← hp0] at hor
  refine ⟨p0, p1, p2, p3, p0 + d, hp, ?_, ?_, hor, ⟨?_, hp.h1, hp.h2, hp.h3⟩, ?_⟩
  · rw [Int.emod_eq_of_lt (by omega) (by omega)]; exact hpn
  · exact decide_eq_false (by omega)
  · unfold WI at *; omega
  · rw [n4_dig0, hpn]

theorem heap_wset4 (w : World) (b k : Nat) (x0 x1 x2 x3 : Int) (h : k ≠ b) : (wset4 w b x0 x1 x2 x3).heap[k]? = w.heap[k]? := by
  unfold wset4
  rw [Below.heap_setCell _ _ _ _ (by simpa using h), Below.heap_setCell _ _ _ _ (by simpa using h), Below.heap_setCell _ _ _ _ (by simpa using h), Below.heap_setCell _ _ _ _ (by simpa using h)]
theorem iterPos_of {x : World} {k p : Nat} {s : ByteArray} (h : x.heap[k]? = some (.stringIter s p)) : x.iterPos k = p := by
  unfold World.iterPos
  rw [h]

def HexIn (w : World) (s : ByteArray) (dg : Nat → Int) (n : Nat) (b : Value) (wr : World) : Prop :=
  ∃ (j : Nat) (a0 a1 a2 a3 : Int), j ≤ n ∧ b = .bool false ∧ B4 a0 a1 a2 a3 ∧ N4 a0 a1 a2 a3 = hexV dg j ∧ Below w.heap.size w wr ∧ wr.heap[w.heap.size + 2]? = some (.stringIter s j) ∧
    Mem wr [(w.heap.size + 1, [.int .u64 a0, .int .u64 a1, .int .u64 a2, .int .u64 a3]), (w.heap.size, [.int .u64 0, .int .u64 0, .int .u64 0, .int .u64 0])]

set_option maxRecDepth 100000 in
set_option maxHeartbeats 4000000 in
theorem from_hex_any (s : ByteArray) (n : Nat) (dg : Nat → Int) (hs : s.size = n) (hn : 0 < n) (hd : ∀ j, 0 ≤ dg j ∧ dg j < 16) (hch : ∀ j (h : j < s.size), ((s[j]'h).toNat : Int) = hexd (dg j)) (hv : hexV dg n < WW)
    {r0 r1 r2 r3 : Int} (hr : B4 r0 r1 r2 r3) (hrn : N4 r0 r1 r2 r3 = hexV dg n) (w : World) :
    Calls Try.prog 32 #[.string s] w fun e w' => e = .returned (.tuple #[U4 r0 r1 r2 r3, .int .i64 0]) ∧ Below w.heap.size w w' := by
  have hse : s.toList.isEmpty = false := by
    rw [ByteArray.toList_eq]
    cases h : s.data.toList with
    | nil =>
      have h1 : s.data.size = 0 := by rw [← Array.length_toList, h]; rfl
      exact absurd (hs.symm.trans h1) (by omega)
    | cons x r => rfl
  have HA := Lib.hid (And.intro hs (And.intro hd (And.intro hch (And.intro hv (And.intro hr hrn)))))
  clear hs hd hch hv hr hrn
  go_enter Try.func32, Try.ntmps32
  go_wp2
  go_loopw [5] (fun b wr => HexIn w s dg n b wr) (fun _ wr => n - wr.iterPos (w.heap.size + 2))
  case atStart =>
    refine ⟨0, 0, 0, 0, 0, Nat.zero_le _, rfl, b4_zero, n4_zero, by unfold World.iter; (repeat (first | exact Below.refl _ _ | refine Below.drew ?_ | refine bl_drewN ?_ _ | (refine Below.alloc ?_ (by first | exact Nat.le_refl _ | (simp; done) | (simp; omega)) _))), ?_, ?_⟩
    · have h := World.iter_heap ((w.alloc (.cells #[.int .u64 0, .int .u64 0, .int .u64 0, .int .u64 0] 26)).alloc (.cells #[.int .u64 0, .int .u64 0, .int .u64 0, .int .u64 0] 26)) s 0
      simp only [World.size_alloc] at h
      exact h
    · have h := Mem.skip (Mem.al (Mem.al (mem_nil w) [.int .u64 0, .int .u64 0, .int .u64 0, .int .u64 0] 26) [.int .u64 0, .int .u64 0, .int .u64 0, .int .u64 0] 26) (.stringIter s 0)
      simp only [World.size_alloc] at h
      exact h
  case round =>
    obtain ⟨j, a0, a1, a2, a3, hj, rfl, ha, han, hB, hit, hm⟩ := hrel
    obtain ⟨hs, hd, hch, hv, hr, hrn⟩ := HA.out
    by_cases hlt : j < n
    · have hmo := (hexV_mono dg hd n).2 (j + 1) (by omega)
      have hstep : hexV dg (j + 1) = hexV dg j * 16 + dg j := rfl
      obtain ⟨p0, p1, p2, p3, z, hp, hpn, hpo, hz, hzb, hzn⟩ := hex_step ha (dg j) (hd j) (by rw [han]; omega)
      obtain ⟨c, hc⟩ : ∃ c, hexd (dg j) = c := ⟨_, rfl⟩
      have hcb := hexd_b (hd j)
      have hcj := hch j (by omega)
      have HDig := Lib.hid (fun w => hc ▸ digit_any (dg j) (hd j) w)
      have HShl := Lib.hid (fun w => shl_n ha hp 4 hpn false hpo w)
      obtain ⟨d, hdd⟩ : ∃ d, dg j = d := ⟨_, rfl⟩
      obtain ⟨W, hW⟩ : ∃ W, wr.iterAt (w.heap.size + 2) s (j + 1) = W := ⟨_, rfl⟩
      have hnx : ∀ ty, (Instr.next (.pointer (some ⟨w.heap.size + 2, 0, none⟩)) true ty).run Try.prog wr = .ok (.tuple #[.bool true, .int .i64 j, .int .i32 c]) W := fun ty => by
        rw [Lib.run_next_ascii_at wr (w.heap.size + 2) s j ty hit (by omega) (by omega), hcj, hc, hW]
      have hsz := wr.heap
      have hBW : Below w.heap.size w W := by rw [← hW]; exact Lib.below_iterAt hB (by omega) s (j + 1)
      have hIW : W.heap[w.heap.size + 2]? = some (.stringIter s (j + 1)) := by rw [← hW]; exact Lib.iterAt_heap wr (w.heap.size + 2) s j (j + 1) hit
      have hMW : Mem W [(w.heap.size + 1, [.int .u64 a0, .int .u64 a1, .int .u64 a2, .int .u64 a3]), (w.heap.size, [.int .u64 0, .int .u64 0, .int .u64 0, .int .u64 0])] := by
        rw [← hW]
        exact Mem.laterB (Lib.below_iterAt (Below.refl (w.heap.size + 2) wr) (Nat.le_refl _) s (j + 1)) (by intro p hp; simp at hp; rcases hp with rfl | rfl <;> simp) hm
      have hBk := hB
      have HIT := Lib.hid hit
      clear hsz
      rw [hdd] at HDig hz hzn hstep
      have HZ := Lib.hid (And.intro hzb (hzn.trans (show N4 a0 a1 a2 a3 * 16 + d = hexV dg (j + 1) by rw [han, ← hstep])))
      have hkl : w.heap.size + 2 < W.heap.size := (Array.getElem?_eq_some_iff.1 hIW).1
      have HI := Lib.hid (And.intro hIW hkl)
      clear hs hd hch hv hr hrn hmo hstep hp hpn hpo hzb hzn hcj hcb hc hdd hW hIW hkl hm hit ha han hB hBk
      have hB := hBW
      have hM := Lib.hid hMW
      have hF := hMW
      simp only [Mem, cellsAt, Nat.zero_add, Nat.reduceAdd, and_true] at hF
      clear hMW hBW
      go_wp2_with (first | (go_at_call 50; (with_reducible refine (HDig.out _).mono ?_); rintro e w1 ⟨rfl, hb⟩; have HI2 := Lib.hid (And.intro ((hb.block _ HI.out.2).trans HI.out.1) (Nat.lt_of_lt_of_le HI.out.2 hb.size)); clear HI; have HI := HI2; clear HI2; have hB : Below w.heap.size w w1 := (by refine bl_then ?_ hb; (repeat (first | exact hB | refine bl_al ?_ _ | refine Below.setCell ?_ (by first | exact hgs | exact Nat.le_succ_of_le hgs | exact hgs2 | exact hgs3) _ | refine Below.drew ?_ | refine bl_drewN ?_ _))); (first | with_reducible have hM2 := Mem.later hb (hM.out) | with_reducible have hM2 := Mem.later hb (Mem.al (hM.out) _ _) | with_reducible have hM2 := Mem.later hb (Mem.al (Mem.al (hM.out) _ _) _ _) | with_reducible have hM2 := Mem.later hb (Mem.al (Mem.al (Mem.al (hM.out) _ _) _ _) _ _) | with_reducible have hM2 := Mem.later hb (Mem.al (Mem.al (Mem.al (Mem.al (hM.out) _ _) _ _) _ _) _ _) | with_reducible have hM2 := Mem.later hb (Mem.drew (hM.out)) | with_reducible have hM2 := Mem.later hb (Mem.drew (Mem.al (hM.out) _ _)) | with_reducible have hM2 := Mem.later hb (Mem.al (Mem.drew (hM.out)) _ _) | with_reducible have hM2 := Mem.later hb (Mem.al (Mem.drew (Mem.al (hM.out) _ _)) _ _) | with_reducible have hM2 := Mem.later hb (Mem.drew (Mem.al (Mem.al (hM.out) _ _) _ _)) | with_reducible have hM2 := Mem.later hb (Mem.al (Mem.al (Mem.drew (hM.out)) _ _) _ _) | with_reducible have hM2 := Mem.later hb (Mem.drew (Mem.drew (hM.out))) | with_reducible have hM2 := Mem.later hb (Mem.drew (Mem.al (Mem.drew (hM.out)) _ _)) | with_reducible have hM2 := Mem.later hb (Mem.drew (Mem.al (Mem.al (Mem.al (hM.out) _ _) _ _) _ _)) | with_reducible have hM2 := Mem.later hb (Mem.al (Mem.al (Mem.drew (Mem.al (hM.out) _ _)) _ _) _ _) | with_reducible have hM2 := Mem.later hb (Mem.drew (Mem.al (Mem.drew (Mem.al (hM.out) _ _)) _ _)) | with_reducible have hM2 := Mem.later hb (Mem.al (Mem.al (Mem.al (Mem.al (Mem.al (hM.out) _ _) _ _) _ _) _ _) _ _) | with_reducible have hM2 := Mem.later hb (Mem.al (Mem.al (Mem.al (Mem.al (Mem.al (Mem.al (hM.out) _ _) _ _) _ _) _ _) _ _) _ _) | with_reducible have hM2 := Mem.later hb (Mem.al (Mem.al (Mem.al (Mem.al (Mem.al (Mem.al (Mem.al (hM.out) _ _) _ _) _ _) _ _) _ _) _ _) _ _) | with_reducible have hM2 := Mem.later hb (Mem.al (Mem.al (Mem.al (Mem.al (Mem.al (Mem.al (Mem.al (Mem.al (hM.out) _ _) _ _) _ _) _ _) _ _) _ _) _ _) _ _)); (try simp only [World.size_alloc, size_drew] at hM2); clear hM; have hM := Lib.hid hM2; clear hF; have hF := hM2; (try simp only [Mem, cellsAt, World.size_alloc, Nat.zero_add, Nat.reduceAdd, and_true] at hF); clear hM2; clear hb) | (go_at_call 26; (with_reducible refine (HShl.out _).mono ?_); rintro e w1 ⟨rfl, hb⟩; have HI2 := Lib.hid (And.intro ((hb.block _ HI.out.2).trans HI.out.1) (Nat.lt_of_lt_of_le HI.out.2 hb.size)); clear HI; have HI := HI2; clear HI2; have hB : Below w.heap.size w w1 := (by refine bl_then ?_ hb; (repeat (first | exact hB | refine bl_al ?_ _ | refine Below.setCell ?_ (by first | exact hgs | exact Nat.le_succ_of_le hgs | exact hgs2 | exact hgs3) _ | refine Below.drew ?_ | refine bl_drewN ?_ _))); (first | with_reducible have hM2 := Mem.later hb (hM.out) | with_reducible have hM2 := Mem.later hb (Mem.al (hM.out) _ _) | with_reducible have hM2 := Mem.later hb (Mem.al (Mem.al (hM.out) _ _) _ _) | with_reducible have hM2 := Mem.later hb (Mem.al (Mem.al (Mem.al (hM.out) _ _) _ _) _ _) | with_reducible have hM2 := Mem.later hb (Mem.al (Mem.al (Mem.al (Mem.al (hM.out) _ _) _ _) _ _) _ _) | with_reducible have hM2 := Mem.later hb (Mem.drew (hM.out)) | with_reducible have hM2 := Mem.later hb (Mem.drew (Mem.al (hM.out) _ _)) | with_reducible have hM2 := Mem.later hb (Mem.al (Mem.drew (hM.out)) _ _) | with_reducible have hM2 := Mem.later hb (Mem.al (Mem.drew (Mem.al (hM.out) _ _)) _ _) | with_reducible have hM2 := Mem.later hb (Mem.drew (Mem.al (Mem.al (hM.out) _ _) _ _)) | with_reducible have hM2 := Mem.later hb (Mem.al (Mem.al (Mem.drew (hM.out)) _ _) _ _) | with_reducible have hM2 := Mem.later hb (Mem.drew (Mem.drew (hM.out))) | with_reducible have hM2 := Mem.later hb (Mem.drew (Mem.al (Mem.drew (hM.out)) _ _)) | with_reducible have hM2 := Mem.later hb (Mem.drew (Mem.al (Mem.al (Mem.al (hM.out) _ _) _ _) _ _)) | with_reducible have hM2 := Mem.later hb (Mem.al (Mem.al (Mem.drew (Mem.al (hM.out) _ _)) _ _) _ _) | with_reducible have hM2 := Mem.later hb (Mem.drew (Mem.al (Mem.drew (Mem.al (hM.out) _ _)) _ _)) | with_reducible have hM2 := Mem.later hb (Mem.al (Mem.al (Mem.al (Mem.al (Mem.al (hM.out) _ _) _ _) _ _) _ _) _ _) | with_reducible have hM2 := Mem.later hb (Mem.al (Mem.al (Mem.al (Mem.al (Mem.al (Mem.al (hM.out) _ _) _ _) _ _) _ _) _ _) _ _) | with_reducible have hM2 := Mem.later hb (Mem.al (Mem.al (Mem.al (Mem.al (Mem.al (Mem.al (Mem.al (hM.out) _ _) _ _) _ _) _ _) _ _) _ _) _ _) | with_reducible have hM2 := Mem.later hb (Mem.al (Mem.al (Mem.al (Mem.al (Mem.al (Mem.al (Mem.al (Mem.al (hM.out) _ _) _ _) _ _) _ _) _ _) _ _) _ _) _ _)); (try simp only [World.size_alloc, size_drew] at hM2); clear hM; have hM := Lib.hid hM2; clear hF; have hF := hM2; (try simp only [Mem, cellsAt, World.size_alloc, Nat.zero_add, Nat.reduceAdd, and_true] at hF); clear hM2; clear hb))
      have hIe : ((wset4 w1 (w.heap.size + 1) z p1 p2 p3).alloc (.cells #[.int .u64 z, .int .u64 p1, .int .u64 p2, .int .u64 p3] 26)).heap[w.heap.size + 2]? = some (.stringIter s (j + 1)) := by
        have h1 := heap_wset4 w1 (w.heap.size + 1) (w.heap.size + 2) z p1 p2 p3 (by omega)
        refine ((below_alloc _ _).block _ ?_).trans (h1.trans HI.out.1)
        exact (Array.getElem?_eq_some_iff.1 (h1.trans HI.out.1)).1
      refine ⟨⟨j + 1, z, p1, p2, p3, by omega, rfl, HZ.out.1, HZ.out.2, bl_al (bl_set4 z p1 p2 p3 (Nat.le_succ _) hB) _, hIe, Mem.skip (Mem.set4 z p1 p2 p3 (by intro p hp; simp at hp; subst hp; simp) hM.out) _⟩, ?_⟩
      have e1 := iterPos_of hIe
      have e2 := iterPos_of HIT.out
      have e3 : n - (j + 1) < n - j := by omega
      rw [← e1, ← e2] at e3
      exact e3
    · have hjn : j = n := by omega
      subst hjn
      obtain ⟨e0, e1, e2, e3⟩ := ha.inj hr (han.trans hrn.symm)
      subst e0 e1 e2 e3
      have hnx : ∀ ty, (Instr.next (.pointer (some ⟨w.heap.size + 2, 0, none⟩)) true ty).run Try.prog wr = .ok (.tuple #[.bool false]) wr := fun ty => Lib.run_next_end_at wr (w.heap.size + 2) s j ty hit (by omega)
      have hF := hm
      simp only [Mem, cellsAt, Nat.zero_add, Nat.reduceAdd, and_true] at hF
      clear hs hd hch hv hr hrn hit hm ha han HA
      have hgs := Nat.le_refl w.heap.size
      go_wp2
      refine bodyPost_ret (v := .tuple #[U4 a0 a1 a2 a3, .int .i64 0]) (by simp [results, Try.results32, go_sem, hF]) rfl ?_
      exact ⟨rfl, by (repeat (first | exact hB | refine bl_al ?_ _ | refine Below.setCell ?_ (by first | exact hgs | exact Nat.le_succ_of_le hgs | exact hgs2 | exact hgs3) _ | refine Below.drew ?_ | refine bl_drewN ?_ _))⟩
end Go.Proofs.Ytlfabchlblgmbaa
