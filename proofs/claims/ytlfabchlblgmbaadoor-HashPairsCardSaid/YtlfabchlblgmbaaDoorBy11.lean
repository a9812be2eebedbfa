/- Package u256: FromHex. (hM) Merged: By9, By10, By11. -/
import Derived.Test.YtlfabchlblgmbaaDoorBy6
import Derived.Lib.OthersKept
/- Package u256: FromHex. (hM) -/
namespace Go.Proofs.YtlfabchlblgmbaaDoor
set_option linter.unusedVariables false
set_option linter.unusedSimpArgs false
open Go.RowKit

/-- digits of sixteen, the highest first -/
def hexV (dg : Nat → Int) : Nat → Int
  | 0 => 0
  | j + 1 => hexV dg j * 16 + dg j
theorem hexV_mono (dg : Nat → Int) (hd : ∀ j, 0 ≤ dg j ∧ dg j < 16) (n : Nat) : 0 ≤ hexV dg n ∧ ∀ j, j ≤ n → hexV dg j ≤ hexV dg n := by
  induction n with
  | zero => exact ⟨Int.le_refl _, fun j hj => by rw [Nat.le_zero.1 hj]; exact Int.le_refl _⟩
  | succ n ih =>
    have h1 := hd n
    have h2 : hexV dg (n + 1) = hexV dg n * 16 + dg n := rfl
    refine ⟨by omega, fun j hj => ?_⟩
    rcases Nat.lt_or_ge n j with h | h
    · rw [show j = n + 1 by omega]; exact Int.le_refl _
    · have := ih.2 j h
      omega
theorem hexd_b {d : Int} (h : 0 ≤ d ∧ d < 16) : 48 ≤ hexd d ∧ hexd d ≤ 102 := by
  unfold hexd
  split <;> omega
theorem Mem.laterB {B : Nat} {w w' : World} (hb : Below B w w') : ∀ {l : List (Nat × List Value)}, (∀ p ∈ l, p.1 < B) → Mem w l → Mem w' l
  | [], _, _ => trivial
  | (b, vs) :: l, hl, h => ⟨⟨Nat.lt_of_lt_of_le h.1.1 hb.size, fun i => (hb.frozen (p := ⟨b, i, none⟩) (hl _ (List.mem_cons_self ..))).trans (h.1.2.1 i), cellsAt.map (fun i u hu => (hb.cell (p := ⟨b, i, none⟩) (hl _ (List.mem_cons_self ..))).trans hu) vs 0 h.1.2.2⟩, Mem.laterB hb (fun p hp => hl p (List.mem_cons_of_mem _ hp)) h.2⟩

set_option maxHeartbeats 1000000 in
theorem digit_any (d : Int) (hd : 0 ≤ d ∧ d < 16) (w : World) :
    Calls Tryd.prog 81 #[.int .i32 (hexd d)] w fun e w' => e = .returned (.tuple #[.int .u64 d, .bool true]) ∧ Below w.heap.size w w' := by
  by_cases h : d < 10
  · rw [show hexd d = 48 + d by unfold hexd; rw [if_pos h]]
    have h1 : (48 : Int) ≤ 48 + d := by omega
    have h2 : 48 + d ≤ (57 : Int) := by omega
    have h3 : IntKind.i32.wrap (48 + d - 48) = d := by rw [show 48 + d - 48 = d by omega]; rw [IntKind.wrap_i32]; omega
    have h4 : IntKind.u64.wrap d = d := by rw [IntKind.wrap_u64]; omega
    go_enter Tryd.func81, Tryd.ntmps81
    go_wp2
    refine bodyPost_ret (v := .tuple #[.int .u64 d, .bool true]) (by simp [results, Tryd.results81, go_sem]) rfl ?_
    exact ⟨rfl, by (repeat (first | exact Below.refl _ _ | refine Below.drew ?_ | refine bl_drewN ?_ _ | (refine Below.alloc ?_ (by first | exact Nat.le_refl _ | (simp; done) | (simp; omega)) _)))⟩
  · rw [show hexd d = 87 + d by unfold hexd; rw [if_neg h]]
    have h1 : (48 : Int) ≤ 87 + d := by omega
    have h2 : ¬ 87 + d ≤ (57 : Int) := by omega
    have h5 : (97 : Int) ≤ 87 + d := by omega
    have h6 : 87 + d ≤ (102 : Int) := by omega
    have h3 : IntKind.i32.wrap (87 + d - 97) = d - 10 := by rw [show 87 + d - 97 = d - 10 by omega]; rw [IntKind.wrap_i32]; omega
    have h4 : IntKind.u64.wrap (d - 10) = d - 10 := by rw [IntKind.wrap_u64]; omega
    have h7 : IntKind.u64.wrap (d - 10 + 10) = d := by rw [IntKind.wrap_u64]; omega
    go_enter Tryd.func81, Tryd.ntmps81
    go_wp2
    refine bodyPost_ret (v := .tuple #[.int .u64 d, .bool true]) (by simp [results, Tryd.results81, go_sem]) rfl ?_
    exact ⟨rfl, by (repeat (first | exact Below.refl _ _ | refine Below.drew ?_ | refine bl_drewN ?_ _ | (refine Below.alloc ?_ (by first | exact Nat.le_refl _ | (simp; done) | (simp; omega)) _)))⟩
end Go.Proofs.YtlfabchlblgmbaaDoor

/- Package u256: FromHex, the loop. (hM) -/
namespace Go.Proofs.YtlfabchlblgmbaaDoor
set_option linter.unusedVariables false
set_option linter.unusedSimpArgs false
open Go.RowKit

theorem hex_step {a0 a1 a2 a3 : Int} (ha : B4 a0 a1 a2 a3) (d : Int) (hd : 0 ≤ d ∧ d < 16) (hlt : N4 a0 a1 a2 a3 * 16 + d < WW) :
    ∃ p0 p1 p2 p3 z : Int, B4 p0 p1 p2 p3 ∧ N4 p0 p1 p2 p3 = N4 a0 a1 a2 a3 * 2 ^ (4 : Int).toNat % WW ∧ decide (WW ≤ N4 a0 a1 a2 a3 * 2 ^ (4 : Int).toNat) = false ∧ bits .or .u64 p0 d = z ∧ B4 z p1 p2 p3 ∧ N4 z p1 p2 p3 = N4 a0 a1 a2 a3 * 16 + d := by
  have e4 : (2 : Int) ^ (4 : Int).toNat = 16 := by decide
  rw [e4]
  have hn := ha.nn
  obtain ⟨p0, p1, p2, p3, hp, hpn⟩ := b4_of (N4 a0 a1 a2 a3 * 16) ⟨by omega, by omega⟩
  obtain ⟨y, hy⟩ : ∃ y, p0 / 16 = y := ⟨_, rfl⟩
  have h0 := hp.h0
  have hp0 : p0 = 16 * y := by
    have h1 := hpn
    unfold N4 WI at h1
    have h2 := hp.h1; have h3 := hp.h2; have h4 := hp.h3
    omega
  have hor := or_add y 4 d ⟨hd.1, by rw [show (2 : Int) ^ 4 = 16 by decide]; exact hd.2⟩ (by rw [show (2 : Int) ^ 4 = 16 by decide]; omega) (by omega)
  rw [show (2 : Int) ^ 4 = 16 by decide, ← hp0] at hor
  refine ⟨p0, p1, p2, p3, p0 + d, hp, ?_, ?_, hor, ⟨?_, hp.h1, hp.h2, hp.h3⟩, ?_⟩
  · rw [Int.emod_eq_of_lt (by omega) (by omega)]; exact hpn
  · exact decide_eq_false (by omega)
  · unfold WI at *; omega
  · rw [n4_dig0, hpn]

theorem heap_wset4 (w : World) (b k : Nat) (x0 x1 x2 x3 : Int) (h : k ≠ b) : (wset4 w b x0 x1 x2 x3).heap[k]? = w.heap[k]? := by
  unfold wset4
  rw [Below.heap_setCell _ _ _ _ (by simpa using h), Below.heap_setCell _ _ _ _ (by simpa using h), Below.heap_setCell _ _ _ _ (by simpa using h), Below.heap_setCell _ _ _ _ (by simpa using h)]
theorem iterPos_of {x : World} {k p : Nat} {s : ByteArray} (h : x.heap[k]? = some (.stringIter s p)) : x.iterPos k = p := by
  unfold World.iterPos
  rw [h]

def HexIn (w : World) (s : ByteArray) (dg : Nat → Int) (n : Nat) (b : Value) (wr : World) : Prop :=
  ∃ (j : Nat) (a0 a1 a2 a3 : Int), j ≤ n ∧ b = .bool false ∧ B4 a0 a1 a2 a3 ∧ N4 a0 a1 a2 a3 = hexV dg j ∧ Below w.heap.size w wr ∧ wr.heap[w.heap.size + 2]? = some (.stringIter s j) ∧
    Mem wr [(w.heap.size + 1, [.int .u64 a0, .int .u64 a1, .int .u64 a2, .int .u64 a3]), (w.heap.size, [.int .u64 0, .int .u64 0, .int .u64 0, .int .u64 0])]

set_option maxRecDepth 100000 in
set_option maxHeartbeats 4000000 in
theorem from_hex_any (s : ByteArray) (n : Nat) (dg : Nat → Int) (hs : s.size = n) (hn : 0 < n) (hd : ∀ j, 0 ≤ dg j ∧ dg j < 16) (hch : ∀ j (h : j < s.size), ((s[j]'h).toNat : Int) = hexd (dg j)) (hv : hexV dg n < WW)
    {r0 r1 r2 r3 : Int} (hr : B4 r0 r1 r2 r3) (hrn : N4 r0 r1 r2 r3 = hexV dg n) (w : World) :
    Calls Tryd.prog 60 #[.string s] w fun e w' => e = .returned (.tuple #[U4 r0 r1 r2 r3, .int .i64 0]) ∧ Below w.heap.size w w' := by
  have hse : s.toList.isEmpty = false := by
    rw [ByteArray.toList_eq]
    cases h : s.data.toList with
    | nil =>
      have h1 : s.data.size = 0 := by rw [← Array.length_toList, h]; rfl
      exact absurd (hs.symm.trans h1) (by omega)
    | cons x r => rfl
  have HA := Lib.hid (And.intro hs (And.intro hd (And.intro hch (And.intro hv (And.intro hr hrn)))))
  clear hs hd hch hv hr hrn
  go_enter Tryd.func60, Tryd.ntmps60
  go_wp2
  go_loopw [5] (fun b wr => HexIn w s dg n b wr) (fun _ wr => n - wr.iterPos (w.heap.size + 2))
  case atStart =>
    refine ⟨0, 0, 0, 0, 0, Nat.zero_le _, rfl, b4_zero, n4_zero, by unfold World.iter; (repeat (first | exact Below.refl _ _ | refine Below.drew ?_ | refine bl_drewN ?_ _ | (refine Below.alloc ?_ (by first | exact Nat.le_refl _ | (simp; done) | (simp; omega)) _))), ?_, ?_⟩
    · have h := World.iter_heap ((w.alloc (.cells #[.int .u64 0, .int .u64 0, .int .u64 0, .int .u64 0] 52)).alloc (.cells #[.int .u64 0, .int .u64 0, .int .u64 0, .int .u64 0] 52)) s 0
      simp only [World.size_alloc] at h
      exact h
    · have h := Mem.skip (Mem.al (Mem.al (mem_nil w) [.int .u64 0, .int .u64 0, .int .u64 0, .int .u64 0] 52) [.int .u64 0, .int .u64 0, .int .u64 0, .int .u64 0] 52) (.stringIter s 0)
      simp only [World.size_alloc] at h
      exact h
  case round =>
    obtain ⟨j, a0, a1, a2, a3, hj, rfl, ha, han, hB, hit, hm⟩ := hrel
    obtain ⟨hs, hd, hch, hv, hr, hrn⟩ := HA.out
    by_cases hlt : j < n
    · have hmo := (hexV_mono dg hd n).2 (j + 1) (by omega)
      have hstep : hexV dg (j + 1) = hexV dg j * 16 + dg j := rfl
      obtain ⟨p0, p1, p2, p3, z, hp, hpn, hpo, hz, hzb, hzn⟩ := hex_step ha (dg j) (hd j) (by rw [han]; omega)
      obtain ⟨c, hc⟩ : ∃ c, hexd (dg j) = c := ⟨_, rfl⟩
      have hcb := hexd_b (hd j)
      have hcj := hch j (by omega)
      have HDig := Lib.hid (fun w => hc ▸ digit_any (dg j) (hd j) w)
      have HShl := Lib.hid (fun w => shl_n ha hp 4 hpn false hpo w)
      obtain ⟨d, hdd⟩ : ∃ d, dg j = d := ⟨_, rfl⟩
      obtain ⟨W, hW⟩ : ∃ W, wr.iterAt (w.heap.size + 2) s (j + 1) = W := ⟨_, rfl⟩
      have hnx : ∀ ty, (Instr.next (.pointer (some ⟨w.heap.size + 2, 0, none⟩)) true ty).run Tryd.prog wr = .ok (.tuple #[.bool true, .int .i64 j, .int .i32 c]) W := fun ty => by
        rw [Lib.run_next_ascii_at wr (w.heap.size + 2) s j ty hit (by omega) (by omega), hcj, hc, hW]
      have hsz := wr.heap
      have hBW : Below w.heap.size w W := by rw [← hW]; exact Lib.below_iterAt hB (by omega) s (j + 1)
      have hIW : W.heap[w.heap.size + 2]? = some (.stringIter s (j + 1)) := by rw [← hW]; exact Lib.iterAt_heap wr (w.heap.size + 2) s j (j + 1) hit
      have hMW : Mem W [(w.heap.size + 1, [.int .u64 a0, .int .u64 a1, .int .u64 a2, .int .u64 a3]), (w.heap.size, [.int .u64 0, .int .u64 0, .int .u64 0, .int .u64 0])] := by
        rw [← hW]
        exact Mem.laterB (Lib.below_iterAt (Below.refl (w.heap.size + 2) wr) (Nat.le_refl _) s (j + 1)) (by intro p hp; simp at hp; rcases hp with rfl | rfl <;> simp) hm
      have hBk := hB
      have HIT := Lib.hid hit
      clear hsz
      rw [hdd] at HDig hz hzn hstep
      have HZ := Lib.hid (And.intro hzb (hzn.trans (show N4 a0 a1 a2 a3 * 16 + d = hexV dg (j + 1) by rw [han, ← hstep])))
      have hkl : w.heap.size + 2 < W.heap.size := (Array.getElem?_eq_some_iff.1 hIW).1
      have HI := Lib.hid (And.intro hIW hkl)
      clear hs hd hch hv hr hrn hmo hstep hp hpn hpo hzb hzn hcj hcb hc hdd hW hIW hkl hm hit ha han hB hBk
      have hB := hBW
      have hM := Lib.hid hMW
      have hF := hMW
      simp only [Mem, cellsAt, Nat.zero_add, Nat.reduceAdd, and_true] at hF
      clear hMW hBW
      go_wp2_with (first | (go_at_call 81; (with_reducible refine (HDig.out _).mono ?_); rintro e w1 ⟨rfl, hb⟩; have HI2 := Lib.hid (And.intro ((hb.block _ HI.out.2).trans HI.out.1) (Nat.lt_of_lt_of_le HI.out.2 hb.size)); clear HI; have HI := HI2; clear HI2; have hB : Below w.heap.size w w1 := (by refine bl_then ?_ hb; (repeat (first | exact hB | refine bl_al ?_ _ | refine Below.setCell ?_ (by first | exact hgs | exact Nat.le_succ_of_le hgs | exact hgs2 | exact hgs3) _ | refine Below.drew ?_ | refine bl_drewN ?_ _))); (first | with_reducible have hM2 := Mem.later hb (hM.out) | with_reducible have hM2 := Mem.later hb (Mem.al (hM.out) _ _) | with_reducible have hM2 := Mem.later hb (Mem.al (Mem.al (hM.out) _ _) _ _) | with_reducible have hM2 := Mem.later hb (Mem.al (Mem.al (Mem.al (hM.out) _ _) _ _) _ _) | with_reducible have hM2 := Mem.later hb (Mem.al (Mem.al (Mem.al (Mem.al (hM.out) _ _) _ _) _ _) _ _) | with_reducible have hM2 := Mem.later hb (Mem.drew (hM.out)) | with_reducible have hM2 := Mem.later hb (Mem.drew (Mem.al (hM.out) _ _)) | with_reducible have hM2 := Mem.later hb (Mem.al (Mem.drew (hM.out)) _ _) | with_reducible have hM2 := Mem.later hb (Mem.al (Mem.drew (Mem.al (hM.out) _ _)) _ _) | with_reducible have hM2 := Mem.later hb (Mem.drew (Mem.al (Mem.al (hM.out) _ _) _ _)) | with_reducible have hM2 := Mem.later hb (Mem.al (Mem.al (Mem.drew (hM.out)) _ _) _ _) | with_reducible have hM2 := Mem.later hb (Mem.drew (Mem.drew (hM.out))) | with_reducible have hM2 := Mem.later hb (Mem.drew (Mem.al (Mem.drew (hM.out)) _ _)) | with_reducible have hM2 := Mem.later hb (Mem.drew (Mem.al (Mem.al (Mem.al (hM.out) _ _) _ _) _ _)) | with_reducible have hM2 := Mem.later hb (Mem.al (Mem.al (Mem.drew (Mem.al (hM.out) _ _)) _ _) _ _) | with_reducible have hM2 := Mem.later hb (Mem.drew (Mem.al (Mem.drew (Mem.al (hM.out) _ _)) _ _)) | with_reducible have hM2 := Mem.later hb (Mem.al (Mem.al (Mem.al (Mem.al (Mem.al (hM.out) _ _) _ _) _ _) _ _) _ _) | with_reducible have hM2 := Mem.later hb (Mem.al (Mem.al (Mem.al (Mem.al (Mem.al (Mem.al (hM.out) _ _) _ _) _ _) _ _) _ _) _ _) | with_reducible have hM2 := Mem.later hb (Mem.al (Mem.al (Mem.al (Mem.al (Mem.al (Mem.al (Mem.al (hM.out) _ _) _ _) _ _) _ _) _ _) _ _) _ _) | with_reducible have hM2 := Mem.later hb (Mem.al (Mem.al (Mem.al (Mem.al (Mem.al (Mem.al (Mem.al (Mem.al (hM.out) _ _) _ _) _ _) _ _) _ _) _ _) _ _) _ _)); (try simp only [World.size_alloc, size_drew] at hM2); clear hM; have hM := Lib.hid hM2; clear hF; have hF := hM2; (try simp only [Mem, cellsAt, World.size_alloc, Nat.zero_add, Nat.reduceAdd, and_true] at hF); clear hM2; clear hb) | (go_at_call 38; (with_reducible refine (HShl.out _).mono ?_); rintro e w1 ⟨rfl, hb⟩; have HI2 := Lib.hid (And.intro ((hb.block _ HI.out.2).trans HI.out.1) (Nat.lt_of_lt_of_le HI.out.2 hb.size)); clear HI; have HI := HI2; clear HI2; have hB : Below w.heap.size w w1 := (by refine bl_then ?_ hb; (repeat (first | exact hB | refine bl_al ?_ _ | refine Below.setCell ?_ (by first | exact hgs | exact Nat.le_succ_of_le hgs | exact hgs2 | exact hgs3) _ | refine Below.drew ?_ | refine bl_drewN ?_ _))); (first | with_reducible have hM2 := Mem.later hb (hM.out) | with_reducible have hM2 := Mem.later hb (Mem.al (hM.out) _ _) | with_reducible have hM2 := Mem.later hb (Mem.al (Mem.al (hM.out) _ _) _ _) | with_reducible have hM2 := Mem.later hb (Mem.al (Mem.al (Mem.al (hM.out) _ _) _ _) _ _) | with_reducible have hM2 := Mem.later hb (Mem.al (Mem.al (Mem.al (Mem.al (hM.out) _ _) _ _) _ _) _ _) | with_reducible have hM2 := Mem.later hb (Mem.drew (hM.out)) | with_reducible have hM2 := Mem.later hb (Mem.drew (Mem.al (hM.out) _ _)) | with_reducible have hM2 := Mem.later hb (Mem.al (Mem.drew (hM.out)) _ _) | with_reducible have hM2 := Mem.later hb (Mem.al (Mem.drew (Mem.al (hM.out) _ _)) _ _) | with_reducible have hM2 := Mem.later hb (Mem.drew (Mem.al (Mem.al (hM.out) _ _) _ _)) | with_reducible have hM2 := Mem.later hb (Mem.al (Mem.al (Mem.drew (hM.out)) _ _) _ _) | with_reducible have hM2 := Mem.later hb (Mem.drew (Mem.drew (hM.out))) | with_reducible have hM2 := Mem.later hb (Mem.drew (Mem.al (Mem.drew (hM.out)) _ _)) | with_reducible have hM2 := Mem.later hb (Mem.drew (Mem.al (Mem.al (Mem.al (hM.out) _ _) _ _) _ _)) | with_reducible have hM2 := Mem.later hb (Mem.al (Mem.al (Mem.drew (Mem.al (hM.out) _ _)) _ _) _ _) | with_reducible have hM2 := Mem.later hb (Mem.drew (Mem.al (Mem.drew (Mem.al (hM.out) _ _)) _ _)) | with_reducible have hM2 := Mem.later hb (Mem.al (Mem.al (Mem.al (Mem.al (Mem.al (hM.out) _ _) _ _) _ _) _ _) _ _) | with_reducible have hM2 := Mem.later hb (Mem.al (Mem.al (Mem.al (Mem.al (Mem.al (Mem.al (hM.out) _ _) _ _) _ _) _ _) _ _) _ _) | with_reducible have hM2 := Mem.later hb (Mem.al (Mem.al (Mem.al (Mem.al (Mem.al (Mem.al (Mem.al (hM.out) _ _) _ _) _ _) _ _) _ _) _ _) _ _) | with_reducible have hM2 := Mem.later hb (Mem.al (Mem.al (Mem.al (Mem.al (Mem.al (Mem.al (Mem.al (Mem.al (hM.out) _ _) _ _) _ _) _ _) _ _) _ _) _ _) _ _)); (try simp only [World.size_alloc, size_drew] at hM2); clear hM; have hM := Lib.hid hM2; clear hF; have hF := hM2; (try simp only [Mem, cellsAt, World.size_alloc, Nat.zero_add, Nat.reduceAdd, and_true] at hF); clear hM2; clear hb))
      have hIe : ((wset4 w1 (w.heap.size + 1) z p1 p2 p3).alloc (.cells #[.int .u64 z, .int .u64 p1, .int .u64 p2, .int .u64 p3] 52)).heap[w.heap.size + 2]? = some (.stringIter s (j + 1)) := by
        have h1 := heap_wset4 w1 (w.heap.size + 1) (w.heap.size + 2) z p1 p2 p3 (by omega)
        refine ((below_alloc _ _).block _ ?_).trans (h1.trans HI.out.1)
        exact (Array.getElem?_eq_some_iff.1 (h1.trans HI.out.1)).1
      refine ⟨⟨j + 1, z, p1, p2, p3, by omega, rfl, HZ.out.1, HZ.out.2, bl_al (bl_set4 z p1 p2 p3 (Nat.le_succ _) hB) _, hIe, Mem.skip (Mem.set4 z p1 p2 p3 (by intro p hp; simp at hp; subst hp; simp) hM.out) _⟩, ?_⟩
      have e1 := iterPos_of hIe
      have e2 := iterPos_of HIT.out
      have e3 : n - (j + 1) < n - j := by omega
      rw [← e1, ← e2] at e3
      exact e3
    · have hjn : j = n := by omega
      subst hjn
      obtain ⟨e0, e1, e2, e3⟩ := ha.inj hr (han.trans hrn.symm)
      subst e0 e1 e2 e3
      have hnx : ∀ ty, (Instr.next (.pointer (some ⟨w.heap.size + 2, 0, none⟩)) true ty).run Tryd.prog wr = .ok (.tuple #[.bool false]) wr := fun ty => Lib.run_next_end_at wr (w.heap.size + 2) s j ty hit (by omega)
      have hF := hm
      simp only [Mem, cellsAt, Nat.zero_add, Nat.reduceAdd, and_true] at hF
      clear hs hd hch hv hr hrn hit hm ha han HA
      have hgs := Nat.le_refl w.heap.size
      go_wp2
      refine bodyPost_ret (v := .tuple #[U4 a0 a1 a2 a3, .int .i64 0]) (by simp [results, Tryd.results60, go_sem, hF]) rfl ?_
      exact ⟨rfl, by (repeat (first | exact hB | refine bl_al ?_ _ | refine Below.setCell ?_ (by first | exact hgs | exact Nat.le_succ_of_le hgs | exact hgs2 | exact hgs3) _ | refine Below.drew ?_ | refine bl_drewN ?_ _))⟩
end Go.Proofs.YtlfabchlblgmbaaDoor

/- A number's text: its digits, told again. (hM) -/
namespace Go.Proofs.YtlfabchlblgmbaaDoor
set_option linter.unusedVariables false
set_option linter.unusedSimpArgs false
open Go.RowKit

theorem nib_of {a0 a1 a2 a3 : Int} (ha : B4 a0 a1 a2 a3) (j : Nat) (hj : j < 64) : nibN a0 a1 a2 a3 j = N4 a0 a1 a2 a3 / 16 ^ j % 16 := by
  obtain ⟨rest, hrest, he⟩ := limb_split ha (j / 16) (by omega)
  unfold nibN
  obtain ⟨q, hq⟩ : ∃ q, j / 16 = q := ⟨_, rfl⟩
  obtain ⟨r, hr⟩ : ∃ r, j % 16 = r := ⟨_, rfl⟩
  have hr8 : r < 16 := by omega
  have hjr : j = 16 * q + r := by omega
  rw [hq, hr]
  rw [hq] at he
  have e1 : (16 : Int) ^ j = 2 ^ (64 * q) * 2 ^ (r * 4) := by
    rw [show (16 : Int) = 2 ^ 4 by decide, ← Int.pow_mul, ← Int.pow_add]
    congr 1
    omega
  have hp := two_pow_pos (r * 4)
  rw [e1, ← Int.ediv_ediv_of_nonneg (Int.le_of_lt (two_pow_pos _)), he]
  obtain ⟨m, hm⟩ : ∃ m, 16 = r + 1 + m := ⟨15 - r, by omega⟩
  have e2 : WI * rest = 2 ^ (r * 4) * (16 * (2 ^ (m * 4) * rest)) := by
    rw [WI_eq, show (18446744073709551616 : Int) = 2 ^ (r * 4) * (16 * 2 ^ (m * 4)) by
      rw [show (16 : Int) = 2 ^ 4 by decide, ← Int.pow_add, ← Int.pow_add]
      rw [show r * 4 + (4 + m * 4) = 64 by omega]
      decide]
    simp only [Int.mul_assoc]
  rw [e2, Int.add_mul_ediv_left _ _ (Int.ne_of_gt hp)]
  omega
/-- the digits of a number of m digits -/
def nibs (N : Int) (m : Nat) (j : Nat) : Int := N / 16 ^ (m - 1 - j) % 16
theorem nibs_b (N : Int) (m j : Nat) : 0 ≤ nibs N m j ∧ nibs N m j < 16 := ⟨Int.emod_nonneg _ (by decide), Int.emod_lt_of_pos _ (by decide)⟩
theorem hexV_nibs (N : Int) (m : Nat) (h : 0 ≤ N ∧ N < 16 ^ m) : ∀ j, j ≤ m → hexV (nibs N m) j = N / 16 ^ (m - j)
  | 0, _ => by rw [Nat.sub_zero, Int.ediv_eq_zero_of_lt h.1 h.2]; rfl
  | j + 1, hj => by
    have ih := hexV_nibs N m h j (by omega)
    show hexV (nibs N m) j * 16 + nibs N m j = _
    rw [ih]
    unfold nibs
    rw [show m - 1 - j = m - (j + 1) by omega]
    obtain ⟨k, hk⟩ : ∃ k, m - (j + 1) = k := ⟨_, rfl⟩
    rw [hk, show m - j = k + 1 by omega, Int.pow_succ, ← Int.ediv_ediv_of_nonneg (Int.le_of_lt (Int.pow_pos (by decide)))]
    omega
theorem hexV_zero (dg : Nat → Int) (h : ∀ j, j < 2 → dg j = 0) : ∀ n, hexV dg (n + 2) = hexV (fun j => dg (j + 2)) n
  | 0 => by
    show (0 * 16 + dg 0) * 16 + dg 1 = 0
    rw [h 0 (by omega), h 1 (by omega)]
    rfl
  | n + 1 => by
    show hexV dg (n + 2) * 16 + dg (n + 2) = hexV (fun j => dg (j + 2)) n * 16 + dg (n + 2)
    rw [hexV_zero dg h n]
theorem hexV_congr {f g : Nat → Int} : ∀ n, (∀ j, j < n → f j = g j) → hexV f n = hexV g n
  | 0, _ => rfl
  | n + 1, h => by
    show hexV f n * 16 + f n = hexV g n * 16 + g n
    rw [hexV_congr n fun j hj => h j (by omega), h n (by omega)]

/-- the text -/
def hexT (N : Int) (m : Nat) : ByteArray := strOfNums (bnums (fun j => hexd (nibs N m j)) m)
theorem hexT_size (N : Int) (m : Nat) : (hexT N m).size = m := by
  show (List.map _ _).toArray.size = m
  simp [bnums]
theorem hexT_at (N : Int) (m j : Nat) (h : j < (hexT N m).size) : (((hexT N m)[j]'h).toNat : Int) = hexd (nibs N m j) := by
  have hb := hexd_b (nibs_b N m j)
  have e : (hexT N m)[j]'h = UInt8.ofNat (hexd (nibs N m j)).toNat := by
    show ((List.map (fun n : Int => UInt8.ofNat n.toNat) (bnums (fun j => hexd (nibs N m j)) m)).toArray)[j]'_ = _
    simp [bnums]
  rw [e, UInt8.toNat_ofNat']
  omega
theorem zz_size (s : ByteArray) : (({ data := #[48, 48] } : ByteArray) ++ s).size = s.size + 2 := by
  rw [ByteArray.size_append]
  show 2 + s.size = _
  omega
/-- with two zeros ahead -/
def zz (N : Int) (m j : Nat) : Int := if j < 2 then 0 else nibs N m (j - 2)
theorem zz_at (N : Int) (m j : Nat) (h : j < (({ data := #[48, 48] } : ByteArray) ++ hexT N m).size) : (((({ data := #[48, 48] } : ByteArray) ++ hexT N m)[j]'h).toNat : Int) = hexd (zz N m j) := by
  unfold zz
  by_cases hj : j < 2
  · rw [if_pos hj, ByteArray.getElem_append_left (by show j < 2; exact hj)]
    have : j = 0 ∨ j = 1 := by omega
    rcases this with rfl | rfl <;> rfl
  · have hs := h
    rw [zz_size] at hs
    rw [if_neg hj, ByteArray.getElem_append_right (by show 2 ≤ j; omega)]
    exact hexT_at N m (j - 2) (by omega)
theorem hex_is {a0 a1 a2 a3 : Int} (ha : B4 a0 a1 a2 a3) : ∃ m : Nat, 1 ≤ m ∧ m ≤ 64 ∧ N4 a0 a1 a2 a3 < 16 ^ m ∧ (1 < m → 16 ^ (m - 1) ≤ N4 a0 a1 a2 a3) ∧
    ∀ w : World, Calls Tryd.prog 59 #[U4 a0 a1 a2 a3] w fun e w' => e = .returned (.string (hexT (N4 a0 a1 a2 a3) m)) ∧ Below w.heap.size w w' := by
  obtain ⟨L, hL, hL1, hL2, hL3⟩ := len_holds ha
  obtain ⟨m, hm⟩ : ∃ m : Nat, hexLenN (lenN a0 a1 a2 a3) = (m : Int) := ⟨(hexLenN (lenN a0 a1 a2 a3)).toNat, by rw [hL]; unfold hexLenN; omega⟩
  have hmL : max (((L : Int) + 3) / 4) 1 = (m : Int) := by rw [← hm, hL]; rfl
  have e16 : ∀ k : Nat, (16 : Int) ^ k = 2 ^ (4 * k) := fun k => by rw [show (16 : Int) = 2 ^ 4 by decide, ← Int.pow_mul]
  refine ⟨m, by omega, by omega, ?_, fun h => ?_, fun w => ?_⟩
  · rw [e16]
    exact Int.lt_of_lt_of_le hL2 (pow2_le (by omega))
  · rw [e16]
    exact Int.le_trans (pow2_le (by omega)) (hL3 (by omega))
  · have h := hex_parts a0 a1 a2 a3 w ha.h0 ha.h1 ha.h2 ha.h3 m hm L hL ⟨by omega, by omega⟩
    rw [show bnums (fun j => hexd (nibN a0 a1 a2 a3 (m - 1 - j))) m = bnums (fun j => hexd (nibs (N4 a0 a1 a2 a3) m j)) m by
      unfold bnums
      refine List.map_congr_left fun j hj => ?_
      rw [List.mem_range] at hj
      rw [nib_of ha _ (by omega)]
      rfl] at h
    exact h
end Go.Proofs.YtlfabchlblgmbaaDoor
