/- florinlaw23: steps as an argument; ScriptBack. (hM) -/
import Derived.Test.YtpdgeiflmnhkfaaDoorSp7
namespace Go.Proofs.YtpdgeiflmnhkfaaDoor
set_option linter.unusedVariables false
set_option linter.unusedSimpArgs false
open Go.RowKit

/-- steps as an argument -/
theorem rd_steps {w : World} {v : Value} (k : Rd Tryd.prog w 102 v) :
    ∃ (ao : Option Addr) (n c : Nat) (L : List Stp), v = .slice ao n c ∧ Sts w ao n c L ∧ n ≤ maxLen := by
  obtain ⟨ao, n, c, X, rfl, hX, hs, hn⟩ := k.slice (sz := 4) Tryd.underlying102 (by kernel_rfl) (by decide)
  have c1 : Tryd.prog.cellsOf 3 = 1 := by kernel_rfl
  have c2 : Tryd.prog.cellsOf 22 = 1 := by kernel_rfl
  have this : ∀ i, ∃ s : Stp, (i < n → X i = stL s ∧ StOk w s) := fun i => by
    by_cases hi : i < n
    · obtain ⟨_, hg⟩ := (hX i hi).struct Tryd.underlying104
      have g0 : RdC Tryd.prog w 3 (((X i).drop 0).take (Tryd.prog.cellsOf 3)) := hg 0 _ rfl
      have g1 : RdC Tryd.prog w 3 (((X i).drop 1).take (Tryd.prog.cellsOf 3)) := hg 1 _ rfl
      have g2 : RdC Tryd.prog w 3 (((X i).drop 2).take (Tryd.prog.cellsOf 3)) := hg 2 _ rfl
      have g3 : RdC Tryd.prog w 22 (((X i).drop 3).take (Tryd.prog.cellsOf 22)) := hg 3 _ rfl
      rw [c1] at g0 g1 g2
      rw [c2] at g3
      obtain ⟨a0, h0, w0⟩ := g0.int Tryd.underlying3
      obtain ⟨a1, h1, w1⟩ := g1.int Tryd.underlying3
      obtain ⟨a2, h2, w2⟩ := g2.int Tryd.underlying3
      obtain ⟨bo, l, d, g, h3, hb3, hr, _⟩ := g3.ints Tryd.underlying22 Tryd.underlying5 (by kernel_rfl)
      have hl := hs.len i hi
      refine ⟨⟨a0, a1, a2, bo, l, d, (List.range l).map g⟩, fun _ => ⟨?_, ⟨?_, ?_, i64_of_wf w0, i64_of_wf w1, i64_of_wf w2⟩⟩⟩
      · match hx : X i, hl with
        | [x, y, z, t], _ =>
          rw [hx] at h0 h1 h2 h3
          simp at h0 h1 h2 h3
          rw [h0, h1, h2, h3]
          rfl
      · rw [List.map_map]; exact hr
      · intro x hx
        obtain ⟨i, _, rfl⟩ := List.mem_map.1 hx
        exact u8_of_wf (hb3 i)
    · exact ⟨⟨0, 0, 0, none, 0, 0, []⟩, fun h => absurd h hi⟩
  refine ⟨ao, n, c, (List.range n).map fun i => (this i).choose, rfl, ⟨⟨by rw [stsL_len]; simp, hs.le, hs.nil, ?_, stsL_one _⟩, ?_⟩, hn⟩
  · intro ad ha p u hu
    have hp : p < n * 4 := by
      have := (List.getElem?_eq_some_iff.1 hu).1
      rw [stsL_len] at this
      simpa using this
    have hi : ((List.range n).map fun i => (this i).choose)[p / 4]? = some ((this (p / 4)).choose) := by
      rw [List.getElem?_map, List.getElem?_range (by omega)]; rfl
    have hget := stsL_get (p % 4) hi (by omega)
    rw [show p / 4 * 4 + p % 4 = p by omega, hu, ← ((this (p / 4)).choose_spec (by omega)).1] at hget
    have := hs.cells ad ha (p / 4) (by omega) (p % 4) u hget.symm
    rwa [show p / 4 * 4 + p % 4 = p by omega] at this
  · intro s hs
    obtain ⟨i, hi, rfl⟩ := List.mem_map.1 hs
    exact ((this i).choose_spec (List.mem_range.1 hi)).2

/-- one step of a row of steps, as a slice of its own -/
theorem Sts.one {w : World} {b off n c : Nat} {L : List Stp} (h : Sts w (some ⟨b, off, none⟩) n c L) {i : Nat} {s : Stp} (hi : L[i]? = some s) : Sts w (some ⟨b, off + i * 4, none⟩) 1 (c - i) [s] := by
  have hlt : i < n := by have := (List.getElem?_eq_some_iff.1 hi).1; rw [h.len] at this; exact this
  have hle := h.row.le
  refine ⟨⟨rfl, by omega, (fun h => by cases h), (fun ad ha j u hu => ?_), stsL_one _⟩, fun t ht => by simp at ht; subst ht; exact h.ok _ (List.mem_of_getElem? hi)⟩
  simp only [Option.some.injEq] at ha
  subst ha
  have hj : j < 4 := by have := (List.getElem?_eq_some_iff.1 hu).1; simpa [stsL, stL] using this
  have e : (stsL L)[i * 4 + j]? = some u := by rw [stsL_get j hi hj]; simpa [stsL] using hu
  have := (h.row.cells _ rfl (i * 4 + j) u e).2
  exact ⟨rfl, by rwa [show off + i * 4 + j = off + (i * 4 + j) by omega]⟩
theorem steps_one (w : World) (b off n c : Nat) (L : List Stp) (h : Sts w (some ⟨b, off, none⟩) n c L) {i : Nat} {s : Stp} (hi : L[i]? = some s) :
    Calls Tryd.prog 93 #[.slice (some ⟨b, off + i * 4, none⟩) 1 (c - i)] w fun e w' => ∃ g o cap : Nat, e = .returned (.slice (some ⟨g, o, none⟩) 1 cap) ∧ Sts w' (some ⟨g, o, none⟩) 1 cap [s] ∧ Below w.heap.size w w' := by
  refine (steps_any _ 1 _ [s] w (h.one hi) (by omega)).mono ?_
  rintro e w' ⟨lo, cap, rfl, hS, _, hb⟩
  obtain ⟨g, o, rfl⟩ := hS.addr (by omega)
  exact ⟨g, o, cap, rfl, hS, hb⟩

def good (L : List Stp) : List Stp := L.filter fun s => fitsP (psOf s)
theorem good_map (L : List Stp) : (good L).map psOf = (L.map psOf).filter fitsP := by
  unfold good
  rw [List.filter_map]
  rfl
theorem good_snoc (L : List Stp) (s : Stp) : good (L ++ [s]) = good L ++ (if fitsP (psOf s) then [s] else []) := by
  unfold good
  rw [List.filter_append]
  congr 1
  by_cases h : fitsP (psOf s) = true
  · rw [if_pos h]; simp [h]
  · rw [if_neg h]; simp [h]
theorem good_len (L : List Stp) : (good L).length ≤ L.length := List.length_filter_le _ _
def BackRel (w : World) (n : Nat) (L : List Stp) (m i : Value) (wr : World) : Prop :=
  ∃ (j : Nat) (mo : Option Addr) (mm cap : Nat), j ≤ n ∧ i = .int .i64 j ∧ m = .slice mo mm cap ∧ mm = (good (L.take j)).length ∧ OwnN w.heap.size 104 4 wr mo mm cap (stsL (good (L.take j))) ∧ Below w.heap.size w wr

set_option maxRecDepth 100000 in
set_option maxHeartbeats 4000000 in
theorem back_walk (ao : Option Addr) (n c : Nat) (L : List Stp) (w : World) (hT : TabN w) (h : Sts w ao n c L) :
    Calls Tryd.prog 15 #[.slice ao n c] w fun e w' => e = .returned (.bool true) ∧ Below w.heap.size w w' := by
  have HA := Lib.hid (fun (x : World) (hb : Below w.heap.size w x) => awake23_any x (hT.later hb))
  have hB := Below.refl w.heap.size w
  by_cases hbig : 60 < n
  · have hbi : 60 < (n : Int) := by omega
    clear h hT
    go_enter Tryd.func15, Tryd.ntmps15
    go_wp2_with (go_at_call 91; (with_reducible refine (HA.out _ hB).mono ?_); rintro e w1 ⟨rfl, hb⟩; have hB1 := bl_then hB hb; clear hB hb)
    go_ret
    exact ⟨rfl, hB1⟩
  · have hbi : ¬ 60 < (n : Int) := by omega
    have H := Lib.hid h
    have HNb := Lib.hid hbig
    clear h hT hbig
    go_enter Tryd.func15, Tryd.ntmps15
    go_wp2_with (
      (go_at_call 91; (with_reducible refine (HA.out _ hB).mono ?_); rintro e w1 ⟨rfl, hb⟩; have hB1 := bl_then hB hb; clear hB hb))
    have HB1 := Lib.hid hB1
    clear hB1
    go_loopw [4, 5] (fun m i wr => BackRel w n L m i wr) (fun _ i _ => n - (intOf i).toNat)
    case atStart => exact ⟨0, none, 0, 0, Nat.zero_le _, rfl, rfl, rfl, by simpa [stsL, good] using ownN_nil _ _ _ _, HB1.out⟩
    case round =>
      obtain ⟨j, mo, mm, cap, hj, rfl, rfl, hmm, hown, hbr⟩ := hrel
      have hl := H.out.len
      by_cases hlt : j < n
      · obtain ⟨s, hs⟩ : ∃ s, L[j]? = some s := ⟨_, List.getElem?_eq_getElem (by omega)⟩
        obtain ⟨b, off, rfl⟩ := H.out.addr (by omega)
        have hc := (H.out.later hbr).cells hs
        have hjn : (j : Int) < (n : Int) := by omega
        have HS := Lib.hid hs
        have HO := Lib.hid hown
        have HMM := Lib.hid hmm
        have HSt := Lib.hid (fun (x : World) (hb : Below w.heap.size w x) => steps_one x b off n c L (H.out.later hb) hs)
        have k3 : IntKind.i64.wrap ((j : Int) + 1) = ((j + 1 : Nat) : Int) := by rw [IntKind.wrap_i64]; omega
        have hle := H.out.row.le
        have hbw : b < w.heap.size := H.out.row.lt _ rfl (by intro e; have h1 := H.out.row.len; rw [e] at h1; simp at h1; omega)
        clear hs hown hmm hl
        by_cases hbd : 70000 < s.m
        · have hbd2 : 70000 < (s.m : Int) := by omega
          go_wp2
          go_ret
          exact ⟨rfl, hbr⟩
        · have hbd2 : ¬ 70000 < (s.m : Int) := by omega
          have hgs : good (L.take (j + 1)) = good (L.take j) ++ (if fitsP (psOf s) then [s] else []) := by rw [List.take_add_one, HS.out, Option.toList_some, good_snoc]
          have i1 : ((j + 1 : Nat) : Int) ≤ (c : Int) := by omega
          have i2 : (j : Int) ≤ ((j + 1 : Nat) : Int) := by omega
          have i3 : j + 1 - j = 1 := by omega
          have i4 : ¬ c = j := by omega
          by_cases hf : fitsP (psOf s) = true
          · rw [if_pos hf] at hgs
            have HGs := Lib.hid hgs
            have HFi := Lib.hid hf
            clear hgs hf hbd
            go_wp2_with (first |
              (go_at_call 93; (with_reducible refine (HSt.out _ hbr).mono ?_); rintro e w2 ⟨g, o, cp2, rfl, hS2, hb⟩; have hc2 := hS2.cells (i := 0) rfl; (simp only [Nat.zero_mul, Nat.add_zero] at hc2); have HFt := Lib.hid (HFi.out ▸ fits_any s w2 (hS2.ok s (List.mem_singleton.2 rfl))); have hB2 := bl_then hbr hb; have HB2 := Lib.hid hb; have hcw := cells4_later hc hb; clear hS2 hb hc) |
              (go_at_call 92; (with_reducible refine (HFt.out).mono ?_); rintro e w3 ⟨rfl, hb⟩; have HB3 := Lib.hid (bl_then HB2.out hb); have hB3 := bl_then hB2 hb; have hcw3 := cells4_later hcw hb; clear hb hcw hB2 hc2) |
              (refine wpList_appN eltStpR w _ (bl_al hB3 _) rfl (.tmp 34) (.tmp 39) rfl mo mm cap (stsL (good (L.take j))) rfl (HO.out.later (bl_al HB3.out _)) (some ⟨w3.heap.size, 0, none⟩) 1 1 (stL s) rfl (row_stpR w3 s) (fun _ => by omega) (by have := HMM.out; have := good_len (L.take j); have := HNb.out; have e : (L.take j).length ≤ j := List.length_take_le j L; omega) ?_; intro g4 cap4 w4 hown4 hb4; have HO4 := Lib.hid hown4; have HB4 := Lib.hid hb4; clear hown4 hb4 hcw3 hB3))
            refine ⟨⟨j + 1, some ⟨g4, 0, none⟩, mm + 1, cap4, by omega, by first | rfl | go_num, rfl, by rw [HGs.out, List.length_append, ← HMM.out]; rfl, ?_, HB4.out⟩, by simp [intOf]; omega⟩
            rw [HGs.out, stsL_app]
            have h7 := HO4.out
            have e : stsL [s] = stL s := by simp [stsL]
            rw [e]
            exact .inr ⟨g4, rfl, h7⟩
          · have hff : fitsP (psOf s) = false := by simpa using hf
            rw [if_neg hf, List.append_nil] at hgs
            have HGs := Lib.hid hgs
            have HFi := Lib.hid hff
            clear hgs hf hff hbd
            go_wp2_with (first |
              (go_at_call 93; (with_reducible refine (HSt.out _ hbr).mono ?_); rintro e w2 ⟨g, o, cp2, rfl, hS2, hb⟩; have hc2 := hS2.cells (i := 0) rfl; (simp only [Nat.zero_mul, Nat.add_zero] at hc2); have HFt := Lib.hid (HFi.out ▸ fits_any s w2 (hS2.ok s (List.mem_singleton.2 rfl))); have hB2 := bl_then hbr hb; have HB2 := Lib.hid hb; clear hS2 hb hc) |
              (go_at_call 92; (with_reducible refine (HFt.out).mono ?_); rintro e w3 ⟨rfl, hb⟩; have HB3 := Lib.hid (bl_then HB2.out hb); have hB3 := bl_then hB2 hb; clear hb hB2 hc2))
            refine ⟨⟨j + 1, mo, mm, cap, by omega, by first | rfl | go_num, rfl, by rw [HGs.out]; exact HMM.out, by rw [HGs.out]; exact HO.out.later HB3.out, hB3⟩, by simp [intOf]; omega⟩
      · obtain rfl : j = n := by omega
        have hjj : ¬ (j : Int) < (j : Int) := by omega
        have e0 : L.take j = L := List.take_of_length_le (by omega)
        rw [e0] at hmm hown
        have hgl := good_len L
        have hSm : Sts wr mo mm cap (good L) := ⟨hown.row (stsL_one _), fun s hs => (H.out.ok s (List.mem_filter.1 hs |>.1)).later hbr⟩
        have hpb := putP_bytes (psBytes H.out)
        have hback : getP 400 (putP (L.map psOf)) = (good L).map psOf := by rw [getP_all 400 (L.map psOf) (by rw [List.length_map]; have := HNb.out; omega), good_map]
        have HSm := Lib.hid hSm
        have HPB := Lib.hid hpb
        have HBack := Lib.hid hback
        have HMl := Lib.hid (show mm ≤ 60 by have := HNb.out; omega)
        have HSts := Lib.hid (fun (x : World) (hb : Below w.heap.size w x) => steps_any ao j c L x (H.out.later hb) (by have := HNb.out; omega))
        have HBr := Lib.hid hbr
        clear hmm hown hgl hSm hpb hback e0 hl hlt hj
        go_wp2_with (first |
          (go_at_call 93; (with_reducible refine (HSts.out _ hbr).mono ?_); rintro e w2 ⟨lo, cp2, rfl, hS2, _, hb⟩; have HPt := Lib.hid (put_got lo _ cp2 L w2 hS2 (by have := HNb.out; omega)); have HB2 := Lib.hid hb; have hB2 := bl_then hbr hb; clear hS2 hb hbr) |
          (go_at_call 95; (with_reducible refine (HPt.out).mono ?_); rintro e w3 ⟨bo, m3, cp3, rfl, hr3, hm3, hb⟩; have HG3 := Lib.hid (get_got bo m3 cp3 (putP (L.map psOf)) w3 hr3 HPB.out hm3); have HB3 := Lib.hid (bl_then HB2.out hb); have hB3 := bl_then hB2 hb; clear hr3 hm3 hb hB2) |
          (go_at_call 99; (with_reducible refine (HG3.out).mono ?_); rintro e w4 ⟨lo4, m4, cp4, L4, rfl, hS4, hP4, hm4, hb⟩; have HB4 := Lib.hid (bl_then HB3.out hb); have hB4 := bl_then hB3 hb; have HR4 := Lib.hid (rows_got lo4 m4 cp4 L4 w4 hS4 (by omega)); have HP4 := Lib.hid hP4; have HM4 := Lib.hid hm4; clear hb hS4 hP4 hm4 hB3) |
          (go_at_call 98; (with_reducible refine (HR4.out).mono ?_); rintro e w5 ⟨lo5, cp5, rfl, hS5, hb⟩; have hB5 := bl_then hB4 hb; have HSame := Lib.hid (same23_any lo5 m4 cp5 L4 mo mm cap (good L) w5 hS5 (HSm.out.later (bl_then HB4.out hb)) (HP4.out.trans HBack.out) (by have := HM4.out; omega)); clear hb hS5 hB4) |
          (go_at_call 97; (with_reducible refine (HSame.out).mono ?_); rintro e w6 ⟨rfl, hb⟩; have hB6 := bl_then hB5 hb; clear hb))
        go_ret
        exact ⟨rfl, hB6⟩
end Go.Proofs.YtpdgeiflmnhkfaaDoor
