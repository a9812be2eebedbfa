/- florinlaw16: RulesWork (made by gen_ru10.py). (hM) -/
import Derived.Test.YtlhdfmaekbnhaaaGreatDoorRu7
namespace Go.Proofs.YtlhdfmaekbnhaaaGreatDoor
set_option linter.unusedVariables false
set_option linter.unusedSimpArgs false
open Go.RowKit

theorem checkV_parts {lim iv sp fu ix orp : Int} {n : Nat} {ht : Nat → Int} {ch : Nat → Nat → Int} {L : Nat → Hd} {k : Nat} {h : Hd} {a : Int} (h0 : checkV lim iv sp fu ix orp n ht ch L k h a = 0) :
    saneV lim iv sp fu ix orp n = true ∧ (hl h.p == hl (idF (L k))) = true ∧ h.b = chainB lim iv sp fu ix orp n L k ∧ meetsV (hashN (idF h)) h.b lim = 0 ∧ checkN h.t (timesN (fun i => (L i).t) (k + 1)) a fu = 0 ∧ passV ht ch n ((k : Int) + 1) (idF h) = 0 := by
  unfold checkV at h0
  by_cases c1 : saneV lim iv sp fu ix orp n = true
  case neg => rw [if_neg c1] at h0; omega
  rw [if_pos c1] at h0
  by_cases c2 : (hl h.p == hl (idF (L k))) = true
  case neg => rw [if_neg c2] at h0; omega
  rw [if_pos c2] at h0
  by_cases c3 : h.b = chainB lim iv sp fu ix orp n L k
  case neg => rw [if_neg c3] at h0; omega
  rw [if_pos c3] at h0
  by_cases c4 : meetsV (hashN (idF h)) h.b lim = 0
  case neg => rw [if_neg c4] at h0; exact absurd h0 c4
  rw [if_pos c4] at h0
  by_cases c5 : checkN h.t (timesN (fun i => (L i).t) (k + 1)) a fu = 0
  case neg => rw [if_neg c5] at h0; exact absurd h0 c5
  rw [if_pos c5] at h0
  exact ⟨c1, c2, c3, c4, c5, h0⟩
theorem meets_parts {x b l : Int} (h : meetsV x b l = 0) : expOk b = true ∧ expOk l = true ∧ expV b ≤ expV l := by
  unfold meetsV at h
  by_cases c : expOk b = true ∧ expOk l = true ∧ expV b ≤ expV l
  · exact c
  · rw [if_neg c] at h; omega
theorem srow_cell {w : World} {b off n c : Nat} {L : Nat → Hd} (h : SRow w (some ⟨b, off, none⟩) n c 68 (fun i => hdL (L i))) (i : Nat) (hi : i < n) : w.cell? ⟨b, off + i * 68 + 66, none⟩ = some (.int .u32 (L i).b) := by
  rw [Nat.add_assoc]
  exact (h.cells _ rfl i hi 66 _ (hdL_b _)).2

set_option maxRecDepth 100000 in
set_option maxHeartbeats 8000000 in
theorem work_early (lim iv sp fu ix orp : Int) (ao : Option Addr) (n cp : Nat) (lo : Option Addr) (k lc : Nat) (now : Int) (w : World) (hT : Tab w) (hbig : 20 < k ∨ 120 < n) :
    Calls Tryz.prog 6 #[PV lim iv sp fu ix orp ao n cp, .slice lo k lc, .int .i64 now] w fun e w' => e = .returned (.bool true) ∧ Below w.heap.size w w' := by
  have HA := Lib.hid (fun (x : World) (hb : Below w.heap.size w x) => awake16_any x (hT.later hb))
  have hM := Lib.hid (Mem.al (mem_nil w) [.int .u32 lim, .int .i64 iv, .int .i64 sp, .int .i64 fu, .int .i64 ix, .int .i64 orp, .slice ao n cp] 25)
  have hB := bl_al (Below.refl w.heap.size w) (.cells ([.int .u32 lim, .int .i64 iv, .int .i64 sp, .int .i64 fu, .int .i64 ix, .int .i64 orp, .slice ao n cp] : List Value).toArray 25)
  have hF : True := trivial
  by_cases h1 : 20 < k
  · have h1i : (20 : Int) < (k : Int) := by omega
    clear hbig h1 hT
    go_enter Tryz.func6, Tryz.ntmps6
    go_wp2_with (first | (go_at_call 8; (with_reducible refine (HA.out _ hB).mono ?_); rintro e w1 ⟨rfl, hb⟩; have hB : Below w.heap.size w w1 := (by refine bl_then ?_ hb; (repeat (first | exact hB | refine bl_al ?_ _ | refine Below.setCell ?_ (by first | exact hgs | exact Nat.le_succ_of_le hgs | exact hgs2 | exact hgs3) _ | refine Below.drew ?_ | refine bl_drewN ?_ _))); (first | with_reducible have hM2 := Mem.later hb (hM.out) | with_reducible have hM2 := Mem.later hb (Mem.al (hM.out) _ _) | with_reducible have hM2 := Mem.later hb (Mem.al (Mem.al (hM.out) _ _) _ _) | with_reducible have hM2 := Mem.later hb (Mem.al (Mem.al (Mem.al (hM.out) _ _) _ _) _ _) | with_reducible have hM2 := Mem.later hb (Mem.al (Mem.al (Mem.al (Mem.al (hM.out) _ _) _ _) _ _) _ _) | with_reducible have hM2 := Mem.later hb (Mem.drew (hM.out)) | with_reducible have hM2 := Mem.later hb (Mem.drew (Mem.al (hM.out) _ _)) | with_reducible have hM2 := Mem.later hb (Mem.al (Mem.drew (hM.out)) _ _) | with_reducible have hM2 := Mem.later hb (Mem.al (Mem.drew (Mem.al (hM.out) _ _)) _ _) | with_reducible have hM2 := Mem.later hb (Mem.drew (Mem.al (Mem.al (hM.out) _ _) _ _)) | with_reducible have hM2 := Mem.later hb (Mem.al (Mem.al (Mem.drew (hM.out)) _ _) _ _) | with_reducible have hM2 := Mem.later hb (Mem.drew (Mem.drew (hM.out))) | with_reducible have hM2 := Mem.later hb (Mem.drew (Mem.al (Mem.drew (hM.out)) _ _)) | with_reducible have hM2 := Mem.later hb (Mem.drew (Mem.al (Mem.al (Mem.al (hM.out) _ _) _ _) _ _)) | with_reducible have hM2 := Mem.later hb (Mem.al (Mem.al (Mem.drew (Mem.al (hM.out) _ _)) _ _) _ _) | with_reducible have hM2 := Mem.later hb (Mem.drew (Mem.al (Mem.drew (Mem.al (hM.out) _ _)) _ _)) | with_reducible have hM2 := Mem.later hb (Mem.al (Mem.al (Mem.al (Mem.al (Mem.al (hM.out) _ _) _ _) _ _) _ _) _ _) | with_reducible have hM2 := Mem.later hb (Mem.al (Mem.al (Mem.al (Mem.al (Mem.al (Mem.al (hM.out) _ _) _ _) _ _) _ _) _ _) _ _) | with_reducible have hM2 := Mem.later hb (Mem.al (Mem.al (Mem.al (Mem.al (Mem.al (Mem.al (Mem.al (hM.out) _ _) _ _) _ _) _ _) _ _) _ _) _ _) | with_reducible have hM2 := Mem.later hb (Mem.al (Mem.al (Mem.al (Mem.al (Mem.al (Mem.al (Mem.al (Mem.al (hM.out) _ _) _ _) _ _) _ _) _ _) _ _) _ _) _ _)); (try simp only [World.size_alloc, size_drew] at hM2); clear hM; have hM := Lib.hid hM2; clear hF; have hF := hM2; (try simp only [Mem, cellsAt, World.size_alloc, Nat.zero_add, Nat.reduceAdd, and_true] at hF); clear hM2; clear hb; clear hF; have hF : True := trivial; have hpl := cellsAt_get (j := 6) (Mem.get hM.out (List.mem_cons_self)) rfl; have hp0 := cellsAt_get (j := 0) (Mem.get hM.out (List.mem_cons_self)) rfl))
    go_ret
    exact ⟨rfl, hB⟩
  · have h1i : ¬ (20 : Int) < (k : Int) := by omega
    have h2i : (120 : Int) < (n : Int) := by omega
    clear hbig h1 hT
    go_enter Tryz.func6, Tryz.ntmps6
    go_wp2_with (first | (go_at_call 8; (with_reducible refine (HA.out _ hB).mono ?_); rintro e w1 ⟨rfl, hb⟩; have hB : Below w.heap.size w w1 := (by refine bl_then ?_ hb; (repeat (first | exact hB | refine bl_al ?_ _ | refine Below.setCell ?_ (by first | exact hgs | exact Nat.le_succ_of_le hgs | exact hgs2 | exact hgs3) _ | refine Below.drew ?_ | refine bl_drewN ?_ _))); (first | with_reducible have hM2 := Mem.later hb (hM.out) | with_reducible have hM2 := Mem.later hb (Mem.al (hM.out) _ _) | with_reducible have hM2 := Mem.later hb (Mem.al (Mem.al (hM.out) _ _) _ _) | with_reducible have hM2 := Mem.later hb (Mem.al (Mem.al (Mem.al (hM.out) _ _) _ _) _ _) | with_reducible have hM2 := Mem.later hb (Mem.al (Mem.al (Mem.al (Mem.al (hM.out) _ _) _ _) _ _) _ _) | with_reducible have hM2 := Mem.later hb (Mem.drew (hM.out)) | with_reducible have hM2 := Mem.later hb (Mem.drew (Mem.al (hM.out) _ _)) | with_reducible have hM2 := Mem.later hb (Mem.al (Mem.drew (hM.out)) _ _) | with_reducible have hM2 := Mem.later hb (Mem.al (Mem.drew (Mem.al (hM.out) _ _)) _ _) | with_reducible have hM2 := Mem.later hb (Mem.drew (Mem.al (Mem.al (hM.out) _ _) _ _)) | with_reducible have hM2 := Mem.later hb (Mem.al (Mem.al (Mem.drew (hM.out)) _ _) _ _) | with_reducible have hM2 := Mem.later hb (Mem.drew (Mem.drew (hM.out))) | with_reducible have hM2 := Mem.later hb (Mem.drew (Mem.al (Mem.drew (hM.out)) _ _)) | with_reducible have hM2 := Mem.later hb (Mem.drew (Mem.al (Mem.al (Mem.al (hM.out) _ _) _ _) _ _)) | with_reducible have hM2 := Mem.later hb (Mem.al (Mem.al (Mem.drew (Mem.al (hM.out) _ _)) _ _) _ _) | with_reducible have hM2 := Mem.later hb (Mem.drew (Mem.al (Mem.drew (Mem.al (hM.out) _ _)) _ _)) | with_reducible have hM2 := Mem.later hb (Mem.al (Mem.al (Mem.al (Mem.al (Mem.al (hM.out) _ _) _ _) _ _) _ _) _ _) | with_reducible have hM2 := Mem.later hb (Mem.al (Mem.al (Mem.al (Mem.al (Mem.al (Mem.al (hM.out) _ _) _ _) _ _) _ _) _ _) _ _) | with_reducible have hM2 := Mem.later hb (Mem.al (Mem.al (Mem.al (Mem.al (Mem.al (Mem.al (Mem.al (hM.out) _ _) _ _) _ _) _ _) _ _) _ _) _ _) | with_reducible have hM2 := Mem.later hb (Mem.al (Mem.al (Mem.al (Mem.al (Mem.al (Mem.al (Mem.al (Mem.al (hM.out) _ _) _ _) _ _) _ _) _ _) _ _) _ _) _ _)); (try simp only [World.size_alloc, size_drew] at hM2); clear hM; have hM := Lib.hid hM2; clear hF; have hF := hM2; (try simp only [Mem, cellsAt, World.size_alloc, Nat.zero_add, Nat.reduceAdd, and_true] at hF); clear hM2; clear hb; clear hF; have hF : True := trivial; have hpl := cellsAt_get (j := 6) (Mem.get hM.out (List.mem_cons_self)) rfl; have hp0 := cellsAt_get (j := 0) (Mem.get hM.out (List.mem_cons_self)) rfl))
    go_ret
    exact ⟨rfl, hB⟩

def WkRel (w : World) (P : List Value) (g : Nat) (G : List Value) (m : Nat) (i : Value) (wr : World) : Prop :=
  ∃ j : Nat, 1 ≤ j ∧ (j ≤ m ∨ j = 1) ∧ i = .int .i64 j ∧ Below w.heap.size w wr ∧ Mem wr [(g, G), (w.heap.size, P)]

set_option maxRecDepth 100000 in
set_option maxHeartbeats 8000000 in
theorem work_walk (lim iv sp fu ix orp : Int) (ao : Option Addr) (n cp : Nat) (ht : Nat → Int) (ch : Nat → Nat → Int) (hlm : 0 ≤ lim ∧ lim < 4294967296) (hch : ∀ i j, 0 ≤ ch i j ∧ ch i j < 256) (lo : Option Addr) (k lc : Nat) (L : Nat → Hd) (hL : ∀ i, HdOk (L i)) (now : Int) (w : World) (hT : Tab w)
    (hp : SRow w ao n cp 33 (fun i => ckL (ht i) (ch i))) (hr : SRow w lo k lc 68 (fun i => hdL (L i))) (hk : k ≤ 20) (hn : n ≤ 120) :
    Calls Tryz.prog 6 #[PV lim iv sp fu ix orp ao n cp, .slice lo k lc, .int .i64 now] w fun e w' => e = .returned (.bool true) ∧ Below w.heap.size w w' := by
  have HA := Lib.hid (fun (x : World) (hb : Below w.heap.size w x) => awake16_any x (hT.later hb))
  have HV := Lib.hid (fun (x : World) (hb : Below w.heap.size w x) => valid_any lim iv sp fu ix orp ao n cp ht ch hlm (by omega) hch L hL lo k lc (by omega) now x (hT.later hb) (hp.later (by decide) hb) (hr.later (by decide) hb))
  obtain ⟨l0, l1, l2, l3, el, hlB, hlf⟩ := exp_ex lim hlm
  have HEl := Lib.hid (fun (x : World) => exp_any lim hlm hlB el hlf x)
  have HLf := Lib.hid hlf
  have HLB := Lib.hid hlB
  have HR := Lib.hid hr
  have HL := Lib.hid hL
  have HT := Lib.hid hT
  have HLm := Lib.hid hlm
  have hM := Lib.hid (Mem.al (mem_nil w) [.int .u32 lim, .int .i64 iv, .int .i64 sp, .int .i64 fu, .int .i64 ix, .int .i64 orp, .slice ao n cp] 25)
  have hB := bl_al (Below.refl w.heap.size w) (.cells ([.int .u32 lim, .int .i64 iv, .int .i64 sp, .int .i64 fu, .int .i64 ix, .int .i64 orp, .slice ao n cp] : List Value).toArray 25)
  have hF : True := trivial
  have h1i : ¬ (20 : Int) < (k : Int) := by omega
  have h2i : ¬ (120 : Int) < (n : Int) := by omega
  have HK := Lib.hid hk
  clear hT hp hr hk hn hL hch hlm hlB hlf
  go_enter Tryz.func6, Tryz.ntmps6
  go_wp2_with (first |
    (go_at_call 8; (with_reducible refine (HA.out _ hB).mono ?_); rintro e w1 ⟨rfl, hb⟩; have hB : Below w.heap.size w w1 := (by refine bl_then ?_ hb; (repeat (first | exact hB | refine bl_al ?_ _ | refine Below.setCell ?_ (by first | exact hgs | exact Nat.le_succ_of_le hgs | exact hgs2 | exact hgs3) _ | refine Below.drew ?_ | refine bl_drewN ?_ _))); (first | with_reducible have hM2 := Mem.later hb (hM.out) | with_reducible have hM2 := Mem.later hb (Mem.al (hM.out) _ _) | with_reducible have hM2 := Mem.later hb (Mem.al (Mem.al (hM.out) _ _) _ _) | with_reducible have hM2 := Mem.later hb (Mem.al (Mem.al (Mem.al (hM.out) _ _) _ _) _ _) | with_reducible have hM2 := Mem.later hb (Mem.al (Mem.al (Mem.al (Mem.al (hM.out) _ _) _ _) _ _) _ _) | with_reducible have hM2 := Mem.later hb (Mem.drew (hM.out)) | with_reducible have hM2 := Mem.later hb (Mem.drew (Mem.al (hM.out) _ _)) | with_reducible have hM2 := Mem.later hb (Mem.al (Mem.drew (hM.out)) _ _) | with_reducible have hM2 := Mem.later hb (Mem.al (Mem.drew (Mem.al (hM.out) _ _)) _ _) | with_reducible have hM2 := Mem.later hb (Mem.drew (Mem.al (Mem.al (hM.out) _ _) _ _)) | with_reducible have hM2 := Mem.later hb (Mem.al (Mem.al (Mem.drew (hM.out)) _ _) _ _) | with_reducible have hM2 := Mem.later hb (Mem.drew (Mem.drew (hM.out))) | with_reducible have hM2 := Mem.later hb (Mem.drew (Mem.al (Mem.drew (hM.out)) _ _)) | with_reducible have hM2 := Mem.later hb (Mem.drew (Mem.al (Mem.al (Mem.al (hM.out) _ _) _ _) _ _)) | with_reducible have hM2 := Mem.later hb (Mem.al (Mem.al (Mem.drew (Mem.al (hM.out) _ _)) _ _) _ _) | with_reducible have hM2 := Mem.later hb (Mem.drew (Mem.al (Mem.drew (Mem.al (hM.out) _ _)) _ _)) | with_reducible have hM2 := Mem.later hb (Mem.al (Mem.al (Mem.al (Mem.al (Mem.al (hM.out) _ _) _ _) _ _) _ _) _ _) | with_reducible have hM2 := Mem.later hb (Mem.al (Mem.al (Mem.al (Mem.al (Mem.al (Mem.al (hM.out) _ _) _ _) _ _) _ _) _ _) _ _) | with_reducible have hM2 := Mem.later hb (Mem.al (Mem.al (Mem.al (Mem.al (Mem.al (Mem.al (Mem.al (hM.out) _ _) _ _) _ _) _ _) _ _) _ _) _ _) | with_reducible have hM2 := Mem.later hb (Mem.al (Mem.al (Mem.al (Mem.al (Mem.al (Mem.al (Mem.al (Mem.al (hM.out) _ _) _ _) _ _) _ _) _ _) _ _) _ _) _ _)); (try simp only [World.size_alloc, size_drew] at hM2); clear hM; have hM := Lib.hid hM2; clear hF; have hF := hM2; (try simp only [Mem, cellsAt, World.size_alloc, Nat.zero_add, Nat.reduceAdd, and_true] at hF); clear hM2; clear hb; clear hF; have hF : True := trivial; have hpl := cellsAt_get (j := 6) (Mem.get hM.out (List.mem_cons_self)) rfl; have hp0 := cellsAt_get (j := 0) (Mem.get hM.out (List.mem_cons_self)) rfl) |
    ((with_reducible_and_instances refine at_load 3 ?_); refine Go.wpList_load_mid rfl 25 (.tmp 3) rfl w.heap.size 0 rfl ([.int .u32 lim, .int .i64 iv, .int .i64 sp, .int .i64 fu, .int .i64 ix, .int .i64 orp, .slice ao n cp]) _ (rangeAt_of (Mem.get hM.out (by simp))) Tryz.underlying25 rfl (by kernel_rfl) ?_) |
    (go_at_call 17; (with_reducible refine (HV.out _ hB).mono ?_); rintro e w2 ⟨m, er, rfl, hv, hb⟩; have hB : Below w.heap.size w w2 := (by refine bl_then ?_ hb; (repeat (first | exact hB | refine bl_al ?_ _ | refine Below.setCell ?_ (by first | exact hgs | exact Nat.le_succ_of_le hgs | exact hgs2 | exact hgs3) _ | refine Below.drew ?_ | refine bl_drewN ?_ _))); (first | with_reducible have hM2 := Mem.later hb (hM.out) | with_reducible have hM2 := Mem.later hb (Mem.al (hM.out) _ _) | with_reducible have hM2 := Mem.later hb (Mem.al (Mem.al (hM.out) _ _) _ _) | with_reducible have hM2 := Mem.later hb (Mem.al (Mem.al (Mem.al (hM.out) _ _) _ _) _ _) | with_reducible have hM2 := Mem.later hb (Mem.al (Mem.al (Mem.al (Mem.al (hM.out) _ _) _ _) _ _) _ _) | with_reducible have hM2 := Mem.later hb (Mem.drew (hM.out)) | with_reducible have hM2 := Mem.later hb (Mem.drew (Mem.al (hM.out) _ _)) | with_reducible have hM2 := Mem.later hb (Mem.al (Mem.drew (hM.out)) _ _) | with_reducible have hM2 := Mem.later hb (Mem.al (Mem.drew (Mem.al (hM.out) _ _)) _ _) | with_reducible have hM2 := Mem.later hb (Mem.drew (Mem.al (Mem.al (hM.out) _ _) _ _)) | with_reducible have hM2 := Mem.later hb (Mem.al (Mem.al (Mem.drew (hM.out)) _ _) _ _) | with_reducible have hM2 := Mem.later hb (Mem.drew (Mem.drew (hM.out))) | with_reducible have hM2 := Mem.later hb (Mem.drew (Mem.al (Mem.drew (hM.out)) _ _)) | with_reducible have hM2 := Mem.later hb (Mem.drew (Mem.al (Mem.al (Mem.al (hM.out) _ _) _ _) _ _)) | with_reducible have hM2 := Mem.later hb (Mem.al (Mem.al (Mem.drew (Mem.al (hM.out) _ _)) _ _) _ _) | with_reducible have hM2 := Mem.later hb (Mem.drew (Mem.al (Mem.drew (Mem.al (hM.out) _ _)) _ _)) | with_reducible have hM2 := Mem.later hb (Mem.al (Mem.al (Mem.al (Mem.al (Mem.al (hM.out) _ _) _ _) _ _) _ _) _ _) | with_reducible have hM2 := Mem.later hb (Mem.al (Mem.al (Mem.al (Mem.al (Mem.al (Mem.al (hM.out) _ _) _ _) _ _) _ _) _ _) _ _) | with_reducible have hM2 := Mem.later hb (Mem.al (Mem.al (Mem.al (Mem.al (Mem.al (Mem.al (Mem.al (hM.out) _ _) _ _) _ _) _ _) _ _) _ _) _ _) | with_reducible have hM2 := Mem.later hb (Mem.al (Mem.al (Mem.al (Mem.al (Mem.al (Mem.al (Mem.al (Mem.al (hM.out) _ _) _ _) _ _) _ _) _ _) _ _) _ _) _ _)); (try simp only [World.size_alloc, size_drew] at hM2); clear hM; have hM := Lib.hid hM2; clear hF; have hF := hM2; (try simp only [Mem, cellsAt, World.size_alloc, Nat.zero_add, Nat.reduceAdd, and_true] at hF); clear hM2; clear hb; clear hF; have hF : True := trivial; have hpl := cellsAt_get (j := 6) (Mem.get hM.out (List.mem_cons_self)) rfl; have hp0 := cellsAt_get (j := 0) (Mem.get hM.out (List.mem_cons_self)) rfl; have HVd := Lib.hid hv; clear hv) |
    (go_at_call 20; (with_reducible refine (HEl.out _).mono ?_); rintro e w3 ⟨rfl, hb⟩; have hB : Below w.heap.size w w3 := (by refine bl_then ?_ hb; (repeat (first | exact hB | refine bl_al ?_ _ | refine Below.setCell ?_ (by first | exact hgs | exact Nat.le_succ_of_le hgs | exact hgs2 | exact hgs3) _ | refine Below.drew ?_ | refine bl_drewN ?_ _))); (first | with_reducible have hM2 := Mem.later hb (hM.out) | with_reducible have hM2 := Mem.later hb (Mem.al (hM.out) _ _) | with_reducible have hM2 := Mem.later hb (Mem.al (Mem.al (hM.out) _ _) _ _) | with_reducible have hM2 := Mem.later hb (Mem.al (Mem.al (Mem.al (hM.out) _ _) _ _) _ _) | with_reducible have hM2 := Mem.later hb (Mem.al (Mem.al (Mem.al (Mem.al (hM.out) _ _) _ _) _ _) _ _) | with_reducible have hM2 := Mem.later hb (Mem.drew (hM.out)) | with_reducible have hM2 := Mem.later hb (Mem.drew (Mem.al (hM.out) _ _)) | with_reducible have hM2 := Mem.later hb (Mem.al (Mem.drew (hM.out)) _ _) | with_reducible have hM2 := Mem.later hb (Mem.al (Mem.drew (Mem.al (hM.out) _ _)) _ _) | with_reducible have hM2 := Mem.later hb (Mem.drew (Mem.al (Mem.al (hM.out) _ _) _ _)) | with_reducible have hM2 := Mem.later hb (Mem.al (Mem.al (Mem.drew (hM.out)) _ _) _ _) | with_reducible have hM2 := Mem.later hb (Mem.drew (Mem.drew (hM.out))) | with_reducible have hM2 := Mem.later hb (Mem.drew (Mem.al (Mem.drew (hM.out)) _ _)) | with_reducible have hM2 := Mem.later hb (Mem.drew (Mem.al (Mem.al (Mem.al (hM.out) _ _) _ _) _ _)) | with_reducible have hM2 := Mem.later hb (Mem.al (Mem.al (Mem.drew (Mem.al (hM.out) _ _)) _ _) _ _) | with_reducible have hM2 := Mem.later hb (Mem.drew (Mem.al (Mem.drew (Mem.al (hM.out) _ _)) _ _)) | with_reducible have hM2 := Mem.later hb (Mem.al (Mem.al (Mem.al (Mem.al (Mem.al (hM.out) _ _) _ _) _ _) _ _) _ _) | with_reducible have hM2 := Mem.later hb (Mem.al (Mem.al (Mem.al (Mem.al (Mem.al (Mem.al (hM.out) _ _) _ _) _ _) _ _) _ _) _ _) | with_reducible have hM2 := Mem.later hb (Mem.al (Mem.al (Mem.al (Mem.al (Mem.al (Mem.al (Mem.al (hM.out) _ _) _ _) _ _) _ _) _ _) _ _) _ _) | with_reducible have hM2 := Mem.later hb (Mem.al (Mem.al (Mem.al (Mem.al (Mem.al (Mem.al (Mem.al (Mem.al (hM.out) _ _) _ _) _ _) _ _) _ _) _ _) _ _) _ _)); (try simp only [World.size_alloc, size_drew] at hM2); clear hM; have hM := Lib.hid hM2; clear hF; have hF := hM2; (try simp only [Mem, cellsAt, World.size_alloc, Nat.zero_add, Nat.reduceAdd, and_true] at hF); clear hM2; clear hb; clear hF; have hF : True := trivial))
  have HB0 := Lib.hid hB
  have HM0 := Lib.hid (Mem.al hM.out [.int .u64 l0, .int .u64 l1, .int .u64 l2, .int .u64 l3] 51)
  clear hB hM hF
  go_loopw [12] (fun i wr => WkRel w [.int .u32 lim, .int .i64 iv, .int .i64 sp, .int .i64 fu, .int .i64 ix, .int .i64 orp, .slice ao n cp] w3.heap.size [.int .u64 l0, .int .u64 l1, .int .u64 l2, .int .u64 l3] m i wr) (fun i _ => m + 1 - (intOf i).toNat)
  case atStart => exact ⟨1, Nat.le_refl _, .inr rfl, rfl, bl_al HB0.out _, HM0.out⟩
  case round =>
    obtain ⟨j, hj1, hjm, rfl, hB, hmm⟩ := hrel
    clear HM0 HB0
    have hM := Lib.hid hmm
    have hF : True := trivial
    clear hmm
    by_cases hlt : j < m
    · have hjk : j < k := by have := HVd.out.le; omega
      obtain ⟨b, off, rfl⟩ := HR.out.addr (by decide) (by omega)
      have hblt : b < w.heap.size := HR.out.lt (by decide) (by omega) _ rfl
      have hjn : (j : Int) < (m : Int) := by omega
      have hjk2 : (j : Int) < (k : Int) := by omega
      have hw1 : IntKind.i64.wrap ((j : Int) + 1) = ((j + 1 : Nat) : Int) := by rw [IntKind.wrap_i64]; have := HK.out; omega
      have hst := HVd.out.yes j hlt
      simp only [stnd, if_neg (show ¬ j = 0 by omega)] at hst
      have hme := (checkV_parts hst).2.2.2.1
      obtain ⟨ob, ol, ole⟩ := meets_parts hme
      rcases HLf.out with ⟨hq1, hln, hq2⟩ | ⟨hno, _, _⟩
      case inr => rw [ol] at hno; cases hno
      obtain ⟨t0, t1, t2, t3, e, htB, hte⟩ := exp_ex (L j).b (HL.out j).b
      have HEx0 := fun (x : World) => exp_any (L j).b (HL.out j).b htB e hte x
      rcases hte with ⟨hq3, htn, rfl⟩ | ⟨hno, _, _⟩
      case inr => rw [ob] at hno; cases hno
      have HEx := Lib.hid HEx0
      obtain ⟨kc, hkc⟩ : ∃ z, cmpN (N4 t0 t1 t2 t3) (N4 l0 l1 l2 l3) = z := ⟨_, rfl⟩
      have HCm := Lib.hid (fun (x : World) => hkc ▸ cmp_n htB HLB.out x)
      have hgt := cmp_gt hkc
      rw [htn, hln, decide_eq_false (show ¬ expV lim < expV (L j).b by omega)] at hgt
      have HId := Lib.hid (fun (x : World) (hb : Below w.heap.size w x) => hid_any (L j) (HL.out j) x (HT.out.later hb))
      have HMe0 := fun (x : World) => meets_any (idF (L j)) (idF_b _) (L j).b lim (HL.out j).b HLm.out x
      rw [hme] at HMe0
      obtain ⟨I, hI⟩ : ∃ I, idF (L j) = I := ⟨_, rfl⟩
      rw [hI] at HMe0 HId
      have HMe := Lib.hid HMe0
      have HRg : Hid (∀ x, Below w.heap.size w x → x.rangeAt b (off + j * 68) (hdL (L j))) := fun x hb i v hv => (hb.cell (p := ⟨b, _, none⟩) hblt).trans (srow_at HR.out j hjk i v hv)
      have HRc : Hid (∀ x, Below w.heap.size w x → x.cell? ⟨b, off + j * 68 + 66, none⟩ = some (.int .u32 (L j).b)) := fun x hb => (hb.cell (p := ⟨b, _, none⟩) hblt).trans (srow_cell HR.out j hjk)
      have hcell := HRc.out wr hB
      clear hq1 hq2 hq3 hblt hst hme ob ol ole hln htB htn HEx0 hkc HMe0 hI
      go_wp2_with (go_at_call 20; (with_reducible refine (HEx.out _).mono ?_); rintro e w4 ⟨rfl, hb⟩; have hB : Below w.heap.size w w4 := (by refine bl_then ?_ hb; (repeat (first | exact hB | refine bl_al ?_ _ | refine Below.setCell ?_ (by first | exact hgs | exact Nat.le_succ_of_le hgs | exact hgs2 | exact hgs3) _ | refine Below.drew ?_ | refine bl_drewN ?_ _))); (first | with_reducible have hM2 := Mem.later hb (hM.out) | with_reducible have hM2 := Mem.later hb (Mem.al (hM.out) _ _) | with_reducible have hM2 := Mem.later hb (Mem.al (Mem.al (hM.out) _ _) _ _) | with_reducible have hM2 := Mem.later hb (Mem.al (Mem.al (Mem.al (hM.out) _ _) _ _) _ _) | with_reducible have hM2 := Mem.later hb (Mem.al (Mem.al (Mem.al (Mem.al (hM.out) _ _) _ _) _ _) _ _) | with_reducible have hM2 := Mem.later hb (Mem.drew (hM.out)) | with_reducible have hM2 := Mem.later hb (Mem.drew (Mem.al (hM.out) _ _)) | with_reducible have hM2 := Mem.later hb (Mem.al (Mem.drew (hM.out)) _ _) | with_reducible have hM2 := Mem.later hb (Mem.al (Mem.drew (Mem.al (hM.out) _ _)) _ _) | with_reducible have hM2 := Mem.later hb (Mem.drew (Mem.al (Mem.al (hM.out) _ _) _ _)) | with_reducible have hM2 := Mem.later hb (Mem.al (Mem.al (Mem.drew (hM.out)) _ _) _ _) | with_reducible have hM2 := Mem.later hb (Mem.drew (Mem.drew (hM.out))) | with_reducible have hM2 := Mem.later hb (Mem.drew (Mem.al (Mem.drew (hM.out)) _ _)) | with_reducible have hM2 := Mem.later hb (Mem.drew (Mem.al (Mem.al (Mem.al (hM.out) _ _) _ _) _ _)) | with_reducible have hM2 := Mem.later hb (Mem.al (Mem.al (Mem.drew (Mem.al (hM.out) _ _)) _ _) _ _) | with_reducible have hM2 := Mem.later hb (Mem.drew (Mem.al (Mem.drew (Mem.al (hM.out) _ _)) _ _)) | with_reducible have hM2 := Mem.later hb (Mem.al (Mem.al (Mem.al (Mem.al (Mem.al (hM.out) _ _) _ _) _ _) _ _) _ _) | with_reducible have hM2 := Mem.later hb (Mem.al (Mem.al (Mem.al (Mem.al (Mem.al (Mem.al (hM.out) _ _) _ _) _ _) _ _) _ _) _ _) | with_reducible have hM2 := Mem.later hb (Mem.al (Mem.al (Mem.al (Mem.al (Mem.al (Mem.al (Mem.al (hM.out) _ _) _ _) _ _) _ _) _ _) _ _) _ _) | with_reducible have hM2 := Mem.later hb (Mem.al (Mem.al (Mem.al (Mem.al (Mem.al (Mem.al (Mem.al (Mem.al (hM.out) _ _) _ _) _ _) _ _) _ _) _ _) _ _) _ _)); (try simp only [World.size_alloc, size_drew] at hM2); clear hM; have hM := Lib.hid hM2; clear hF; have hF := hM2; (try simp only [Mem, cellsAt, World.size_alloc, Nat.zero_add, Nat.reduceAdd, and_true] at hF); clear hM2; clear hb; clear hF; have hF : True := trivial)
      have hBq : Below w.heap.size w (w4.alloc (.cells ([.int .u64 t0, .int .u64 t1, .int .u64 t2, .int .u64 t3] : List Value).toArray 51)).drew := (bl_al hB _).drew
      refine wp_plan (fun x => Mem x _ ∧ x.rangeAt b (off + j * 68) (hdL (L j)) ∧ x.cell? ⟨b, off + j * 68 + 66, none⟩ = some (.int .u32 (L j).b) ∧ x.cell? ⟨w.heap.size, 0, none⟩ = some (.int .u32 lim)) [5, 13, 21] [0, 1, 2, 3, 4, 5, 6, 7, 8, 9, 10, 11, 12, 14, 15, 16, 17, 18, 19, 20, 13, 21, 22, 23] (by kernel_rfl) (by kernel_rfl) (⟨Mem.drew (Mem.al hM.out [.int .u64 t0, .int .u64 t1, .int .u64 t2, .int .u64 t3] 51), HRg.out _ (hBq), HRc.out _ (hBq), cellsAt_get (j := 0) (vs := [.int .u32 lim, .int .i64 iv, .int .i64 sp, .int .i64 fu, .int .i64 ix, .int .i64 orp, .slice ao n cp]) (Mem.get (Mem.drew (Mem.al hM.out [.int .u64 t0, .int .u64 t1, .int .u64 t2, .int .u64 t3] 51)) (by simp)) rfl⟩) (fun hHeld => ?_)
      iterate 3 (refine wpT_take rfl (by rfl) (by rfl) (by intro w' hSw; (try dsimp only [Mem, cellsAt] at hSw); go_simp; (try with_reducible rfl)) (by assumption) ?_; (try simp only [Act.put, List.setIfInBounds_toArray, List.set_cons_zero, List.set_cons_succ]))
      (refine wpT_yield rfl (by rfl) (Go.yieldsIf_load_mid (by rfl) 51 (.tmp 13) rfl w4.heap.size (0) rfl ([.int .u64 t0, .int .u64 t1, .int .u64 t2, .int .u64 t3]) _ (fun w' h' => rangeAt_of (Mem.get h'.1 (by simp))) Tryz.underlying51 rfl (by kernel_rfl)) (by assumption) ?_; (try simp only [Act.put, List.setIfInBounds_toArray, List.set_cons_zero, List.set_cons_succ]))
      (refine wpT_yield rfl (by rfl) (Go.yieldsIf_load_mid (by rfl) 51 (.tmp 10) rfl w3.heap.size (0) rfl ([.int .u64 l0, .int .u64 l1, .int .u64 l2, .int .u64 l3]) _ (fun w' h' => rangeAt_of (Mem.get h'.1 (by simp))) Tryz.underlying51 rfl (by kernel_rfl)) (by assumption) ?_; (try simp only [Act.put, List.setIfInBounds_toArray, List.set_cons_zero, List.set_cons_succ]))
      (refine wpT_step rfl (by rfl) (fun K hK => ?_); go_simp)
      ((with_reducible refine (HCm.out _).mono ?_); rintro e v1 ⟨rfl, hb⟩; have hBx := bl_both hBq hb; clear hBq; have hBq := hBx; clear hBx; have hmq := Mem.later hb hHeld.1; clear hHeld hb; (refine hK.out _ _ _ (fun _ h => h) (⟨hmq, HRg.out _ (hBq), HRc.out _ (hBq), cellsAt_get (j := 0) (vs := [.int .u32 lim, .int .i64 iv, .int .i64 sp, .int .i64 fu, .int .i64 ix, .int .i64 orp, .slice ao n cp]) (Mem.get (hmq) (by simp)) rfl⟩) (fun hHeld => ?_); clear hK; clear K; (try simp only [Act.put, List.setIfInBounds_toArray, List.set_cons_zero, List.set_cons_succ])))
      iterate 6 (refine wpT_take rfl (by rfl) (by rfl) (by intro w' hSw; (try dsimp only [Mem, cellsAt] at hSw); go_simp; (try with_reducible rfl)) (by assumption) ?_; (try simp only [Act.put, List.setIfInBounds_toArray, List.set_cons_zero, List.set_cons_succ]))
      (refine wpT_yield rfl (by rfl) (Go.yieldsIf_load_mid (by rfl) 30 (.tmp 64) rfl b (off + j * 68) rfl (hdL (L j)) _ (fun w' h' => h'.2.1) Tryz.underlying30 rfl (by rw [hdL_len]; kernel_rfl)) (by assumption) ?_; (try simp only [Act.put, List.setIfInBounds_toArray, List.set_cons_zero, List.set_cons_succ]))
      iterate 7 (refine wpT_take rfl (by rfl) (by rfl) (by intro w' hSw; (try dsimp only [Mem, cellsAt] at hSw); go_simp; (try with_reducible rfl)) (by assumption) ?_; (try simp only [Act.put, List.setIfInBounds_toArray, List.set_cons_zero, List.set_cons_succ]))
      (refine wpT_step rfl (by rfl) (fun K hK => ?_); go_simp)
      ((with_reducible refine (HId.out _ hBq).mono ?_); rintro e v2 ⟨rfl, hb⟩; have hBx := bl_both hBq hb; clear hBq; have hBq := hBx; clear hBx; have hmq := Mem.later hb hHeld.1; clear hHeld hb; (refine hK.out _ _ _ (fun _ h => h) (⟨hmq, HRg.out _ (hBq), HRc.out _ (hBq), cellsAt_get (j := 0) (vs := [.int .u32 lim, .int .i64 iv, .int .i64 sp, .int .i64 fu, .int .i64 ix, .int .i64 orp, .slice ao n cp]) (Mem.get (hmq) (by simp)) rfl⟩) (fun hHeld => ?_); clear hK; clear K; (try simp only [Act.put, List.setIfInBounds_toArray, List.set_cons_zero, List.set_cons_succ])))
      (refine wpT_step rfl (by rfl) (fun K hK => ?_); go_simp)
      ((with_reducible refine (HMe.out _).mono ?_); rintro e v3 ⟨rfl, hb⟩; have hBx := bl_both hBq hb; clear hBq; have hBq := hBx; clear hBx; have hmq := Mem.later hb hHeld.1; clear hHeld hb; (refine hK.out _ _ _ (fun _ h => h) (⟨hmq, HRg.out _ (hBq), HRc.out _ (hBq), cellsAt_get (j := 0) (vs := [.int .u32 lim, .int .i64 iv, .int .i64 sp, .int .i64 fu, .int .i64 ix, .int .i64 orp, .slice ao n cp]) (Mem.get (hmq) (by simp)) rfl⟩) (fun hHeld => ?_); clear hK; clear K; (try simp only [Act.put, List.setIfInBounds_toArray, List.set_cons_zero, List.set_cons_succ])))
      iterate 2 (refine wpT_take rfl (by rfl) (by rfl) (by intro w' hSw; (try dsimp only [Mem, cellsAt] at hSw); go_simp; (try with_reducible rfl)) (by assumption) ?_; (try simp only [Act.put, List.setIfInBounds_toArray, List.set_cons_zero, List.set_cons_succ]))
      (refine wpT_nil ?_)
      go_wp2
      exact ⟨⟨j + 1, by omega, .inl (by omega), by go_num, hBq, hHeld.1.2⟩, by simp [intOf]; omega⟩
    · have hjn : ¬ (j : Int) < (m : Int) := by omega
      have hm0 : (0 : Int) ≤ (m : Int) := by omega
      have hmk : (m : Int) ≤ (k : Int) := by have := HVd.out.le; omega
      go_wp2
      go_ret
      exact ⟨rfl, hB⟩
theorem work_main (lim iv sp fu ix orp : Int) (ao : Option Addr) (n cp : Nat) (ht : Nat → Int) (ch : Nat → Nat → Int) (hlm : 0 ≤ lim ∧ lim < 4294967296) (hch : ∀ i j, 0 ≤ ch i j ∧ ch i j < 256) (lo : Option Addr) (k lc : Nat) (L : Nat → Hd) (hL : ∀ i, HdOk (L i)) (now : Int) (w : World) (hT : Tab w)
    (hp : SRow w ao n cp 33 (fun i => ckL (ht i) (ch i))) (hr : SRow w lo k lc 68 (fun i => hdL (L i))) :
    Calls Tryz.prog 6 #[PV lim iv sp fu ix orp ao n cp, .slice lo k lc, .int .i64 now] w fun e w' => e = .returned (.bool true) ∧ Below w.heap.size w w' := by
  by_cases h1 : 20 < k
  · exact work_early lim iv sp fu ix orp ao n cp lo k lc now w hT (.inl h1)
  by_cases h2 : 120 < n
  · exact work_early lim iv sp fu ix orp ao n cp lo k lc now w hT (.inr h2)
  exact work_walk lim iv sp fu ix orp ao n cp ht ch hlm hch lo k lc L hL now w hT hp hr (by omega) (by omega)
end Go.Proofs.YtlhdfmaekbnhaaaGreatDoor
