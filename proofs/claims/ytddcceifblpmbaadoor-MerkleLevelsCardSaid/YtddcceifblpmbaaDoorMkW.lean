/- florinlaw10: MerkleLevels (made by gen_mkw.py). (hM) -/
import Derived.Test.YtddcceifblpmbaaDoorMkS
import Derived.Test.YtddcceifblpmbaaDoorMkL
namespace Go.Proofs.YtddcceifblpmbaaDoor
set_option linter.unusedVariables false
set_option linter.unusedSimpArgs false
open Go.RowKit

/-- all levels, as they lie -/
def LvF (L : List HF) (n N bl ol : Nat) (A B C : Nat → Nat) (W : World) : Prop :=
  ∀ j, j < N → W.cell? ⟨bl, ol + j, none⟩ = some (.slice (some ⟨A j, B j, none⟩) (wid n j) (C j)) ∧ Row W (some ⟨A j, B j, none⟩) (wid n j) (C j) 32 (hsL (lev L j))
theorem LvF.later {L : List HF} {n N bl ol : Nat} {A B C : Nat → Nat} {X Y : World} (h : LvF L n N bl ol A B C X) (hb : Below X.heap.size X Y) : LvF L n N bl ol A B C Y := fun j hj =>
  ⟨(hb.cell (p := ⟨bl, ol + j, none⟩) (World.block_lt_of_cell? X ⟨bl, ol + j, none⟩ (h j hj).1)).trans (h j hj).1, (h j hj).2.later hb⟩
theorem levels_all (ao : Option Addr) (n c : Nat) (L : List HF) (w : World) (hT : Tab w) (h : Row w ao n c 32 (hsL L)) (hL : ∀ f ∈ L, HB f) (h1 : 1 ≤ n) (h4 : n ≤ 4096) :
    Calls Tryd.prog 49 #[.slice ao n c] w fun e w' => ∃ (bl ol cp : Nat) (A B C : Nat → Nat), e = .returned (.slice (some ⟨bl, ol, none⟩) (hgt n + 1) cp) ∧ LvF L n (hgt n + 1) bl ol A B C w' ∧ Below w.heap.size w w' := by
  have hl := hs_len h
  have hN : levN n = hgt n + 1 := by unfold levN; rw [if_neg (by omega)]
  refine (levelsAll_any ao n c L w hT h hL).mono ?_
  rintro e w' ⟨lo, cp, vs, rfl, hr, hv, hB⟩
  rw [hN] at hr ⊢
  have hvl : vs.length = hgt n + 1 := by have := hr.len; omega
  obtain ⟨bl, ol, rfl⟩ := row_addr hr (by intro e; rw [e] at hvl; simp at hvl)
  have key : ∀ j, ∃ x : Nat × Nat × Nat, j < hgt n + 1 → w'.cell? ⟨bl, ol + j, none⟩ = some (.slice (some ⟨x.1, x.2.1, none⟩) (wid n j) x.2.2) ∧ Row w' (some ⟨x.1, x.2.1, none⟩) (wid n j) x.2.2 32 (hsL (lev L j)) := by
    intro j
    by_cases hj : j < hgt n + 1
    · obtain ⟨v, hvj⟩ : ∃ v, vs[j]? = some v := ⟨_, List.getElem?_eq_getElem (by omega)⟩
      obtain ⟨aj, q, cj, rfl, hrow⟩ := hv j v hvj
      have hq : q = wid n j := by have := hs_len hrow; rw [lev_len, hl] at this; exact this.symm
      subst hq
      have hne : hsL (lev L j) ≠ [] := by
        intro e
        have := congrArg List.length e
        rw [hsL_len, lev_len, hl] at this
        have := wid_pos (n := n) h1 j
        simp at *
        omega
      obtain ⟨x, y, rfl⟩ := row_addr hrow hne
      exact ⟨⟨x, y, cj⟩, fun _ => ⟨(hr.cells _ rfl j _ hvj).2, hrow⟩⟩
    · exact ⟨⟨0, 0, 0⟩, fun h => absurd h hj⟩
  exact ⟨bl, ol, cp, fun j => (key j).choose.1, fun j => (key j).choose.2.1, fun j => (key j).choose.2.2, rfl, fun j hj => (key j).choose_spec hj, hB⟩

set_option maxRecDepth 100000 in
set_option maxHeartbeats 8000000 in
theorem lvl_early (ao : Option Addr) (n c : Nat) (L : List HF) (w : World) (hT : Tab w) (hr : Row w ao n c 32 (hsL L)) (hL : ∀ f ∈ L, HB f) (h : 60 < n ∨ n = 0) :
    Calls Tryd.prog 7 #[.slice ao n c] w fun e w' => e = .returned (.bool true) ∧ Below w.heap.size w w' := by
  have HA := Lib.hid (fun (x : World) (hb : Below w.heap.size w x) => awake10_any x (hT.later hb))
  have hB := Below.refl w.heap.size w
  have hM := Lib.hid (mem_nil w)
  have hF : True := trivial
  by_cases h1 : 60 < n
  · have h1i : (60 : Int) < (n : Int) := by omega
    clear hT hr hL h h1
    go_enter Tryd.func7, Tryd.ntmps7
    go_wp2_with (first | (go_at_call 43; (with_reducible refine (HA.out _ hB).mono ?_); rintro e w1 ⟨rfl, hb⟩; have hB : Below w.heap.size w w1 := (by refine bl_then ?_ hb; (repeat (first | exact hB | refine bl_al ?_ _ | refine Below.setCell ?_ (by first | exact hgs | exact Nat.le_succ_of_le hgs | exact hgs2 | exact hgs3) _ | refine Below.drew ?_ | refine bl_drewN ?_ _))); (first | with_reducible have hM2 := Mem.later hb (hM.out) | with_reducible have hM2 := Mem.later hb (Mem.al (hM.out) _ _) | with_reducible have hM2 := Mem.later hb (Mem.al (Mem.al (hM.out) _ _) _ _) | with_reducible have hM2 := Mem.later hb (Mem.al (Mem.al (Mem.al (hM.out) _ _) _ _) _ _) | with_reducible have hM2 := Mem.later hb (Mem.al (Mem.al (Mem.al (Mem.al (hM.out) _ _) _ _) _ _) _ _) | with_reducible have hM2 := Mem.later hb (Mem.drew (hM.out)) | with_reducible have hM2 := Mem.later hb (Mem.drew (Mem.al (hM.out) _ _)) | with_reducible have hM2 := Mem.later hb (Mem.al (Mem.drew (hM.out)) _ _) | with_reducible have hM2 := Mem.later hb (Mem.al (Mem.drew (Mem.al (hM.out) _ _)) _ _) | with_reducible have hM2 := Mem.later hb (Mem.drew (Mem.al (Mem.al (hM.out) _ _) _ _)) | with_reducible have hM2 := Mem.later hb (Mem.al (Mem.al (Mem.drew (hM.out)) _ _) _ _) | with_reducible have hM2 := Mem.later hb (Mem.drew (Mem.drew (hM.out))) | with_reducible have hM2 := Mem.later hb (Mem.drew (Mem.al (Mem.drew (hM.out)) _ _)) | with_reducible have hM2 := Mem.later hb (Mem.drew (Mem.al (Mem.al (Mem.al (hM.out) _ _) _ _) _ _)) | with_reducible have hM2 := Mem.later hb (Mem.al (Mem.al (Mem.drew (Mem.al (hM.out) _ _)) _ _) _ _) | with_reducible have hM2 := Mem.later hb (Mem.drew (Mem.al (Mem.drew (Mem.al (hM.out) _ _)) _ _)) | with_reducible have hM2 := Mem.later hb (Mem.al (Mem.al (Mem.al (Mem.al (Mem.al (hM.out) _ _) _ _) _ _) _ _) _ _) | with_reducible have hM2 := Mem.later hb (Mem.al (Mem.al (Mem.al (Mem.al (Mem.al (Mem.al (hM.out) _ _) _ _) _ _) _ _) _ _) _ _) | with_reducible have hM2 := Mem.later hb (Mem.al (Mem.al (Mem.al (Mem.al (Mem.al (Mem.al (Mem.al (hM.out) _ _) _ _) _ _) _ _) _ _) _ _) _ _) | with_reducible have hM2 := Mem.later hb (Mem.al (Mem.al (Mem.al (Mem.al (Mem.al (Mem.al (Mem.al (Mem.al (hM.out) _ _) _ _) _ _) _ _) _ _) _ _) _ _) _ _)); (try simp only [World.size_alloc, size_drew] at hM2); clear hM; have hM := Lib.hid hM2; clear hF; have hF := hM2; (try simp only [Mem, cellsAt, World.size_alloc, Nat.zero_add, Nat.reduceAdd, and_true] at hF); clear hM2; clear hb))
    go_ret
    exact ⟨rfl, hB⟩
  · obtain rfl : n = 0 := by omega
    have HLv := Lib.hid (show ∀ (x : World), Below w.heap.size w x → Calls Tryd.prog 49 #[.slice ao 0 c] x fun e w' => ∃ lo cp, e = .returned (.slice lo 0 cp) ∧ Below x.heap.size x w' from
      fun x hb => (levelsAll_any ao 0 c L x (hT.later hb) (hr.later hb) hL).mono (by rintro e w' ⟨lo, cp, vs, rfl, _, _, hB⟩; exact ⟨lo, cp, rfl, hB⟩))
    clear hT hr hL h h1
    go_enter Tryd.func7, Tryd.ntmps7
    go_wp2_with (first | (go_at_call 43; (with_reducible refine (HA.out _ hB).mono ?_); rintro e w1 ⟨rfl, hb⟩; have hB : Below w.heap.size w w1 := (by refine bl_then ?_ hb; (repeat (first | exact hB | refine bl_al ?_ _ | refine Below.setCell ?_ (by first | exact hgs | exact Nat.le_succ_of_le hgs | exact hgs2 | exact hgs3) _ | refine Below.drew ?_ | refine bl_drewN ?_ _))); (first | with_reducible have hM2 := Mem.later hb (hM.out) | with_reducible have hM2 := Mem.later hb (Mem.al (hM.out) _ _) | with_reducible have hM2 := Mem.later hb (Mem.al (Mem.al (hM.out) _ _) _ _) | with_reducible have hM2 := Mem.later hb (Mem.al (Mem.al (Mem.al (hM.out) _ _) _ _) _ _) | with_reducible have hM2 := Mem.later hb (Mem.al (Mem.al (Mem.al (Mem.al (hM.out) _ _) _ _) _ _) _ _) | with_reducible have hM2 := Mem.later hb (Mem.drew (hM.out)) | with_reducible have hM2 := Mem.later hb (Mem.drew (Mem.al (hM.out) _ _)) | with_reducible have hM2 := Mem.later hb (Mem.al (Mem.drew (hM.out)) _ _) | with_reducible have hM2 := Mem.later hb (Mem.al (Mem.drew (Mem.al (hM.out) _ _)) _ _) | with_reducible have hM2 := Mem.later hb (Mem.drew (Mem.al (Mem.al (hM.out) _ _) _ _)) | with_reducible have hM2 := Mem.later hb (Mem.al (Mem.al (Mem.drew (hM.out)) _ _) _ _) | with_reducible have hM2 := Mem.later hb (Mem.drew (Mem.drew (hM.out))) | with_reducible have hM2 := Mem.later hb (Mem.drew (Mem.al (Mem.drew (hM.out)) _ _)) | with_reducible have hM2 := Mem.later hb (Mem.drew (Mem.al (Mem.al (Mem.al (hM.out) _ _) _ _) _ _)) | with_reducible have hM2 := Mem.later hb (Mem.al (Mem.al (Mem.drew (Mem.al (hM.out) _ _)) _ _) _ _) | with_reducible have hM2 := Mem.later hb (Mem.drew (Mem.al (Mem.drew (Mem.al (hM.out) _ _)) _ _)) | with_reducible have hM2 := Mem.later hb (Mem.al (Mem.al (Mem.al (Mem.al (Mem.al (hM.out) _ _) _ _) _ _) _ _) _ _) | with_reducible have hM2 := Mem.later hb (Mem.al (Mem.al (Mem.al (Mem.al (Mem.al (Mem.al (hM.out) _ _) _ _) _ _) _ _) _ _) _ _) | with_reducible have hM2 := Mem.later hb (Mem.al (Mem.al (Mem.al (Mem.al (Mem.al (Mem.al (Mem.al (hM.out) _ _) _ _) _ _) _ _) _ _) _ _) _ _) | with_reducible have hM2 := Mem.later hb (Mem.al (Mem.al (Mem.al (Mem.al (Mem.al (Mem.al (Mem.al (Mem.al (hM.out) _ _) _ _) _ _) _ _) _ _) _ _) _ _) _ _)); (try simp only [World.size_alloc, size_drew] at hM2); clear hM; have hM := Lib.hid hM2; clear hF; have hF := hM2; (try simp only [Mem, cellsAt, World.size_alloc, Nat.zero_add, Nat.reduceAdd, and_true] at hF); clear hM2; clear hb) | (go_at_call 49; (with_reducible refine (HLv.out _ hB).mono ?_); rintro e w2 ⟨lo, cp, rfl, hb⟩; have hB : Below w.heap.size w w2 := (by refine bl_then ?_ hb; (repeat (first | exact hB | refine bl_al ?_ _ | refine Below.setCell ?_ (by first | exact hgs | exact Nat.le_succ_of_le hgs | exact hgs2 | exact hgs3) _ | refine Below.drew ?_ | refine bl_drewN ?_ _))); (first | with_reducible have hM2 := Mem.later hb (hM.out) | with_reducible have hM2 := Mem.later hb (Mem.al (hM.out) _ _) | with_reducible have hM2 := Mem.later hb (Mem.al (Mem.al (hM.out) _ _) _ _) | with_reducible have hM2 := Mem.later hb (Mem.al (Mem.al (Mem.al (hM.out) _ _) _ _) _ _) | with_reducible have hM2 := Mem.later hb (Mem.al (Mem.al (Mem.al (Mem.al (hM.out) _ _) _ _) _ _) _ _) | with_reducible have hM2 := Mem.later hb (Mem.drew (hM.out)) | with_reducible have hM2 := Mem.later hb (Mem.drew (Mem.al (hM.out) _ _)) | with_reducible have hM2 := Mem.later hb (Mem.al (Mem.drew (hM.out)) _ _) | with_reducible have hM2 := Mem.later hb (Mem.al (Mem.drew (Mem.al (hM.out) _ _)) _ _) | with_reducible have hM2 := Mem.later hb (Mem.drew (Mem.al (Mem.al (hM.out) _ _) _ _)) | with_reducible have hM2 := Mem.later hb (Mem.al (Mem.al (Mem.drew (hM.out)) _ _) _ _) | with_reducible have hM2 := Mem.later hb (Mem.drew (Mem.drew (hM.out))) | with_reducible have hM2 := Mem.later hb (Mem.drew (Mem.al (Mem.drew (hM.out)) _ _)) | with_reducible have hM2 := Mem.later hb (Mem.drew (Mem.al (Mem.al (Mem.al (hM.out) _ _) _ _) _ _)) | with_reducible have hM2 := Mem.later hb (Mem.al (Mem.al (Mem.drew (Mem.al (hM.out) _ _)) _ _) _ _) | with_reducible have hM2 := Mem.later hb (Mem.drew (Mem.al (Mem.drew (Mem.al (hM.out) _ _)) _ _)) | with_reducible have hM2 := Mem.later hb (Mem.al (Mem.al (Mem.al (Mem.al (Mem.al (hM.out) _ _) _ _) _ _) _ _) _ _) | with_reducible have hM2 := Mem.later hb (Mem.al (Mem.al (Mem.al (Mem.al (Mem.al (Mem.al (hM.out) _ _) _ _) _ _) _ _) _ _) _ _) | with_reducible have hM2 := Mem.later hb (Mem.al (Mem.al (Mem.al (Mem.al (Mem.al (Mem.al (Mem.al (hM.out) _ _) _ _) _ _) _ _) _ _) _ _) _ _) | with_reducible have hM2 := Mem.later hb (Mem.al (Mem.al (Mem.al (Mem.al (Mem.al (Mem.al (Mem.al (Mem.al (hM.out) _ _) _ _) _ _) _ _) _ _) _ _) _ _) _ _)); (try simp only [World.size_alloc, size_drew] at hM2); clear hM; have hM := Lib.hid hM2; clear hF; have hF := hM2; (try simp only [Mem, cellsAt, World.size_alloc, Nat.zero_add, Nat.reduceAdd, and_true] at hF); clear hM2; clear hb))
    go_ret
    exact ⟨rfl, hB⟩

set_option maxRecDepth 100000 in
set_option maxHeartbeats 8000000 in
theorem lvl_walk (ao : Option Addr) (n c : Nat) (L : List HF) (w : World) (hT : Tab w) (hr : Row w ao n c 32 (hsL L)) (hL : ∀ f ∈ L, HB f) (h1 : n ≤ 60) (h2 : 1 ≤ n) :
    Calls Tryd.prog 7 #[.slice ao n c] w fun e w' => e = .returned (.bool true) ∧ Below w.heap.size w w' := by
  have hln := hs_len hr
  obtain ⟨bb, off, rfl⟩ := row_addr hr (by intro e; have := congrArg List.length e; rw [hsL_len, hln] at this; simp at this; omega)
  obtain ⟨R, hR⟩ : ∃ R, rootF L = R := ⟨_, rfl⟩
  obtain ⟨tw, ht⟩ : ∃ t, twB L = t := ⟨_, rfl⟩
  have hh := hgt_small 12 n (by simp; omega)
  have hhN : hgtN (n : Int) = hgt n := by unfold hgtN; rw [Int.toNat_natCast, Nat.min_eq_left (by omega)]
  obtain ⟨t, htt⟩ : ∃ t, hgt n = t := ⟨_, rfl⟩
  obtain ⟨N, hNN⟩ : ∃ N, t + 1 = N := ⟨_, rfl⟩
  have htop : (lev L t)[0]? = some R := by
    have h3 := wid_top (n := n) (by omega)
    rw [htt] at h3
    obtain ⟨f, hf⟩ : ∃ f, (lev L t)[0]? = some f := ⟨_, List.getElem?_eq_getElem (by rw [lev_len, hln, h3]; omega)⟩
    have : rootF L = f := by
      unfold rootF levN
      rw [hln, if_neg (by rw [if_neg (by omega)]; omega), htt, List.getD_eq_getElem?_getD, hf]; rfl
    rw [hf, ← hR, this]
  have HA := Lib.hid (fun (x : World) (hb : Below w.heap.size w x) => awake10_any x (hT.later hb))
  have HLv := Lib.hid (show ∀ (x : World), Below w.heap.size w x → Calls Tryd.prog 49 #[.slice (some ⟨bb, off, none⟩) n c] x fun e w' => ∃ (bl ol cp : Nat) (A B C : Nat → Nat), e = .returned (.slice (some ⟨bl, ol, none⟩) N cp) ∧ LvF L n N bl ol A B C w' ∧ Below x.heap.size x w' from
    fun x hb => by have := levels_all (some ⟨bb, off, none⟩) n c L x (hT.later hb) (hr.later hb) hL h2 (by omega); rw [htt, hNN] at this; exact this)
  have HR1 := Lib.hid (fun (x : World) (hb : Below w.heap.size w x) => (hR ▸ ht ▸ root_det (some ⟨bb, off, none⟩) n c L x (hT.later hb) (hr.later hb) hL : Calls Tryd.prog 44 #[.slice (some ⟨bb, off, none⟩) n c] x fun e w' => e = .returned (.tuple #[arr32 R, .bool tw]) ∧ Below x.heap.size x w'))
  have HHt := Lib.hid (show ∀ (x : World), Calls Tryd.prog 56 #[.int .i64 (n : Int)] x fun e w' => e = .returned (.int .i64 (t : Int)) ∧ x = w' from fun x => by have := height_any (n : Int) x; rw [hhN, htt] at this; exact this)
  have HSm := Lib.hid (fun (x : World) (a b d : Nat) (h : Row x (some ⟨a, b, none⟩) n d 32 (hsL L)) (hb : Below w.heap.size w x) => same3_yes (some ⟨a, b, none⟩) (some ⟨bb, off, none⟩) n d c L x h (hr.later hb) (by omega))
  have HRw := Lib.hid (fun (x : World) (hb : Below w.heap.size w x) => hr.later hb)
  have HT := Lib.hid (fun (x : World) (hb : Below w.heap.size w x) => hT.later hb)
  have HLb0 := Lib.hid hL
  have HLt := Lib.hid htop
  have HLn := Lib.hid hln
  have HNs := Lib.hid (And.intro h1 (And.intro h2 (And.intro (htt ▸ hh : t ≤ 12) (And.intro htt hNN))))
  have HN0 := Lib.hid (show 0 < N by omega)
  have k1 : ¬ (60 : Int) < (n : Int) := by omega
  have k2 : ((n : Int) == 0) = false := by simp; omega
  have k3 : IntKind.i64.wrap ((t : Int) + 1) = (N : Int) := by rw [IntKind.wrap_i64]; omega
  have k4 : 0 < N := by omega
  have k5 : (0 : Int) < (N : Int) := by omega
  have k6 : IntKind.i64.wrap ((N : Int) - 1) = (t : Int) := by rw [IntKind.wrap_i64]; omega
  have k7 : (t : Int) < (N : Int) := by omega
  have k8 : t < N := by omega
  have k9 : 0 ≤ (t : Int) := by omega
  have hB := Below.refl w.heap.size w
  have hM := Lib.hid (mem_nil w)
  have hF : True := trivial
  clear hT hr hL h1 h2 hln hR ht hh hhN htt hNN htop
  go_enter Tryd.func7, Tryd.ntmps7
  go_wp2_with (first |
    (go_at_call 43; (with_reducible refine (HA.out _ hB).mono ?_); rintro e w1 ⟨rfl, hb⟩; have hB : Below w.heap.size w w1 := (by refine bl_then ?_ hb; (repeat (first | exact hB | refine bl_al ?_ _ | refine Below.setCell ?_ (by first | exact hgs | exact Nat.le_succ_of_le hgs | exact hgs2 | exact hgs3) _ | refine Below.drew ?_ | refine bl_drewN ?_ _))); (first | with_reducible have hM2 := Mem.later hb (hM.out) | with_reducible have hM2 := Mem.later hb (Mem.al (hM.out) _ _) | with_reducible have hM2 := Mem.later hb (Mem.al (Mem.al (hM.out) _ _) _ _) | with_reducible have hM2 := Mem.later hb (Mem.al (Mem.al (Mem.al (hM.out) _ _) _ _) _ _) | with_reducible have hM2 := Mem.later hb (Mem.al (Mem.al (Mem.al (Mem.al (hM.out) _ _) _ _) _ _) _ _) | with_reducible have hM2 := Mem.later hb (Mem.drew (hM.out)) | with_reducible have hM2 := Mem.later hb (Mem.drew (Mem.al (hM.out) _ _)) | with_reducible have hM2 := Mem.later hb (Mem.al (Mem.drew (hM.out)) _ _) | with_reducible have hM2 := Mem.later hb (Mem.al (Mem.drew (Mem.al (hM.out) _ _)) _ _) | with_reducible have hM2 := Mem.later hb (Mem.drew (Mem.al (Mem.al (hM.out) _ _) _ _)) | with_reducible have hM2 := Mem.later hb (Mem.al (Mem.al (Mem.drew (hM.out)) _ _) _ _) | with_reducible have hM2 := Mem.later hb (Mem.drew (Mem.drew (hM.out))) | with_reducible have hM2 := Mem.later hb (Mem.drew (Mem.al (Mem.drew (hM.out)) _ _)) | with_reducible have hM2 := Mem.later hb (Mem.drew (Mem.al (Mem.al (Mem.al (hM.out) _ _) _ _) _ _)) | with_reducible have hM2 := Mem.later hb (Mem.al (Mem.al (Mem.drew (Mem.al (hM.out) _ _)) _ _) _ _) | with_reducible have hM2 := Mem.later hb (Mem.drew (Mem.al (Mem.drew (Mem.al (hM.out) _ _)) _ _)) | with_reducible have hM2 := Mem.later hb (Mem.al (Mem.al (Mem.al (Mem.al (Mem.al (hM.out) _ _) _ _) _ _) _ _) _ _) | with_reducible have hM2 := Mem.later hb (Mem.al (Mem.al (Mem.al (Mem.al (Mem.al (Mem.al (hM.out) _ _) _ _) _ _) _ _) _ _) _ _) | with_reducible have hM2 := Mem.later hb (Mem.al (Mem.al (Mem.al (Mem.al (Mem.al (Mem.al (Mem.al (hM.out) _ _) _ _) _ _) _ _) _ _) _ _) _ _) | with_reducible have hM2 := Mem.later hb (Mem.al (Mem.al (Mem.al (Mem.al (Mem.al (Mem.al (Mem.al (Mem.al (hM.out) _ _) _ _) _ _) _ _) _ _) _ _) _ _) _ _)); (try simp only [World.size_alloc, size_drew] at hM2); clear hM; have hM := Lib.hid hM2; clear hF; have hF := hM2; (try simp only [Mem, cellsAt, World.size_alloc, Nat.zero_add, Nat.reduceAdd, and_true] at hF); clear hM2; clear hb) |
    (go_at_call 49; (with_reducible refine (HLv.out _ hB).mono ?_); rintro e w2 ⟨bl, ol, cp, A, B, C, rfl, hlv, hb⟩; have hB : Below w.heap.size w w2 := (by refine bl_then ?_ hb; (repeat (first | exact hB | refine bl_al ?_ _ | refine Below.setCell ?_ (by first | exact hgs | exact Nat.le_succ_of_le hgs | exact hgs2 | exact hgs3) _ | refine Below.drew ?_ | refine bl_drewN ?_ _))); (first | with_reducible have hM2 := Mem.later hb (hM.out) | with_reducible have hM2 := Mem.later hb (Mem.al (hM.out) _ _) | with_reducible have hM2 := Mem.later hb (Mem.al (Mem.al (hM.out) _ _) _ _) | with_reducible have hM2 := Mem.later hb (Mem.al (Mem.al (Mem.al (hM.out) _ _) _ _) _ _) | with_reducible have hM2 := Mem.later hb (Mem.al (Mem.al (Mem.al (Mem.al (hM.out) _ _) _ _) _ _) _ _) | with_reducible have hM2 := Mem.later hb (Mem.drew (hM.out)) | with_reducible have hM2 := Mem.later hb (Mem.drew (Mem.al (hM.out) _ _)) | with_reducible have hM2 := Mem.later hb (Mem.al (Mem.drew (hM.out)) _ _) | with_reducible have hM2 := Mem.later hb (Mem.al (Mem.drew (Mem.al (hM.out) _ _)) _ _) | with_reducible have hM2 := Mem.later hb (Mem.drew (Mem.al (Mem.al (hM.out) _ _) _ _)) | with_reducible have hM2 := Mem.later hb (Mem.al (Mem.al (Mem.drew (hM.out)) _ _) _ _) | with_reducible have hM2 := Mem.later hb (Mem.drew (Mem.drew (hM.out))) | with_reducible have hM2 := Mem.later hb (Mem.drew (Mem.al (Mem.drew (hM.out)) _ _)) | with_reducible have hM2 := Mem.later hb (Mem.drew (Mem.al (Mem.al (Mem.al (hM.out) _ _) _ _) _ _)) | with_reducible have hM2 := Mem.later hb (Mem.al (Mem.al (Mem.drew (Mem.al (hM.out) _ _)) _ _) _ _) | with_reducible have hM2 := Mem.later hb (Mem.drew (Mem.al (Mem.drew (Mem.al (hM.out) _ _)) _ _)) | with_reducible have hM2 := Mem.later hb (Mem.al (Mem.al (Mem.al (Mem.al (Mem.al (hM.out) _ _) _ _) _ _) _ _) _ _) | with_reducible have hM2 := Mem.later hb (Mem.al (Mem.al (Mem.al (Mem.al (Mem.al (Mem.al (hM.out) _ _) _ _) _ _) _ _) _ _) _ _) | with_reducible have hM2 := Mem.later hb (Mem.al (Mem.al (Mem.al (Mem.al (Mem.al (Mem.al (Mem.al (hM.out) _ _) _ _) _ _) _ _) _ _) _ _) _ _) | with_reducible have hM2 := Mem.later hb (Mem.al (Mem.al (Mem.al (Mem.al (Mem.al (Mem.al (Mem.al (Mem.al (hM.out) _ _) _ _) _ _) _ _) _ _) _ _) _ _) _ _)); (try simp only [World.size_alloc, size_drew] at hM2); clear hM; have hM := Lib.hid hM2; clear hF; have hF := hM2; (try simp only [Mem, cellsAt, World.size_alloc, Nat.zero_add, Nat.reduceAdd, and_true] at hF); clear hM2; clear hb; have HV2 := Lib.hid hlv; have hc0 : w2.cell? ⟨bl, ol, none⟩ = some (.slice (some ⟨A 0, B 0, none⟩) n (C 0)) := (hlv 0 HN0.out).1; have HRow0 := Lib.hid (show Row w2 (some ⟨A 0, B 0, none⟩) n (C 0) 32 (hsL L) from (hlv 0 HN0.out).2); clear hlv) |
    (go_at_call 56; (with_reducible refine (HHt.out _).mono ?_); rintro e w3 ⟨rfl, rfl⟩) |
    (go_at_call 51; (with_reducible refine (HSm.out _ _ _ _ HRow0.out hB).mono ?_); rintro e w4 ⟨rfl, hb⟩; have HV4 := Lib.hid (HV2.out.later hb); have hB : Below w.heap.size w w4 := (by refine bl_then ?_ hb; (repeat (first | exact hB | refine bl_al ?_ _ | refine Below.setCell ?_ (by first | exact hgs | exact Nat.le_succ_of_le hgs | exact hgs2 | exact hgs3) _ | refine Below.drew ?_ | refine bl_drewN ?_ _))); (first | with_reducible have hM2 := Mem.later hb (hM.out) | with_reducible have hM2 := Mem.later hb (Mem.al (hM.out) _ _) | with_reducible have hM2 := Mem.later hb (Mem.al (Mem.al (hM.out) _ _) _ _) | with_reducible have hM2 := Mem.later hb (Mem.al (Mem.al (Mem.al (hM.out) _ _) _ _) _ _) | with_reducible have hM2 := Mem.later hb (Mem.al (Mem.al (Mem.al (Mem.al (hM.out) _ _) _ _) _ _) _ _) | with_reducible have hM2 := Mem.later hb (Mem.drew (hM.out)) | with_reducible have hM2 := Mem.later hb (Mem.drew (Mem.al (hM.out) _ _)) | with_reducible have hM2 := Mem.later hb (Mem.al (Mem.drew (hM.out)) _ _) | with_reducible have hM2 := Mem.later hb (Mem.al (Mem.drew (Mem.al (hM.out) _ _)) _ _) | with_reducible have hM2 := Mem.later hb (Mem.drew (Mem.al (Mem.al (hM.out) _ _) _ _)) | with_reducible have hM2 := Mem.later hb (Mem.al (Mem.al (Mem.drew (hM.out)) _ _) _ _) | with_reducible have hM2 := Mem.later hb (Mem.drew (Mem.drew (hM.out))) | with_reducible have hM2 := Mem.later hb (Mem.drew (Mem.al (Mem.drew (hM.out)) _ _)) | with_reducible have hM2 := Mem.later hb (Mem.drew (Mem.al (Mem.al (Mem.al (hM.out) _ _) _ _) _ _)) | with_reducible have hM2 := Mem.later hb (Mem.al (Mem.al (Mem.drew (Mem.al (hM.out) _ _)) _ _) _ _) | with_reducible have hM2 := Mem.later hb (Mem.drew (Mem.al (Mem.drew (Mem.al (hM.out) _ _)) _ _)) | with_reducible have hM2 := Mem.later hb (Mem.al (Mem.al (Mem.al (Mem.al (Mem.al (hM.out) _ _) _ _) _ _) _ _) _ _) | with_reducible have hM2 := Mem.later hb (Mem.al (Mem.al (Mem.al (Mem.al (Mem.al (Mem.al (hM.out) _ _) _ _) _ _) _ _) _ _) _ _) | with_reducible have hM2 := Mem.later hb (Mem.al (Mem.al (Mem.al (Mem.al (Mem.al (Mem.al (Mem.al (hM.out) _ _) _ _) _ _) _ _) _ _) _ _) _ _) | with_reducible have hM2 := Mem.later hb (Mem.al (Mem.al (Mem.al (Mem.al (Mem.al (Mem.al (Mem.al (Mem.al (hM.out) _ _) _ _) _ _) _ _) _ _) _ _) _ _) _ _)); (try simp only [World.size_alloc, size_drew] at hM2); clear hM; have hM := Lib.hid hM2; clear hF; have hF := hM2; (try simp only [Mem, cellsAt, World.size_alloc, Nat.zero_add, Nat.reduceAdd, and_true] at hF); clear hM2; clear hb) |
    (go_at_call 44; (with_reducible refine (HR1.out _ hB).mono ?_); rintro e w5 ⟨rfl, hb⟩; have HV5 := Lib.hid (HV4.out.later hb); have hB : Below w.heap.size w w5 := (by refine bl_then ?_ hb; (repeat (first | exact hB | refine bl_al ?_ _ | refine Below.setCell ?_ (by first | exact hgs | exact Nat.le_succ_of_le hgs | exact hgs2 | exact hgs3) _ | refine Below.drew ?_ | refine bl_drewN ?_ _))); (first | with_reducible have hM2 := Mem.later hb (hM.out) | with_reducible have hM2 := Mem.later hb (Mem.al (hM.out) _ _) | with_reducible have hM2 := Mem.later hb (Mem.al (Mem.al (hM.out) _ _) _ _) | with_reducible have hM2 := Mem.later hb (Mem.al (Mem.al (Mem.al (hM.out) _ _) _ _) _ _) | with_reducible have hM2 := Mem.later hb (Mem.al (Mem.al (Mem.al (Mem.al (hM.out) _ _) _ _) _ _) _ _) | with_reducible have hM2 := Mem.later hb (Mem.drew (hM.out)) | with_reducible have hM2 := Mem.later hb (Mem.drew (Mem.al (hM.out) _ _)) | with_reducible have hM2 := Mem.later hb (Mem.al (Mem.drew (hM.out)) _ _) | with_reducible have hM2 := Mem.later hb (Mem.al (Mem.drew (Mem.al (hM.out) _ _)) _ _) | with_reducible have hM2 := Mem.later hb (Mem.drew (Mem.al (Mem.al (hM.out) _ _) _ _)) | with_reducible have hM2 := Mem.later hb (Mem.al (Mem.al (Mem.drew (hM.out)) _ _) _ _) | with_reducible have hM2 := Mem.later hb (Mem.drew (Mem.drew (hM.out))) | with_reducible have hM2 := Mem.later hb (Mem.drew (Mem.al (Mem.drew (hM.out)) _ _)) | with_reducible have hM2 := Mem.later hb (Mem.drew (Mem.al (Mem.al (Mem.al (hM.out) _ _) _ _) _ _)) | with_reducible have hM2 := Mem.later hb (Mem.al (Mem.al (Mem.drew (Mem.al (hM.out) _ _)) _ _) _ _) | with_reducible have hM2 := Mem.later hb (Mem.drew (Mem.al (Mem.drew (Mem.al (hM.out) _ _)) _ _)) | with_reducible have hM2 := Mem.later hb (Mem.al (Mem.al (Mem.al (Mem.al (Mem.al (hM.out) _ _) _ _) _ _) _ _) _ _) | with_reducible have hM2 := Mem.later hb (Mem.al (Mem.al (Mem.al (Mem.al (Mem.al (Mem.al (hM.out) _ _) _ _) _ _) _ _) _ _) _ _) | with_reducible have hM2 := Mem.later hb (Mem.al (Mem.al (Mem.al (Mem.al (Mem.al (Mem.al (Mem.al (hM.out) _ _) _ _) _ _) _ _) _ _) _ _) _ _) | with_reducible have hM2 := Mem.later hb (Mem.al (Mem.al (Mem.al (Mem.al (Mem.al (Mem.al (Mem.al (Mem.al (hM.out) _ _) _ _) _ _) _ _) _ _) _ _) _ _) _ _)); (try simp only [World.size_alloc, size_drew] at hM2); clear hM; have hM := Lib.hid hM2; clear hF; have hF := hM2; (try simp only [Mem, cellsAt, World.size_alloc, Nat.zero_add, Nat.reduceAdd, and_true] at hF); clear hM2; clear hb) |
    ((with_reducible_and_instances refine at_store 5 ?_); refine wpList_store_newV rfl (.tmp 5) (.tmp 45) 23 rfl _ (b8l R 32) _ Tryd.underlying23 rfl (by rw [b8l_len]; kernel_rfl) (by rw [b8l_len]; rfl) (b8l_one R 32) rfl (rfl) hM.out ?_; intro W6 hMW hbW; have hBW := bl_then hB hbW; obtain ⟨g6, hg6⟩ : ∃ b, w5.heap.size = b := ⟨_, rfl⟩; rw [hg6] at hMW; simp only [hg6]; clear hg6; clear hM hF hB; have hM := Lib.hid hMW; have hB := hBW; have hF : True := trivial; have HV6 := Lib.hid (HV5.out.later hbW); clear hMW hbW hBW))
  clear hc0
  have HB6 := Lib.hid hB
  have HM6 := Lib.hid hM.out
  go_loopw [7] (fun h wr => ∃ j : Nat, j ≤ N ∧ h = .int .i64 (j : Int) ∧ Below W6.heap.size W6 wr) (fun h _ => N + 1 - (intOf h).toNat)
  case atStart => exact ⟨0, Nat.zero_le _, rfl, Below.refl _ _⟩
  case round =>
    obtain ⟨j, hj, rfl, hbr⟩ := hrel
    by_cases hlt : j < N
    · obtain ⟨q, hq⟩ : ∃ q, wid n j = q := ⟨_, rfl⟩
      obtain ⟨aj, haj⟩ : ∃ x, A j = x := ⟨_, rfl⟩
      obtain ⟨bj, hbj⟩ : ∃ x, B j = x := ⟨_, rfl⟩
      obtain ⟨cj, hcj⟩ : ∃ x, C j = x := ⟨_, rfl⟩
      have hn := HNs.out
      have hqn : q ≤ 60 := by rw [← hq]; exact Nat.le_trans (wid_le n hn.2.1 j) hn.1
      have HCj := Lib.hid (show ∀ x : World, Below W6.heap.size W6 x → x.cell? ⟨bl, ol + j, none⟩ = some (.slice (some ⟨aj, bj, none⟩) q cj) from fun x hb => by have := ((HV6.out.later hb) j hlt).1; rw [haj, hbj, hcj, hq] at this; exact this)
      have HRj := Lib.hid (show ∀ x : World, Below W6.heap.size W6 x → Row x (some ⟨aj, bj, none⟩) q cj 32 (hsL (lev L j)) from fun x hb => by have := ((HV6.out.later hb) j hlt).2; rw [haj, hbj, hcj, hq] at this; exact this)
      have HW := Lib.hid (show ∀ x : World, Calls Tryd.prog 54 #[.int .i64 (n : Int), .int .i64 (j : Int)] x fun e w' => e = .returned (.int .i64 (q : Int)) ∧ x = w' from fun x => by
        have := width_any (n : Int) (j : Int) x
        rw [widN_nat _ j (by omega), Int.toNat_natCast, Nat.min_eq_left (by omega), hq] at this
        exact this)
      have k10 : (j : Int) < (N : Int) := by omega
      have k11 : 0 ≤ (j : Int) := by omega
      have k12 : j < N := hlt
      have k13 : IntKind.i64.wrap ((j : Int) + 1) = ((j + 1 : Nat) : Int) := by rw [IntKind.wrap_i64]; omega
      have HQ := Lib.hid (And.intro hq (And.intro hqn hn))
      clear haj hbj hcj hq hqn hn
      go_wp2
      refine wp_plan (fun x => x.cell? ⟨bl, ol + j, none⟩ = some (.slice (some ⟨aj, bj, none⟩) q cj)) [8] [0, 1, 2, 3, 4, 5, 6, 7, 8, 9] (by kernel_rfl) (by kernel_rfl) (HCj.out _ hbr.drew) (fun hHeld => ?_)
      iterate 8 (refine wpT_take rfl (by rfl) (by rfl) (by intro w' hSw; (try dsimp only [Mem, cellsAt] at hSw); go_simp; (try with_reducible rfl)) (by assumption) ?_; (try simp only [Act.put, List.setIfInBounds_toArray, List.set_cons_zero, List.set_cons_succ]))
      (refine wpT_step rfl (by rfl) (fun K hK => ?_); go_simp)
      ((with_reducible refine (HW.out _).mono ?_); rintro e v1 ⟨rfl, rfl⟩; (refine hK.out _ _ _ (fun _ h => h) (hHeld) (fun hHeld => ?_); clear hK; clear K; (try simp only [Act.put, List.setIfInBounds_toArray, List.set_cons_zero, List.set_cons_succ])))
      iterate 1 (refine wpT_take rfl (by rfl) (by rfl) (by intro w' hSw; (try dsimp only [Mem, cellsAt] at hSw); go_simp; (try with_reducible rfl)) (by assumption) ?_; (try simp only [Act.put, List.setIfInBounds_toArray, List.set_cons_zero, List.set_cons_succ]))
      (refine wpT_nil ?_)
      go_wp2
      go_loopw [8] (fun i wr => ∃ m : Nat, m ≤ q ∧ i = .int .i64 (m : Int) ∧ Below W6.heap.size W6 wr) (fun i _ => q + 1 - (intOf i).toNat)
      case atStart => exact ⟨0, Nat.zero_le _, rfl, hbr.drew⟩
      case round =>
        obtain ⟨i, hi, rfl, hbr2⟩ := hrel
        have hcj2 := HCj.out _ hbr2
        by_cases hiq : i < q
        · have k20 : (i : Int) < (q : Int) := by omega
          by_cases hj0 : j = 0
          · have k21 : ¬ (0 : Int) < (j : Int) := by omega
            have HJ0 := Lib.hid hj0
            clear hj0
            go_wp2
            refine ⟨⟨j + 1, by omega, by first | rfl | go_num | (congr 1), hbr2⟩, by simp [intOf]; omega⟩
          · obtain ⟨p, hp⟩ : ∃ p, j = p + 1 := ⟨j - 1, by omega⟩
            obtain ⟨qp, hqp⟩ : ∃ q, wid n p = q := ⟨_, rfl⟩
            obtain ⟨ap, hap⟩ : ∃ x, A p = x := ⟨_, rfl⟩
            obtain ⟨bp, hbp⟩ : ∃ x, B p = x := ⟨_, rfl⟩
            obtain ⟨cp2, hcp⟩ : ∃ x, C p = x := ⟨_, rfl⟩
            have hqq : q = (qp + 1) / 2 := by rw [← HQ.out.1, hp, wid, hqp]
            obtain ⟨a, ha⟩ : ∃ a, 2 * i = a := ⟨_, rfl⟩
            obtain ⟨d, hd⟩ : ∃ d, a + 1 = d := ⟨_, rfl⟩
            obtain ⟨e, he⟩ : ∃ e, qp - 1 = e := ⟨_, rfl⟩
            obtain ⟨b, hb⟩ : ∃ b, (if d < qp then d else e) = b := ⟨_, rfl⟩
            have hbq : b < qp := by rw [← hb]; split <;> omega
            have hqp60 : qp ≤ 60 := by rw [← hqp]; exact Nat.le_trans (wid_le n HQ.out.2.2.2.1 p) HQ.out.2.2.1
            have hlp : (lev L p).length = qp := by rw [lev_len, HLn.out, hqp]
            obtain ⟨fa, hfa⟩ : ∃ f, (lev L p)[a]? = some f := ⟨_, List.getElem?_eq_getElem (by omega)⟩
            obtain ⟨fb, hfb⟩ : ∃ f, (lev L p)[b]? = some f := ⟨_, List.getElem?_eq_getElem (by omega)⟩
            obtain ⟨f, hf⟩ : ∃ f, pairF fa fb = f := ⟨_, rfl⟩
            have hfj : (lev L j)[i]? = some f := by
              rw [hp, lev, upL_get _ i (by rw [hlp]; omega)]
              have e1 : sibN qp a = b := by
                rw [sib_even (by omega), ← hb, hd]
                split <;> omega
              unfold upE
              rw [hlp, ha, e1, List.getD_eq_getElem?_getD, List.getD_eq_getElem?_getD, hfa, hfb, ← hf]; rfl
            have hab : HB fa ∧ HB fb := ⟨lev_b HLb0.out p fa (List.mem_of_getElem? hfa), lev_b HLb0.out p fb (List.mem_of_getElem? hfb)⟩
            have HPr := Lib.hid (show ∀ x : World, Below W6.heap.size W6 x → Calls Tryd.prog 22 #[arr32 fa, arr32 fb] x fun e w' => e = .returned (arr32 f) ∧ Below x.heap.size x w' from
              fun x hbx => by have := pair_any fa fb hab.1 hab.2 x (HT.out x (bl_then HB6.out hbx)); rw [show shaF (shaF (catF fa 32 fb) 64) 32 = f from hf] at this; exact this)
            have HS20 := Lib.hid (show ∀ x : World, Below W6.heap.size W6 x → x.cell? ⟨bl, ol + j, none⟩ = some (.slice (some ⟨aj, bj, none⟩) q cj) ∧ x.cell? ⟨bl, ol + p, none⟩ = some (.slice (some ⟨ap, bp, none⟩) qp cp2) ∧ Row x (some ⟨aj, bj, none⟩) q cj 32 (hsL (lev L j)) ∧ Row x (some ⟨ap, bp, none⟩) qp cp2 32 (hsL (lev L p)) from
              fun x hbx => by
                have := (HV6.out.later hbx) p (by omega)
                rw [hap, hbp, hcp, hqp] at this
                exact ⟨HCj.out x hbx, this.1, HRj.out x hbx, this.2⟩)
            have hcp2 := (HS20.out _ hbr2).2.1
            have HLf := Lib.hid hfj
            have HLa := Lib.hid hfa
            have HLb := Lib.hid hfb
            have hne := neq_h10 f f false (by simp)
            have k21 : (0 : Int) < (j : Int) := by omega
            have hnn := HNs.out
            have k22 : IntKind.i64.wrap ((j : Int) - 1) = (p : Int) := by rw [IntKind.wrap_i64]; omega
            have k23 : (p : Int) < (N : Int) := by omega
            have k24 : p < N := by omega
            have k25 : 0 ≤ (p : Int) := by omega
            have k26 : IntKind.i64.wrap (2 * (i : Int)) = (a : Int) := by rw [IntKind.wrap_i64]; omega
            have k27 : IntKind.i64.wrap ((a : Int) + 1) = (d : Int) := by rw [IntKind.wrap_i64]; omega
            have k28 : IntKind.i64.wrap ((qp : Int) - 1) = (e : Int) := by rw [IntKind.wrap_i64]; omega
            have k29 : min (d : Int) (e : Int) = (b : Int) := by rw [← hb]; split <;> omega
            have k30 : (if (d : Int) < (e : Int) then (d : Int) else (e : Int)) = (b : Int) := by rw [← hb]; split <;> split <;> omega
            have k31 : decide ((qp : Int) ≤ (a : Int)) = false := by simp; omega
            have k42 : decide (qp ≤ a) = false := by simp; omega
            have k43 : ¬ qp ≤ a := by omega
            have k32 : ¬ (qp : Int) ≤ (a : Int) := by omega
            have k33 : (a : Int) < (qp : Int) := by omega
            have k34 : a < qp := by omega
            have k35 : 0 ≤ (a : Int) := by omega
            have k36 : (b : Int) < (qp : Int) := by omega
            have k37 : b < qp := hbq
            have k38 : 0 ≤ (b : Int) := by omega
            have k39 : 0 ≤ (i : Int) := by omega
            have k40 : i < q := hiq
            have k41 : IntKind.i64.wrap ((i : Int) + 1) = ((i + 1 : Nat) : Int) := by rw [IntKind.wrap_i64]; omega
            clear hnn hp hqp hap hbp hcp hqq ha hd he hb hbq hqp60 hlp hfa hfb hf hfj hab hj0
            go_wp2
            refine wp_plan (fun x => x.cell? ⟨bl, ol + j, none⟩ = some (.slice (some ⟨aj, bj, none⟩) q cj) ∧ x.cell? ⟨bl, ol + p, none⟩ = some (.slice (some ⟨ap, bp, none⟩) qp cp2) ∧ Row x (some ⟨aj, bj, none⟩) q cj 32 (hsL (lev L j)) ∧ Row x (some ⟨ap, bp, none⟩) qp cp2 32 (hsL (lev L p))) [32] [0, 1, 2, 3, 4, 5, 6, 7, 8, 9, 10, 11, 12, 13, 14, 15, 16, 17, 18, 19, 20, 21, 22, 23, 24, 25, 26, 27, 28, 29, 30, 31, 32, 33, 34] (by kernel_rfl) (by kernel_rfl) (HS20.out _ hbr2.drew) (fun hHeld => ?_)
            iterate 15 (refine wpT_take rfl (by rfl) (by rfl) (by intro w' hSw; (try dsimp only [Mem, cellsAt] at hSw); go_simp; (try with_reducible rfl)) (by assumption) ?_; (try simp only [Act.put, List.setIfInBounds_toArray, List.set_cons_zero, List.set_cons_succ]))
            (refine wpT_yield rfl (by rfl) (Go.yieldsIf_load_mid (by rfl) 23 (.tmp 103) rfl aj ((bj + i * 32)) rfl (b8l f 32) _ (fun w' h' => hs_range h'.2.2.1 HLf.out) Tryd.underlying23 rfl (by rw [b8l_len]; kernel_rfl)) (by assumption) ?_; (try simp only [Act.put, List.setIfInBounds_toArray, List.set_cons_zero, List.set_cons_succ]))
            iterate 7 (refine wpT_take rfl (by rfl) (by rfl) (by intro w' hSw; (try dsimp only [Mem, cellsAt] at hSw); go_simp; (try with_reducible rfl)) (by assumption) ?_; (try simp only [Act.put, List.setIfInBounds_toArray, List.set_cons_zero, List.set_cons_succ]))
            (refine wpT_yield rfl (by rfl) (Go.yieldsIf_load_mid (by rfl) 23 (.tmp 111) rfl ap ((bp + a * 32)) rfl (b8l fa 32) _ (fun w' h' => hs_range h'.2.2.2 HLa.out) Tryd.underlying23 rfl (by rw [b8l_len]; kernel_rfl)) (by assumption) ?_; (try simp only [Act.put, List.setIfInBounds_toArray, List.set_cons_zero, List.set_cons_succ]))
            iterate 7 (refine wpT_take rfl (by rfl) (by rfl) (by intro w' hSw; (try dsimp only [Mem, cellsAt] at hSw); go_simp; (try with_reducible rfl)) (by assumption) ?_; (try simp only [Act.put, List.setIfInBounds_toArray, List.set_cons_zero, List.set_cons_succ]))
            (refine wpT_yield rfl (by rfl) (Go.yieldsIf_load_mid (by rfl) 23 (.tmp 119) rfl ap ((bp + b * 32)) rfl (b8l fb 32) _ (fun w' h' => hs_range h'.2.2.2 HLb.out) Tryd.underlying23 rfl (by rw [b8l_len]; kernel_rfl)) (by assumption) ?_; (try simp only [Act.put, List.setIfInBounds_toArray, List.set_cons_zero, List.set_cons_succ]))
            (refine wpT_step rfl (by rfl) (fun K hK => ?_); go_simp)
            ((with_reducible refine (HPr.out _ hbr2.drew).mono ?_); rintro e v1 ⟨rfl, hb⟩; have hbr3 := bl_then hbr2.drew hb; clear hb; (refine hK.out _ _ _ (fun _ h => h) (HS20.out _ hbr3) (fun hHeld => ?_); clear hK; clear K; (try simp only [Act.put, List.setIfInBounds_toArray, List.set_cons_zero, List.set_cons_succ])))
            iterate 2 (refine wpT_take rfl (by rfl) (by rfl) (by intro w' hSw; (try dsimp only [Mem, cellsAt] at hSw); go_simp; (try with_reducible rfl)) (by assumption) ?_; (try simp only [Act.put, List.setIfInBounds_toArray, List.set_cons_zero, List.set_cons_succ]))
            (refine wpT_nil ?_)
            go_wp2
            refine ⟨⟨i + 1, by omega, by first | rfl | go_num | (congr 1), hbr3⟩, by simp [intOf]; omega⟩
        · have k20 : ¬ (i : Int) < (q : Int) := by omega
          go_wp2
          refine ⟨⟨j + 1, by omega, by first | rfl | go_num | (congr 1), hbr2⟩, by simp [intOf]; omega⟩
    · have hjN : ¬ (j : Int) < (N : Int) := by omega
      obtain ⟨a9, ha9⟩ : ∃ x, A t = x := ⟨_, rfl⟩
      obtain ⟨b9, hb9⟩ : ∃ x, B t = x := ⟨_, rfl⟩
      obtain ⟨c9, hc9⟩ : ∃ x, C t = x := ⟨_, rfl⟩
      have HS22 := Lib.hid (show ∀ x : World, Below W6.heap.size W6 x → x.cell? ⟨bl, ol + t, none⟩ = some (.slice (some ⟨a9, b9, none⟩) 1 c9) ∧ Row x (some ⟨a9, b9, none⟩) 1 c9 32 (hsL (lev L t)) ∧ Mem x [(g6, b8l R 32)] from fun x hb => by
        have := (HV6.out.later hb) t k8
        have h3 := wid_top (n := n) HNs.out.2.1
        rw [HNs.out.2.2.2.1] at h3
        rw [ha9, hb9, hc9, h3] at this
        exact ⟨this.1, this.2, Mem.later hb HM6.out⟩)
      have hEq := eq_h R R true (by simp)
      clear ha9 hb9 hc9
      go_wp2
      refine wp_plan (fun x => x.cell? ⟨bl, ol + t, none⟩ = some (.slice (some ⟨a9, b9, none⟩) 1 c9) ∧ Row x (some ⟨a9, b9, none⟩) 1 c9 32 (hsL (lev L t)) ∧ Mem x [(g6, b8l R 32)]) [] [0, 1, 2, 3, 4, 5, 6, 7, 8, 9, 10, 11, 12, 13, 14, 15, 16, 17, 18, 19, 20, 21, 22, 23] (by kernel_rfl) (by kernel_rfl) (HS22.out _ hbr.drew) (fun hHeld => ?_)
      iterate 19 (refine wpT_take rfl (by rfl) (by rfl) (by intro w' hSw; (try dsimp only [Mem, cellsAt] at hSw); go_simp; (try with_reducible rfl)) (by assumption) ?_; (try simp only [Act.put, List.setIfInBounds_toArray, List.set_cons_zero, List.set_cons_succ]))
      (refine wpT_yield rfl (by rfl) (Go.yieldsIf_load_mid (by rfl) 23 (.tmp 142) rfl a9 (b9) rfl (b8l R 32) _ (fun w' h' => hs_range00 h'.2.1 HLt.out) Tryd.underlying23 rfl (by rw [b8l_len]; kernel_rfl)) (by assumption) ?_; (try simp only [Act.put, List.setIfInBounds_toArray, List.set_cons_zero, List.set_cons_succ]))
      (refine wpT_yield rfl (by rfl) (Go.yieldsIf_load_mid (by rfl) 23 (.tmp 5) rfl g6 (0) rfl (b8l R 32) _ (fun w' h' => rangeAt_of h'.2.2.1.2.2) Tryd.underlying23 rfl (by rw [b8l_len]; kernel_rfl)) (by assumption) ?_; (try simp only [Act.put, List.setIfInBounds_toArray, List.set_cons_zero, List.set_cons_succ]))
      iterate 3 (refine wpT_take rfl (by rfl) (by rfl) (by intro w' hSw; (try dsimp only [Mem, cellsAt] at hSw); go_simp; (try with_reducible rfl)) (by assumption) ?_; (try simp only [Act.put, List.setIfInBounds_toArray, List.set_cons_zero, List.set_cons_succ]))
      (refine wpT_nil ?_)
      go_wp2
      go_ret
      exact ⟨rfl, bl_then HB6.out hbr.drew⟩
end Go.Proofs.YtddcceifblpmbaaDoor
