/- SHA-256: Block. (hM) -/
import Derived.Test.YtlfabchlblgmbaaDoorSh2
namespace Go.Proofs.YtlfabchlblgmbaaDoor
set_option linter.unusedVariables false
set_option linter.unusedSimpArgs false
open Go.RowKit

/-- the constants lie in their variables -/
def Tab (w : World) : Prop := (0 < w.heap.size ∧ ∀ i, i < 64 → w.cell? ⟨0, i, none⟩ = some (.int .u32 (kF i))) ∧ (1 < w.heap.size ∧ ∀ i, i < 8 → w.cell? ⟨1, i, none⟩ = some (.int .u32 (hF0 i)))
theorem Tab.later {w w' : World} (h : Tab w) (hb : Below w.heap.size w w') : Tab w' :=
  ⟨⟨Nat.lt_of_lt_of_le h.1.1 hb.size, fun i hi => (hb.cell (p := ⟨0, i, none⟩) h.1.1).trans (h.1.2 i hi)⟩, ⟨Nat.lt_of_lt_of_le h.2.1 hb.size, fun i hi => (hb.cell (p := ⟨1, i, none⟩) h.2.1).trans (h.2.2 i hi)⟩⟩

theorem add32_mod (a b : Int) : add32 a b = (a + b) % 4294967296 := IntKind.wrap_u32 _
abbrev arrS (s : S8) : Value := .agg #[.int .u32 s.a, .int .u32 s.b, .int .u32 s.c, .int .u32 s.d, .int .u32 s.e, .int .u32 s.f, .int .u32 s.g, .int .u32 s.h]
def BlkRel (w : World) (s : S8) (W : Nat → Int) (gw : Nat) (a b c d e f g h i : Value) (wr : World) : Prop :=
  ∃ (j : Nat) (t : S8), j ≤ 64 ∧ t = rnds W s j ∧ a = .int .u32 t.a ∧ b = .int .u32 t.b ∧ c = .int .u32 t.c ∧ d = .int .u32 t.d ∧ e = .int .u32 t.e ∧ f = .int .u32 t.f ∧ g = .int .u32 t.g ∧ h = .int .u32 t.h ∧ i = .int .i64 j ∧
    Below w.heap.size w wr ∧ Mem wr [(gw, u32l W 64), (w.heap.size + 1, [.int .u32 0, .int .u32 0, .int .u32 0, .int .u32 0, .int .u32 0, .int .u32 0, .int .u32 0, .int .u32 0]), (w.heap.size, s.l)]

set_option maxRecDepth 100000 in
set_option maxHeartbeats 4000000 in
theorem block_any (s : S8) (ao : Option Addr) (cap : Nat) (f : Nat → Int) (w : World) (hT : Tab w) (hr : Row w ao 64 cap 1 (bcells f 64)) (hf : ∀ i, 0 ≤ f i ∧ f i < 256) :
    Calls Tryd.prog 25 #[arrS s, .slice ao 64 cap] w fun e w' => e = .returned (arrS (blk s f)) ∧ Below w.heap.size w w' := by
  have HT := Lib.hid hT
  have HW := Lib.hid (fun (x : World) (hb : Below w.heap.size w x) => words_any ao cap f x (hr.later hb) hf)
  obtain ⟨W, hW⟩ : ∃ W, wds f 48 = W := ⟨_, rfl⟩
  rw [hW] at HW
  have HE := Lib.hid hW
  clear hr hf hT hW
  obtain ⟨a0, b0, c0, d0, e0, f0, g0, h0⟩ := s
  have hB := Below.refl w.heap.size w
  have hM := Lib.hid (mem_nil w)
  have hF : True := trivial
  go_enter Tryd.func25, Tryd.ntmps25
  go_wp2_with (first | (go_at_call 64; ((with_reducible refine (HW.out _ (by (repeat (first | exact hB | refine bl_al ?_ _ | refine Below.setCell ?_ (by first | exact hgs | exact Nat.le_succ_of_le hgs | exact hgs2 | exact hgs3) _ | refine Below.drew ?_ | refine bl_drewN ?_ _)))).mono ?_); rintro e w1 ⟨rfl, hb⟩; have hB : Below w.heap.size w w1 := (by refine bl_then ?_ hb; (repeat (first | exact hB | refine bl_al ?_ _ | refine Below.setCell ?_ (by first | exact hgs | exact Nat.le_succ_of_le hgs | exact hgs2 | exact hgs3) _ | refine Below.drew ?_ | refine bl_drewN ?_ _))); (first | with_reducible have hM2 := Mem.later hb (hM.out) | with_reducible have hM2 := Mem.later hb (Mem.al (hM.out) _ _) | with_reducible have hM2 := Mem.later hb (Mem.al (Mem.al (hM.out) _ _) _ _) | with_reducible have hM2 := Mem.later hb (Mem.al (Mem.al (Mem.al (hM.out) _ _) _ _) _ _) | with_reducible have hM2 := Mem.later hb (Mem.al (Mem.al (Mem.al (Mem.al (hM.out) _ _) _ _) _ _) _ _) | with_reducible have hM2 := Mem.later hb (Mem.drew (hM.out)) | with_reducible have hM2 := Mem.later hb (Mem.drew (Mem.al (hM.out) _ _)) | with_reducible have hM2 := Mem.later hb (Mem.al (Mem.drew (hM.out)) _ _) | with_reducible have hM2 := Mem.later hb (Mem.al (Mem.drew (Mem.al (hM.out) _ _)) _ _) | with_reducible have hM2 := Mem.later hb (Mem.drew (Mem.al (Mem.al (hM.out) _ _) _ _)) | with_reducible have hM2 := Mem.later hb (Mem.al (Mem.al (Mem.drew (hM.out)) _ _) _ _) | with_reducible have hM2 := Mem.later hb (Mem.drew (Mem.drew (hM.out))) | with_reducible have hM2 := Mem.later hb (Mem.drew (Mem.al (Mem.drew (hM.out)) _ _)) | with_reducible have hM2 := Mem.later hb (Mem.drew (Mem.al (Mem.al (Mem.al (hM.out) _ _) _ _) _ _)) | with_reducible have hM2 := Mem.later hb (Mem.al (Mem.al (Mem.drew (Mem.al (hM.out) _ _)) _ _) _ _) | with_reducible have hM2 := Mem.later hb (Mem.drew (Mem.al (Mem.drew (Mem.al (hM.out) _ _)) _ _)) | with_reducible have hM2 := Mem.later hb (Mem.al (Mem.al (Mem.al (Mem.al (Mem.al (hM.out) _ _) _ _) _ _) _ _) _ _) | with_reducible have hM2 := Mem.later hb (Mem.al (Mem.al (Mem.al (Mem.al (Mem.al (Mem.al (hM.out) _ _) _ _) _ _) _ _) _ _) _ _) | with_reducible have hM2 := Mem.later hb (Mem.al (Mem.al (Mem.al (Mem.al (Mem.al (Mem.al (Mem.al (hM.out) _ _) _ _) _ _) _ _) _ _) _ _) _ _) | with_reducible have hM2 := Mem.later hb (Mem.al (Mem.al (Mem.al (Mem.al (Mem.al (Mem.al (Mem.al (Mem.al (hM.out) _ _) _ _) _ _) _ _) _ _) _ _) _ _) _ _)); (try simp only [World.size_alloc, size_drew] at hM2); clear hM; have hM := Lib.hid hM2; clear hF; have hF := hM2; (try simp only [Mem, cellsAt, World.size_alloc, Nat.zero_add, Nat.reduceAdd, and_true] at hF); clear hM2; clear hb)) | (refine wpList_store_newV rfl (.tmp 5) (.tmp 26) 82 rfl _ (u32l W 64) _ Tryd.underlying82 rfl (by rw [u32l_len]; kernel_rfl) (by rw [u32l_len]; rfl) (u32l_one W 64) rfl rfl hM.out ?_; intro W2 hMW hbW; have hBW := bl_then hB hbW; clear hM hF hB; have hM := Lib.hid hMW; have hB := hBW; clear hMW hbW hBW))
  obtain ⟨gw, hgw⟩ : ∃ g, w1.heap.size = g := ⟨_, rfl⟩
  rw [hgw] at hM
  simp only [hgw]
  clear hgw
  have hS8 : Hid (Mem W2 [(w.heap.size, [.int .u32 a0, .int .u32 b0, .int .u32 c0, .int .u32 d0, .int .u32 e0, .int .u32 f0, .int .u32 g0, .int .u32 h0])]) := ⟨hM.out.2.2.1, trivial⟩
  refine wp_plan (fun x => Mem x [(w.heap.size, [.int .u32 a0, .int .u32 b0, .int .u32 c0, .int .u32 d0, .int .u32 e0, .int .u32 f0, .int .u32 g0, .int .u32 h0])]) [] [0, 1, 2, 3, 4, 5, 6, 7, 8, 9, 10, 11] (by kernel_rfl) (by kernel_rfl) (Mem.drew hS8.out) (fun hHeld => ?_)
  iterate 12 (refine wpT_take rfl (by rfl) (by rfl) (by intro w' hSw; (try dsimp only [Mem, cellsAt] at hSw); go_simp; (try with_reducible rfl)) (by assumption) ?_; (try simp only [Act.put, List.setIfInBounds_toArray, List.set_cons_zero, List.set_cons_succ]))
  (refine wpT_nil ?_)
  go_wp2
  refine wp_plan (fun x => Mem x [(w.heap.size, [.int .u32 a0, .int .u32 b0, .int .u32 c0, .int .u32 d0, .int .u32 e0, .int .u32 f0, .int .u32 g0, .int .u32 h0])]) [] [0, 1, 2, 3, 4, 5, 6, 7, 8, 9, 10, 11] (by kernel_rfl) (by kernel_rfl) (Mem.drew (Mem.drew hS8.out)) (fun hHeld => ?_)
  iterate 12 (refine wpT_take rfl (by rfl) (by rfl) (by intro w' hSw; (try dsimp only [Mem, cellsAt] at hSw); go_simp; (try with_reducible rfl)) (by assumption) ?_; (try simp only [Act.put, List.setIfInBounds_toArray, List.set_cons_zero, List.set_cons_succ]))
  (refine wpT_nil ?_)
  go_wp2
  go_loopw [6, 7, 8, 9, 10, 11, 12, 13, 43] (fun a b c d e f g h i wr => BlkRel w ⟨a0, b0, c0, d0, e0, f0, g0, h0⟩ W gw a b c d e f g h i wr) (fun _ _ _ _ _ _ _ _ i _ => 64 - (intOf i).toNat)
  case atStart =>
    refine ⟨0, ⟨a0, b0, c0, d0, e0, f0, g0, h0⟩, Nat.zero_le _, rfl, rfl, rfl, rfl, rfl, rfl, rfl, rfl, rfl, rfl, by (repeat (first | exact hB | refine bl_al ?_ _ | refine Below.setCell ?_ (by first | exact hgs | exact Nat.le_succ_of_le hgs | exact hgs2 | exact hgs3) _ | refine Below.drew ?_ | refine bl_drewN ?_ _)), ?_⟩
    exact Mem.drew (Mem.drew hM.out)
  case round =>
    clear hM hS8 hB
    obtain ⟨j, t, hj, ht, rfl, rfl, rfl, rfl, rfl, rfl, rfl, rfl, rfl, hB, hm⟩ := hrel
    have HM3 := Lib.hid hm
    by_cases hlt : j < 64
    · obtain ⟨x, hx⟩ : ∃ x, W j = x := ⟨_, rfl⟩
      obtain ⟨κ, hκ⟩ : ∃ k, kF j = k := ⟨_, rfl⟩
      have hst : rnds W ⟨a0, b0, c0, d0, e0, f0, g0, h0⟩ (j + 1) = rnd κ x t := by
        rw [← hx, ← hκ, ht]
        rfl
      have cx := cellsAt_get hm.1.2.2 (u32l_get W 64 j hlt)
      rw [hx] at cx
      have ck := (HT.out.later hB).1.2 j hlt
      rw [hκ] at ck
      have hj64 : (j : Int) < 64 := by omega
      have hsg : IntKind.u32.signed = false := rfl
      have HC := Lib.hid (And.intro ck cx)
      have HS := Lib.hid hst
      obtain ⟨a, b, c, d, e, f', g, h⟩ := t
      dsimp only
      clear hm hst hx hκ cx ck ht
      go_wp2_with (go_at_call 65; first | ((with_reducible refine (turned_lit _ 6 6 rfl (by decide) _).mono ?_); rintro e w1 ⟨rfl, rfl⟩) | ((with_reducible refine (turned_lit _ 11 11 rfl (by decide) _).mono ?_); rintro e w1 ⟨rfl, rfl⟩) | ((with_reducible refine (turned_lit _ 25 25 rfl (by decide) _).mono ?_); rintro e w1 ⟨rfl, rfl⟩))
      refine wp_plan (fun q => q.cell? ⟨0, j, none⟩ = some (.int .u32 κ) ∧ q.cell? ⟨gw, j, none⟩ = some (.int .u32 x)) [] [0, 1, 2, 3, 4, 5, 6, 7, 8, 9, 10, 11, 12, 13] (by kernel_rfl) (by kernel_rfl) HC.out (fun hHeld => ?_)
      iterate 14 (refine wpT_take rfl (by rfl) (by rfl) (by intro w' hSw; (try dsimp only [Mem, cellsAt] at hSw); go_simp; (try with_reducible rfl)) (by assumption) ?_; (try simp only [Act.put, List.setIfInBounds_toArray, List.set_cons_zero, List.set_cons_succ]))
      (refine wpT_nil ?_)
      go_wp2_with (go_at_call 65; first | ((with_reducible refine (turned_lit _ 2 2 rfl (by decide) _).mono ?_); rintro e w1 ⟨rfl, rfl⟩) | ((with_reducible refine (turned_lit _ 13 13 rfl (by decide) _).mono ?_); rintro e w1 ⟨rfl, rfl⟩) | ((with_reducible refine (turned_lit _ 22 22 rfl (by decide) _).mono ?_); rintro e w1 ⟨rfl, rfl⟩))
      refine ⟨⟨j + 1, _, by omega, HS.out.symm, rfl, rfl, rfl, rfl, rfl, rfl, rfl, rfl, by go_num, by (repeat (first | exact hB | refine bl_al ?_ _ | refine Below.setCell ?_ (by first | exact hgs | exact Nat.le_succ_of_le hgs | exact hgs2 | exact hgs3) _ | refine Below.drew ?_ | refine bl_drewN ?_ _)), Mem.drew HM3.out⟩, by simp [intOf]; omega⟩
    · have hje : j = 64 := by omega
      subst hje
      have h64 : ¬ ((64 : Nat) : Int) < 64 := by omega
      rw [HE.out.symm] at ht
      obtain ⟨a, b, c, d, e, f', g, h⟩ := t
      have HTt := Lib.hid ht
      clear ht
      have hF : Mem wr [(w.heap.size + 1, [.int .u32 0, .int .u32 0, .int .u32 0, .int .u32 0, .int .u32 0, .int .u32 0, .int .u32 0, .int .u32 0]), (w.heap.size, [.int .u32 a0, .int .u32 b0, .int .u32 c0, .int .u32 d0, .int .u32 e0, .int .u32 f0, .int .u32 g0, .int .u32 h0])] := hm.2
      simp only [Mem, cellsAt, Nat.zero_add, Nat.reduceAdd, and_true] at hF
      have HMe : Hid (Mem wr [(w.heap.size + 1, [.int .u32 0, .int .u32 0, .int .u32 0, .int .u32 0, .int .u32 0, .int .u32 0, .int .u32 0, .int .u32 0]), (w.heap.size, [.int .u32 a0, .int .u32 b0, .int .u32 c0, .int .u32 d0, .int .u32 e0, .int .u32 f0, .int .u32 g0, .int .u32 h0])]) := hm.2
      have hgs : w.heap.size ≤ w.heap.size + 1 := Nat.le_succ _
      dsimp only
      obtain ⟨za, hza⟩ : ∃ z, IntKind.u32.wrap (a0 + a) = z := ⟨_, rfl⟩
      obtain ⟨zb, hzb⟩ : ∃ z, IntKind.u32.wrap (b0 + b) = z := ⟨_, rfl⟩
      obtain ⟨zc, hzc⟩ : ∃ z, IntKind.u32.wrap (c0 + c) = z := ⟨_, rfl⟩
      obtain ⟨zd, hzd⟩ : ∃ z, IntKind.u32.wrap (d0 + d) = z := ⟨_, rfl⟩
      obtain ⟨ze, hze⟩ : ∃ z, IntKind.u32.wrap (e0 + e) = z := ⟨_, rfl⟩
      obtain ⟨zf, hzf⟩ : ∃ z, IntKind.u32.wrap (f0 + f') = z := ⟨_, rfl⟩
      obtain ⟨zg, hzg⟩ : ∃ z, IntKind.u32.wrap (g0 + g) = z := ⟨_, rfl⟩
      obtain ⟨zh, hzh⟩ : ∃ z, IntKind.u32.wrap (h0 + h) = z := ⟨_, rfl⟩
      have HZ := Lib.hid (And.intro hza (And.intro hzb (And.intro hzc (And.intro hzd (And.intro hze (And.intro hzf (And.intro hzg (hzh))))))))
      clear hm HM3 HW HT
      go_wp2
      have hR := Mem.set8 za zb zc zd ze zf zg zh (by intro p hp; simp at hp; subst hp; simp) HMe.out
      have hBl := bl_set8 za zb zc zd ze zf zg zh hgs hB
      have hRr := rangeAt_of hR.1.2.2
      clear hF hR
      change bodyPost _ _ _ _ _ (wset8 wr (w.heap.size + 1) za zb zc zd ze zf zg zh)
      generalize wset8 wr (w.heap.size + 1) za zb zc zd ze zf zg zh = wf at *
      have hl := Go.run_loadVar_mid (P := Tryd.prog) wf (w.heap.size + 1) 0 24 [.int .u32 za, .int .u32 zb, .int .u32 zc, .int .u32 zd, .int .u32 ze, .int .u32 zf, .int .u32 zg, .int .u32 zh] _ hRr Tryd.underlying24 rfl (by kernel_rfl)
      refine bodyPost_ret (v := .agg #[.int .u32 za, .int .u32 zb, .int .u32 zc, .int .u32 zd, .int .u32 ze, .int .u32 zf, .int .u32 zg, .int .u32 zh]) (by simp [results, Tryd.results25, asAddr, hl, Act.put]) rfl ?_
      refine ⟨?_, hBl⟩
      have hb : blk ⟨a0, b0, c0, d0, e0, f0, g0, h0⟩ f = ⟨add32 a0 a, add32 b0 b, add32 c0 c, add32 d0 d, add32 e0 e, add32 f0 f', add32 g0 g, add32 h0 h⟩ := by
        unfold blk
        dsimp only
        rw [← HTt.out]
      rw [hb]
      obtain ⟨ka, kb, kc, kd, ke, kf, kg, kh⟩ := HZ.out
      simp only [add32, ka, kb, kc, kd, ke, kf, kg, kh]
end Go.Proofs.YtlfabchlblgmbaaDoor
