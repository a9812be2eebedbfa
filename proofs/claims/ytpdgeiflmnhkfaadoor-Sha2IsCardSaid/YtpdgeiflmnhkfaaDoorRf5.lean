/- florinref02: Write of a state that may not be (made by gen_rf4.py). (hM) -/
import Derived.Test.YtpdgeiflmnhkfaaDoorRf4
namespace Go.Proofs.YtpdgeiflmnhkfaaDoor
set_option linter.unusedVariables false
set_option linter.unusedSimpArgs false
open Go.RowKit

set_option maxRecDepth 100000 in
set_option maxHeartbeats 1000000 in
theorem rwrite_from (v0 : S8) (vao : Option Addr) (vn vc : Nat) (vN : Int) (s : S8) (a1 a2 : Option Addr) (n1 c1 n2 c2 : Nat) (N : Int) (f1 f2 : Nat → Int) (w : World) (hS : ∀ x, Calls Tryd.prog 35 #[stV v0 (.slice vao vn vc) vN] x fun e w' => e = .returned (.bool false) ∧ Below x.heap.size x w')
    (hSt : ∀ x, Calls Tryd.prog 104 #[] x fun e w' => e = .returned (stV s (.slice a1 n1 c1) N) ∧ Below x.heap.size x w') (hn1 : n1 ≤ 64)
    (hr1 : Row w a1 n1 c1 1 (bcells f1 n1)) (hr2 : Row w a2 n2 c2 1 (bcells f2 n2)) (hf1 : ∀ i, 0 ≤ f1 i ∧ f1 i < 256) (hf2 : ∀ i, 0 ≤ f2 i ∧ f2 i < 256) (hn : n2 ≤ 70368744177664) (hN : 0 ≤ N ∧ N < WI) :
    Calls Tryd.prog 27 #[stV v0 (.slice vao vn vc) vN, .slice a2 n2 c2] w fun e w' => ∃ ao cap, e = .returned (stV (blks s (catF f1 n1 f2) ((n1 + n2) / 64)) (.slice ao ((n1 + n2) % 64) cap) (IntKind.u64.wrap (N + (n2 : Int)))) ∧
      Row w' ao ((n1 + n2) % 64) cap 1 (bcells (fun i => catF f1 n1 f2 (64 * ((n1 + n2) / 64) + i)) ((n1 + n2) % 64)) ∧ Below w.heap.size w w' := by
  have HSn := Lib.hid hS
  have HSt := Lib.hid hSt
  have HDj : Hid (∀ p ∈ [(w.heap.size + 1, z10)], p.1 ≠ w.heap.size) := by
    intro p hp; simp at hp; subst hp; simp
  obtain ⟨T, hTT⟩ : ∃ T, catF f1 n1 f2 = T := ⟨_, rfl⟩
  obtain ⟨tot, htot⟩ : ∃ t, n1 + n2 = t := ⟨_, rfl⟩
  obtain ⟨N2, hN2⟩ : ∃ z, IntKind.u64.wrap (N + (n2 : Int)) = z := ⟨_, rfl⟩
  have hTb : ∀ i, 0 ≤ T i ∧ T i < 256 := fun i => by
    rw [← hTT]
    unfold catF
    split
    · exact hf1 i
    · exact hf2 _
  have hcat : bcells f1 n1 ++ bcells f2 n2 = bcells T tot := by rw [catF_cells, hTT, htot]
  have hw2 : IntKind.u64.wrap (n2 : Int) = (n2 : Int) := by rw [IntKind.wrap_u64]; omega
  have hnb : n1 + n2 ≤ 140737488355328 := by omega
  have HR1 := Lib.hid hr1
  have HR2 := Lib.hid hr2
  have HC := Lib.hid (And.intro hcat (And.intro hnb (And.intro htot hN2)))
  have HTb := Lib.hid hTb
  rw [hTT, htot]
  clear hS hSt hn1 hr1 hr2 hf1 hf2 hn hN hTT htot hTb hcat hnb
  obtain ⟨a0, b0, c0, d0, e0, f0, g0, h0⟩ := s
  obtain ⟨p0, p1, p2, p3, p4, p5, p6, p7⟩ := v0
  have hB := Below.refl w.heap.size w
  have hM := Lib.hid (mem_nil w)
  have hF : True := trivial
  go_enter Tryd.func27, Tryd.ntmps27
  go_wp2_with (first |
  (go_at_call 35; (with_reducible refine (HSn.out _).mono ?_); rintro e w1 ⟨rfl, hb⟩; have hB : Below w.heap.size w w1 := (by refine bl_then ?_ hb; (repeat (first | exact hB | refine bl_al ?_ _ | refine Below.setCell ?_ (by first | exact hgs | exact Nat.le_succ_of_le hgs | exact hgs2 | exact hgs3) _ | refine Below.drew ?_ | refine bl_drewN ?_ _))); (first | with_reducible have hM2 := Mem.later hb (hM.out) | with_reducible have hM2 := Mem.later hb (Mem.al (hM.out) _ _) | with_reducible have hM2 := Mem.later hb (Mem.al (Mem.al (hM.out) _ _) _ _) | with_reducible have hM2 := Mem.later hb (Mem.al (Mem.al (Mem.al (hM.out) _ _) _ _) _ _) | with_reducible have hM2 := Mem.later hb (Mem.al (Mem.al (Mem.al (Mem.al (hM.out) _ _) _ _) _ _) _ _) | with_reducible have hM2 := Mem.later hb (Mem.drew (hM.out)) | with_reducible have hM2 := Mem.later hb (Mem.drew (Mem.al (hM.out) _ _)) | with_reducible have hM2 := Mem.later hb (Mem.al (Mem.drew (hM.out)) _ _) | with_reducible have hM2 := Mem.later hb (Mem.al (Mem.drew (Mem.al (hM.out) _ _)) _ _) | with_reducible have hM2 := Mem.later hb (Mem.drew (Mem.al (Mem.al (hM.out) _ _) _ _)) | with_reducible have hM2 := Mem.later hb (Mem.al (Mem.al (Mem.drew (hM.out)) _ _) _ _) | with_reducible have hM2 := Mem.later hb (Mem.drew (Mem.drew (hM.out))) | with_reducible have hM2 := Mem.later hb (Mem.drew (Mem.al (Mem.drew (hM.out)) _ _)) | with_reducible have hM2 := Mem.later hb (Mem.drew (Mem.al (Mem.al (Mem.al (hM.out) _ _) _ _) _ _)) | with_reducible have hM2 := Mem.later hb (Mem.al (Mem.al (Mem.drew (Mem.al (hM.out) _ _)) _ _) _ _) | with_reducible have hM2 := Mem.later hb (Mem.drew (Mem.al (Mem.drew (Mem.al (hM.out) _ _)) _ _)) | with_reducible have hM2 := Mem.later hb (Mem.al (Mem.al (Mem.al (Mem.al (Mem.al (hM.out) _ _) _ _) _ _) _ _) _ _) | with_reducible have hM2 := Mem.later hb (Mem.al (Mem.al (Mem.al (Mem.al (Mem.al (Mem.al (hM.out) _ _) _ _) _ _) _ _) _ _) _ _) | with_reducible have hM2 := Mem.later hb (Mem.al (Mem.al (Mem.al (Mem.al (Mem.al (Mem.al (Mem.al (hM.out) _ _) _ _) _ _) _ _) _ _) _ _) _ _) | with_reducible have hM2 := Mem.later hb (Mem.al (Mem.al (Mem.al (Mem.al (Mem.al (Mem.al (Mem.al (Mem.al (hM.out) _ _) _ _) _ _) _ _) _ _) _ _) _ _) _ _)); (try simp only [World.size_alloc, size_drew] at hM2); clear hM; have hM := Lib.hid hM2; clear hF; have hF := hM2; (try simp only [Mem, cellsAt, World.size_alloc, Nat.zero_add, Nat.reduceAdd, and_true] at hF); clear hM2; clear hb) |
    (go_at_call 104; (with_reducible refine (HSt.out _).mono ?_); rintro e w2 ⟨rfl, hb⟩; have hB : Below w.heap.size w w2 := (by refine bl_then ?_ hb; (repeat (first | exact hB | refine bl_al ?_ _ | refine Below.setCell ?_ (by first | exact hgs | exact Nat.le_succ_of_le hgs | exact hgs2 | exact hgs3) _ | refine Below.drew ?_ | refine bl_drewN ?_ _))); (first | with_reducible have hM2 := Mem.later hb (hM.out) | with_reducible have hM2 := Mem.later hb (Mem.al (hM.out) _ _) | with_reducible have hM2 := Mem.later hb (Mem.al (Mem.al (hM.out) _ _) _ _) | with_reducible have hM2 := Mem.later hb (Mem.al (Mem.al (Mem.al (hM.out) _ _) _ _) _ _) | with_reducible have hM2 := Mem.later hb (Mem.al (Mem.al (Mem.al (Mem.al (hM.out) _ _) _ _) _ _) _ _) | with_reducible have hM2 := Mem.later hb (Mem.drew (hM.out)) | with_reducible have hM2 := Mem.later hb (Mem.drew (Mem.al (hM.out) _ _)) | with_reducible have hM2 := Mem.later hb (Mem.al (Mem.drew (hM.out)) _ _) | with_reducible have hM2 := Mem.later hb (Mem.al (Mem.drew (Mem.al (hM.out) _ _)) _ _) | with_reducible have hM2 := Mem.later hb (Mem.drew (Mem.al (Mem.al (hM.out) _ _) _ _)) | with_reducible have hM2 := Mem.later hb (Mem.al (Mem.al (Mem.drew (hM.out)) _ _) _ _) | with_reducible have hM2 := Mem.later hb (Mem.drew (Mem.drew (hM.out))) | with_reducible have hM2 := Mem.later hb (Mem.drew (Mem.al (Mem.drew (hM.out)) _ _)) | with_reducible have hM2 := Mem.later hb (Mem.drew (Mem.al (Mem.al (Mem.al (hM.out) _ _) _ _) _ _)) | with_reducible have hM2 := Mem.later hb (Mem.al (Mem.al (Mem.drew (Mem.al (hM.out) _ _)) _ _) _ _) | with_reducible have hM2 := Mem.later hb (Mem.drew (Mem.al (Mem.drew (Mem.al (hM.out) _ _)) _ _)) | with_reducible have hM2 := Mem.later hb (Mem.al (Mem.al (Mem.al (Mem.al (Mem.al (hM.out) _ _) _ _) _ _) _ _) _ _) | with_reducible have hM2 := Mem.later hb (Mem.al (Mem.al (Mem.al (Mem.al (Mem.al (Mem.al (hM.out) _ _) _ _) _ _) _ _) _ _) _ _) | with_reducible have hM2 := Mem.later hb (Mem.al (Mem.al (Mem.al (Mem.al (Mem.al (Mem.al (Mem.al (hM.out) _ _) _ _) _ _) _ _) _ _) _ _) _ _) | with_reducible have hM2 := Mem.later hb (Mem.al (Mem.al (Mem.al (Mem.al (Mem.al (Mem.al (Mem.al (Mem.al (hM.out) _ _) _ _) _ _) _ _) _ _) _ _) _ _) _ _)); (try simp only [World.size_alloc, size_drew] at hM2); clear hM; have hM := Lib.hid hM2; clear hF; have hF := hM2; (try simp only [Mem, cellsAt, World.size_alloc, Nat.zero_add, Nat.reduceAdd, and_true] at hF); clear hM2; clear hb) |
    (at_builtin; refine (?_ : Hid _).out))
  refine Lib.hid ?_
  have hM3 := Mem.over (us := stL ⟨a0, b0, c0, d0, e0, f0, g0, h0⟩ (.slice a1 n1 c1) N) HDj.out (⟨hM.out.2.1, hM.out.1, trivial⟩ : Mem w2 ((w.heap.size, stL ⟨p0, p1, p2, p3, p4, p5, p6, p7⟩ (.slice vao vn vc) vN) :: [(w.heap.size + 1, z10)])) rfl
  have hb3 := bl_setCellsW (b := w.heap.size) (Nat.le_refl _) (stL ⟨a0, b0, c0, d0, e0, f0, g0, h0⟩ (.slice a1 n1 c1) N) 0 _ hB
  have hsz : (w2.setCells w.heap.size 0 (stL ⟨a0, b0, c0, d0, e0, f0, g0, h0⟩ (.slice a1 n1 c1) N)).heap.size = w2.heap.size := by simp [size_setCellsW]
  clear hM hF hB
  change wpList _ _ _ _ _ ((w2.setCells w.heap.size 0 (stL ⟨a0, b0, c0, d0, e0, f0, g0, h0⟩ (.slice a1 n1 c1) N)).alloc (.cells #[] 5))
  generalize w2.setCells w.heap.size 0 (stL ⟨a0, b0, c0, d0, e0, f0, g0, h0⟩ (.slice a1 n1 c1) N) = w3 at *
  rw [← hsz]
  have HMA : Hid (Mem w3 [(w.heap.size + 1, z10), (w.heap.size, stL ⟨a0, b0, c0, d0, e0, f0, g0, h0⟩ (.slice a1 n1 c1) N)]) := ⟨hM3.2.1, hM3.1, trivial⟩
  have HB1 := Lib.hid hb3
  have hM := HMA
  have hB := hb3
  have hF : True := trivial
  clear hM3 hb3 hsz
  go_wp2_with (first |
    (refine wpList_appN eltU8 w3 _ (below_alloc w3 _) rfl (.tmp 11) (.tmp 13) rfl (some ⟨w3.heap.size, 0, none⟩) 0 0 [] rfl (ownN_lit0 _ _ _ _ (Nat.le_refl _)) a1 n1 c1 (bcells f1 n1) rfl (HR1.out.later (bl_al HB1.out _)) (fun h => by cases h) (by have := HC.out.2.1; omega) ?_; intro g4 cp4 w4 hown4 hb4; (simp only [Nat.zero_add, List.nil_append] at hown4); have HO4 := Lib.hid hown4; have HB4 := Lib.hid hb4; have hM4 := Lib.hid (Mem.later hb4 hM.out); clear hown4 hb4 hM hF hB; have hM := hM4; have hF : True := trivial; clear hM4) |
    (refine wpList_appN eltU8 w3 _ HB4.out rfl (.tmp 15) (.tmp 16) rfl (some ⟨g4, 0, none⟩) n1 cp4 (bcells f1 n1) rfl (.inr ⟨g4, rfl, HO4.out⟩) a2 n2 c2 (bcells f2 n2) rfl (HR2.out.later (bl_then HB1.out HB4.out)) (fun h => by cases h) (by have := HC.out.2.1; omega) ?_; intro g5 cp5 w5 hown5 hb5; have HO5 := Lib.hid hown5; have HB5 := Lib.hid hb5; have hB := bl_then HB1.out hb5; have hM5 := Lib.hid (Mem.later hb5 HMA.out); have hv5 := hM5.out; (simp only [Mem, cellsAt, stL, z10, Nat.zero_add, Nat.reduceAdd, and_true] at hv5); clear hM hF; have hM := hM5; have hF := hv5; clear hM5 hv5 hown5 hb5 HO4))
  have HN2 := Lib.hid hN2
  have hgw : w.heap.size + 1 < w5.heap.size := hM.out.1.1
  have hR0 : Row w5 (some ⟨g5, 0, none⟩) (n1 + n2) cp5 1 (bcells T tot) := HC.out.1 ▸ row_own HO5.out (by rw [HC.out.1]; exact bcells_one _ _)
  have hg5 := HO5.out.lt g5 rfl
  have hw1s : w.heap.size + 1 < w3.heap.size := HMA.out.1.1
  have hMv := Mem.al hM.out [.int .u32 a0, .int .u32 b0, .int .u32 c0, .int .u32 d0, .int .u32 e0, .int .u32 f0, .int .u32 g0, .int .u32 h0] 24
  have hBv := bl_al hB (.cells #[.int .u32 a0, .int .u32 b0, .int .u32 c0, .int .u32 d0, .int .u32 e0, .int .u32 f0, .int .u32 g0, .int .u32 h0] 24)
  have HR0 : Hid (RwRel w ⟨a0, b0, c0, d0, e0, f0, g0, h0⟩ T tot w5.heap.size [.int .u32 a0, .int .u32 b0, .int .u32 c0, .int .u32 d0, .int .u32 e0, .int .u32 f0, .int .u32 g0, .int .u32 h0, .slice a1 n1 c1, .int .u64 N] (.slice (some ⟨g5, 0, none⟩) (n1 + n2) cp5) (w5.alloc (.cells #[.int .u32 a0, .int .u32 b0, .int .u32 c0, .int .u32 d0, .int .u32 e0, .int .u32 f0, .int .u32 g0, .int .u32 h0] 24))) :=
    ⟨0, n1 + n2, cp5, _, by rw [HC.out.2.2.1]; omega, rfl, hBv, by
      have := hR0.later (below_alloc w5 (.cells #[.int .u32 a0, .int .u32 b0, .int .u32 c0, .int .u32 d0, .int .u32 e0, .int .u32 f0, .int .u32 g0, .int .u32 h0] 24))
      rw [HC.out.2.2.1] at this ⊢
      simpa using this, fun ad h => by cases h; exact ⟨by show g5 ≠ _; omega, by show _ < g5; omega⟩, hMv⟩
  have HGW := Lib.hid hgw
  obtain ⟨gh, hgh⟩ : ∃ g, w5.heap.size = g := ⟨_, rfl⟩
  obtain ⟨x8, hx8⟩ : ∃ x : Value, .slice a1 n1 c1 = x := ⟨_, rfl⟩
  rw [hgh, hx8] at HR0
  rw [hgh] at HGW
  rw [hgh]
  clear hgh hx8 hBv hMv hR0 hg5 hw1s hB hM hF HMA HB1 HB4 HB5 HO5 hgw HC HR1 HR2 HSn hN2
  go_loopw [5] (fun sl wr => RwRel w ⟨a0, b0, c0, d0, e0, f0, g0, h0⟩ T tot gh [.int .u32 a0, .int .u32 b0, .int .u32 c0, .int .u32 d0, .int .u32 e0, .int .u32 f0, .int .u32 g0, .int .u32 h0, x8, .int .u64 N] sl wr) (fun sl _ => slLen sl)
  case atStart => exact HR0.out
  case round =>
    clear HR0
    obtain ⟨j, m, c, ao, htot, rfl, hB, hr, hlt, hm⟩ := hrel
    by_cases h64 : 64 ≤ m
    · have hne : bcells (fun i => T (64 * j + i)) m ≠ [] := bcells_ne _ _ (by omega)
      obtain ⟨g, off, rfl⟩ := row_addr hr hne
      have hgl := hlt _ rfl
      dsimp only at hgl
      obtain ⟨t, ht⟩ : ∃ t, blks ⟨a0, b0, c0, d0, e0, f0, g0, h0⟩ T j = t := ⟨_, rfl⟩
      obtain ⟨F, hF'⟩ : ∃ F : Nat → Int, (fun i => T (64 * j + i)) = F := ⟨_, rfl⟩
      obtain ⟨t', ht'⟩ : ∃ t', blk t F = t' := ⟨_, rfl⟩
      have hst : blks ⟨a0, b0, c0, d0, e0, f0, g0, h0⟩ T (j + 1) = t' := by
        show blk (blks _ T j) (fun i => T (64 * j + i)) = t'
        rw [ht, hF', ht']
      rw [ht] at hm
      rw [hF'] at hr
      have hFb : ∀ i, 0 ≤ F i ∧ F i < 256 := fun i => by rw [← hF']; exact HTb.out _
      have hle := hr.le
      have HBlk := Lib.hid (fun (x : World) (hb : Below wr.heap.size wr x) => ht' ▸ rblock_any t (some ⟨g, off, none⟩) c F x (row_pre (hr.later hb) 64 h64) hFb)
      have HX := Lib.hid (And.intro hr (And.intro hst hF'))
      have HM := Lib.hid hm
      have hm64 : (64 : Int) ≤ (m : Int) := by omega
      have hc64 : 64 ≤ c := by omega
      have hcI : (64 : Int) ≤ (c : Int) := by omega
      have hBB := Lib.hid hB
      have HGL := Lib.hid hgl
      clear hr hst hF' hm ht ht' hFb hne hlt hB hgl
      obtain ⟨ta, tb, tc, td, te, tf, tg, th⟩ := t
      go_wp2
      have hF0 := HM.out.1
      simp only [cellsAt, S8.l, Nat.zero_add, Nat.reduceAdd, and_true] at hF0
      refine wp_plan (fun x => True) [0, 3, 4] [1, 2, 0, 3, 4] (by kernel_rfl) (by kernel_rfl) trivial (fun hHeld => ?_)
      iterate 2 (refine wpT_take rfl (by rfl) (by rfl) (by intro w' hSw; (try dsimp only [Mem, cellsAt] at hSw); go_simp; (try with_reducible rfl)) (by assumption) ?_; (try simp only [Act.put, List.setIfInBounds_toArray, List.set_cons_zero, List.set_cons_succ]))
      (refine wpT_step rfl (by rfl) (fun K hK => ?_); go_simp)
      (refine hK.out _ _ _ (fun _ h => h) (trivial) (fun hHeld => ?_); clear hK; clear K; (try simp only [Act.put, List.setIfInBounds_toArray, List.set_cons_zero, List.set_cons_succ]))
      (refine wpT_step rfl (by rfl) (fun K hK => ?_); go_simp)
      refine (HBlk.out _ (Below.refl _ _).drew).mono ?_
      rintro e w3 ⟨rfl, hb3⟩
      have HM3 := Lib.hid (Mem.later hb3 (Mem.drew HM.out))
      have hB3 := bl_then hBB.out.drew hb3
      have HR3 := Lib.hid ((HX.out.1.later (Below.refl _ _).drew).later hb3)
      have hF3 := HM3.out.1
      simp only [cellsAt, S8.l, Nat.zero_add, Nat.reduceAdd, and_true] at hF3
      clear hb3 hF0
      (refine hK.out _ _ _ (fun _ h => h) (trivial) (fun hHeld => ?_); clear hK; clear K; (try simp only [Act.put, List.setIfInBounds_toArray, List.set_cons_zero, List.set_cons_succ]))
      (refine wpT_step rfl (by rfl) (fun K hK => ?_); go_simp)
      have D2 : Hid (∀ p ∈ [(w.heap.size + 1, z10), (w.heap.size, [.int .u32 a0, .int .u32 b0, .int .u32 c0, .int .u32 d0, .int .u32 e0, .int .u32 f0, .int .u32 g0, .int .u32 h0, x8, .int .u64 N])], p.1 ≠ gh) := by
        intro p hp
        have := HGW.out
        simp at hp
        rcases hp with rfl | rfl <;> simp <;> omega
      have HM5 := Lib.hid (Mem.st8l _ t' D2.out HM3.out)
      (refine hK.out _ _ _ (fun _ h => h) (trivial) (fun hHeld => ?_); clear hK; clear K; (try simp only [Act.put, List.setIfInBounds_toArray, List.set_cons_zero, List.set_cons_succ]))
      (refine wpT_nil ?_)
      have hr8 : (wset8 w3 gh t'.a t'.b t'.c t'.d t'.e t'.f t'.g t'.h).heap[g]? = w3.heap[g]? := heap_set8 _ _ _ _ _ _ _ _ _ _ _ HGL.out.1
      have HR5 := Lib.hid (HR3.out.kept (w' := wset8 w3 gh t'.a t'.b t'.c t'.d t'.e t'.f t'.g t'.h) (fun ad h => by cases h; exact hr8))
      have hB5 := bl_set8 t'.a t'.b t'.c t'.d t'.e t'.f t'.g t'.h (by have := HGW.out; omega : w.heap.size ≤ gh) hB3
      clear hF3 hr8 HR3
      have hrow : Row (wset8 w3 gh t'.a t'.b t'.c t'.d t'.e t'.f t'.g t'.h) (if c = 64 then some ⟨g, off, none⟩ else some ⟨g, off + 64, none⟩) (m - 64) (c - 64) 1 (bcells (fun i => T (64 * (j + 1) + i)) (m - 64)) := by
        have e : bcells (fun i => T (64 * (j + 1) + i)) (m - 64) = bcells (fun i => F (64 + i)) (m - 64) := by
          rw [← HX.out.2.2]
          exact bcells_congr fun i _ => by
            show T _ = T _
            congr 1
            omega
        rw [e]
        refine ⟨by rw [bcells_len, Nat.mul_one], by omega, (fun h => by split at h <;> cases h), (fun ad ha i u hu => ?_), bcells_one _ _⟩
        have hi : i < m - 64 := by
          have := (List.getElem?_eq_some_iff.1 hu).1
          rwa [bcells_len] at this
        rw [bcells_get _ _ _ hi] at hu
        have hc := (HR5.out.cells _ rfl (64 + i) _ (bcells_get F m (64 + i) (by omega))).2
        split at ha
        · omega
        · cases ha
          refine ⟨rfl, ?_⟩
          rw [← hu, Nat.add_assoc]
          exact hc
      have HFin : Hid (RwRel w ⟨a0, b0, c0, d0, e0, f0, g0, h0⟩ T tot gh [.int .u32 a0, .int .u32 b0, .int .u32 c0, .int .u32 d0, .int .u32 e0, .int .u32 f0, .int .u32 g0, .int .u32 h0, x8, .int .u64 N] (.slice (if c = 64 then some ⟨g, off, none⟩ else some ⟨g, off + 64, none⟩) (m - 64) (c - 64)) (wset8 w3 gh t'.a t'.b t'.c t'.d t'.e t'.f t'.g t'.h)) := by
        refine ⟨j + 1, m - 64, c - 64, _, by omega, rfl, hB5, hrow, fun ad ha => ?_, ?_⟩
        · split at ha <;> (cases ha; exact HGL.out)
        · rw [HX.out.2.1]
          exact HM5.out
      clear hB5 hrow hB3
      by_cases hcc : c = 64
      · rw [if_pos hcc] at HFin
        have HCc := Lib.hid hcc
        clear hcc
        go_wp2
        simp only [if_pos HCc.out]
        exact ⟨HFin.out, by show m - 64 < m; omega⟩
      · rw [if_neg hcc] at HFin
        go_wp2
        exact ⟨HFin.out, by show m - 64 < m; omega⟩
    · have htm : tot % 64 = m := by omega
      have htj : tot / 64 = j := by omega
      obtain ⟨F, hF'⟩ : ∃ F : Nat → Int, (fun i => T (64 * j + i)) = F := ⟨_, rfl⟩
      obtain ⟨t, ht⟩ : ∃ t, blks ⟨a0, b0, c0, d0, e0, f0, g0, h0⟩ T j = t := ⟨_, rfl⟩
      rw [ht] at hm
      rw [hF'] at hr
      have HTJ := Lib.hid (And.intro htm (And.intro htj (And.intro hF' ht)))
      have HM := Lib.hid hm
      have hBB := Lib.hid hB
      have HRr := Lib.hid hr
      have HLt := Lib.hid hlt
      have hm64 : ¬ (64 : Int) ≤ (m : Int) := by omega
      have hmlt : (m : Int) < 64 := by omega
      have hN2 := HN2.out
      have hF := HM.out
      clear hr hm ht hF' hlt hB htm htj htot
      obtain ⟨ta, tb, tc, td, te, tf, tg, th⟩ := t
      simp only [Mem, cellsAt, z10, S8.l, stL, Nat.zero_add, Nat.reduceAdd, and_true] at hF
      go_wp2
      have hR := Mem.over (us := stL ⟨ta, tb, tc, td, te, tf, tg, th⟩ (.slice ao m c) N2) (b := w.heap.size + 1) (L := []) (by simp) (⟨HM.out.2.1, trivial⟩ : Mem wr [(w.heap.size + 1, z10)]) rfl
      have hBl := bl_setCellsW (b := w.heap.size + 1) (Nat.le_succ _) (stL ⟨ta, tb, tc, td, te, tf, tg, th⟩ (.slice ao m c) N2) 0 _ hBB.out
      have hRr := rangeAt_of hR.1.2.2
      have hO : Row (wr.setCells (w.heap.size + 1) 0 (stL ⟨ta, tb, tc, td, te, tf, tg, th⟩ (.slice ao m c) N2)) ao m c 1 (bcells F m) :=
        HRr.out.kept fun ad h => by
          have := (HLt.out ad h).2
          exact heap_setCellsW _ _ (show ad.block ≠ w.heap.size + 1 by omega) _ _ _
      clear hR hF
      change bodyPost _ _ _ _ _ (wr.setCells (w.heap.size + 1) 0 (stL ⟨ta, tb, tc, td, te, tf, tg, th⟩ (.slice ao m c) N2))
      generalize wr.setCells (w.heap.size + 1) 0 (stL ⟨ta, tb, tc, td, te, tf, tg, th⟩ (.slice ao m c) N2) = wf at *
      have hl := Go.run_loadVar_mid (P := Tryd.prog) wf (w.heap.size + 1) 0 27 (stL ⟨ta, tb, tc, td, te, tf, tg, th⟩ (.slice ao m c) N2) _ hRr Tryd.underlying27 rfl (by kernel_rfl)
      refine bodyPost_ret (v := .agg (stL ⟨ta, tb, tc, td, te, tf, tg, th⟩ (.slice ao m c) N2).toArray) (by simp [results, Tryd.results27, asAddr, hl, Act.put]) rfl ?_
      obtain ⟨k1, k2, k3, k4⟩ := HTJ.out
      rw [k1, k2, k3, k4]
      exact ⟨ao, c, rfl, hO, hBl⟩
end Go.Proofs.YtpdgeiflmnhkfaaDoor
