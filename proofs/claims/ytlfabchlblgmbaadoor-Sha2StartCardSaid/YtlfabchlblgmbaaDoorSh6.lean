/- SHA-256: Write. (hM) -/
import Derived.Test.YtlfabchlblgmbaaDoorSh5
namespace Go.Proofs.YtlfabchlblgmbaaDoor
set_option linter.unusedVariables false
set_option linter.unusedSimpArgs false
open Go.RowKit

def slLen : Value → Nat
  | .slice _ n _ => n
  | _ => 0
theorem heap_set8 (w : World) (b k : Nat) (x0 x1 x2 x3 x4 x5 x6 x7 : Int) (h : k ≠ b) : (wset8 w b x0 x1 x2 x3 x4 x5 x6 x7).heap[k]? = w.heap[k]? := by
  unfold wset8
  rw [Below.heap_setCell _ _ _ _ (by simpa using h), Below.heap_setCell _ _ _ _ (by simpa using h), Below.heap_setCell _ _ _ _ (by simpa using h), Below.heap_setCell _ _ _ _ (by simpa using h), Below.heap_setCell _ _ _ _ (by simpa using h), Below.heap_setCell _ _ _ _ (by simpa using h), Below.heap_setCell _ _ _ _ (by simpa using h), Below.heap_setCell _ _ _ _ (by simpa using h)]
theorem heap_setCellsW (b k : Nat) (h : k ≠ b) : ∀ (vs : List Value) (o : Nat) (w : World), (w.setCells b o vs).heap[k]? = w.heap[k]?
  | [], _, _ => rfl
  | v :: r, o, w => by
    rw [World.setCells, heap_setCellsW b k h r (o + 1)]
    exact Below.heap_setCell _ _ _ _ (by simpa using h)
theorem OwnN.kept {B : Nat} {E : TypeId} {sz : Nat} {w w' : World} {ao : Option Addr} {n c : Nat} {xs : List Value} (h : OwnN B E sz w ao n c xs) (hb : ∀ g, ao = some ⟨g, 0, none⟩ → w'.heap[g]? = w.heap[g]?) : OwnN B E sz w' ao n c xs := by
  rcases h with h | ⟨g, h1, h2⟩
  · exact .inl h
  · refine .inr ⟨g, h1, h2.1, ?_⟩
    rcases h2.2 with h0 | ⟨g', cap, cur, hv, hB, hg, hrest⟩
    · exact .inl h0
    · have e : g = g' := by
        simp only [Value.slice.injEq, Option.some.injEq, Addr.mk.injEq, and_true] at hv
        exact hv.1
      subst e
      exact .inr ⟨g, cap, cur, hv, hB, (hb g h1).trans hg, hrest⟩
/-- the cells of a state -/
def stL (s : S8) (sl : Value) (N : Int) : List Value := [.int .u32 s.a, .int .u32 s.b, .int .u32 s.c, .int .u32 s.d, .int .u32 s.e, .int .u32 s.f, .int .u32 s.g, .int .u32 s.h, sl, .int .u64 N]
theorem Mem.st8 {w : World} {b : Nat} (t t' : S8) (sl : Value) (N : Int) {l : List (Nat × List Value)} (hd : ∀ p ∈ l, p.1 ≠ b) (h : Mem w ((b, stL t sl N) :: l)) :
    Mem (wset8 w b t'.a t'.b t'.c t'.d t'.e t'.f t'.g t'.h) ((b, stL t' sl N) :: l) := ((((((((h.setN (k := 0) (v := .int .u32 t'.a) hd).setN (k := 1) (v := .int .u32 t'.b) hd).setN (k := 2) (v := .int .u32 t'.c) hd).setN (k := 3) (v := .int .u32 t'.d) hd).setN (k := 4) (v := .int .u32 t'.e) hd).setN (k := 5) (v := .int .u32 t'.f) hd).setN (k := 6) (v := .int .u32 t'.g) hd).setN (k := 7) (v := .int .u32 t'.h) hd)
def WrRel (w : World) (s : S8) (T : Nat → Int) (tot : Nat) (sl0 : Value) (N : Int) (sl : Value) (wr : World) : Prop :=
  ∃ (j m c : Nat) (ao : Option Addr), 64 * j + m = tot ∧ sl = .slice ao m c ∧ Below w.heap.size w wr ∧ Row wr ao m c 1 (bcells (fun i => T (64 * j + i)) m) ∧ (∀ ad, ao = some ad → w.heap.size + 1 < ad.block) ∧
    Mem wr [(w.heap.size, stL (blks s T j) sl0 N), (w.heap.size + 1, stL ⟨0, 0, 0, 0, 0, 0, 0, 0⟩ (.slice none 0 0) 0)]

set_option maxRecDepth 100000 in
set_option maxHeartbeats 4000000 in
theorem write_of (v0 : S8) (vao : Option Addr) (vn vc : Nat) (vN : Int) (s : S8) (a1 a2 : Option Addr) (n1 c1 n2 c2 : Nat) (N : Int) (f1 f2 : Nat → Int) (w : World) (hT : Tab w)
    (hS : ∀ x, Below w.heap.size w x → Calls Tryd.prog 61 #[stV v0 (.slice vao vn vc) vN] x fun e w' => e = .returned (stV s (.slice a1 n1 c1) N) ∧ Below x.heap.size x w')
    (hr1 : Row w a1 n1 c1 1 (bcells f1 n1)) (hr2 : Row w a2 n2 c2 1 (bcells f2 n2)) (hf1 : ∀ i, 0 ≤ f1 i ∧ f1 i < 256) (hf2 : ∀ i, 0 ≤ f2 i ∧ f2 i < 256) (hn : n1 + n2 ≤ 140737488355328) (hN : 0 ≤ N ∧ N < WI) :
    Calls Tryd.prog 20 #[stV v0 (.slice vao vn vc) vN, .slice a2 n2 c2] w fun e w' => ∃ ao cap, e = .returned (stV (blks s (catF f1 n1 f2) ((n1 + n2) / 64)) (.slice ao ((n1 + n2) % 64) cap) (IntKind.u64.wrap (N + (n2 : Int)))) ∧
      OwnN w.heap.size 5 1 w' ao ((n1 + n2) % 64) cap (bcells (fun i => catF f1 n1 f2 (64 * ((n1 + n2) / 64) + i)) ((n1 + n2) % 64)) ∧ Below w.heap.size w w' := by
  obtain ⟨T, hTT⟩ : ∃ T, catF f1 n1 f2 = T := ⟨_, rfl⟩
  obtain ⟨tot, htot⟩ : ∃ t, n1 + n2 = t := ⟨_, rfl⟩
  obtain ⟨N2, hN2⟩ : ∃ z, IntKind.u64.wrap (N + (n2 : Int)) = z := ⟨_, rfl⟩
  have hTb : ∀ i, 0 ≤ T i ∧ T i < 256 := fun i => by
    rw [← hTT]
    unfold catF
    split
    · exact hf1 i
    · exact hf2 _
  have hCat := fun (x : World) (b : Nat) (hb : Below w.heap.size w x) (h1 : x.cell? ⟨b, 0, none⟩ = some (.slice a1 n1 c1)) (h2 : x.cell? ⟨b, 1, none⟩ = some (.slice a2 n2 c2)) =>
    concat_any b 0 a1 a2 n1 c1 n2 c2 f1 f2 x h1 h2 (hr1.later hb) (hr2.later hb) hn
  have hw2 : IntKind.u64.wrap (n2 : Int) = (n2 : Int) := by rw [IntKind.wrap_u64]; omega
  rw [hTT, htot] at hCat ⊢
  rw [htot] at hn
  have HCat := Lib.hid hCat
  have HS := Lib.hid hS
  have HT := Lib.hid hT
  have HTb := Lib.hid hTb
  clear hCat hS hT hTb hr1 hr2 hf1 hf2 hTT htot
  obtain ⟨a0, b0, c0, d0, e0, f0, g0, h0⟩ := s
  obtain ⟨p0, p1, p2, p3, p4, p5, p6, p7⟩ := v0
  have hB := Below.refl w.heap.size w
  have hM := Lib.hid (mem_nil w)
  have hF : True := trivial
  go_enter Tryd.func20, Tryd.ntmps20
  go_wp2_with (first | (go_at_call 61; ((with_reducible refine (HS.out _ (by (repeat (first | exact hB | refine bl_al ?_ _ | refine Below.setCell ?_ (by first | exact hgs | exact Nat.le_succ_of_le hgs | exact hgs2 | exact hgs3) _ | refine Below.drew ?_ | refine bl_drewN ?_ _)))).mono ?_); rintro e w1 ⟨rfl, hb⟩; have hB : Below w.heap.size w w1 := (by refine bl_then ?_ hb; (repeat (first | exact hB | refine bl_al ?_ _ | refine Below.setCell ?_ (by first | exact hgs | exact Nat.le_succ_of_le hgs | exact hgs2 | exact hgs3) _ | refine Below.drew ?_ | refine bl_drewN ?_ _))); (first | with_reducible have hM2 := Mem.later hb (hM.out) | with_reducible have hM2 := Mem.later hb (Mem.al (hM.out) _ _) | with_reducible have hM2 := Mem.later hb (Mem.al (Mem.al (hM.out) _ _) _ _) | with_reducible have hM2 := Mem.later hb (Mem.al (Mem.al (Mem.al (hM.out) _ _) _ _) _ _) | with_reducible have hM2 := Mem.later hb (Mem.al (Mem.al (Mem.al (Mem.al (hM.out) _ _) _ _) _ _) _ _) | with_reducible have hM2 := Mem.later hb (Mem.drew (hM.out)) | with_reducible have hM2 := Mem.later hb (Mem.drew (Mem.al (hM.out) _ _)) | with_reducible have hM2 := Mem.later hb (Mem.al (Mem.drew (hM.out)) _ _) | with_reducible have hM2 := Mem.later hb (Mem.al (Mem.drew (Mem.al (hM.out) _ _)) _ _) | with_reducible have hM2 := Mem.later hb (Mem.drew (Mem.al (Mem.al (hM.out) _ _) _ _)) | with_reducible have hM2 := Mem.later hb (Mem.al (Mem.al (Mem.drew (hM.out)) _ _) _ _) | with_reducible have hM2 := Mem.later hb (Mem.drew (Mem.drew (hM.out))) | with_reducible have hM2 := Mem.later hb (Mem.drew (Mem.al (Mem.drew (hM.out)) _ _)) | with_reducible have hM2 := Mem.later hb (Mem.drew (Mem.al (Mem.al (Mem.al (hM.out) _ _) _ _) _ _)) | with_reducible have hM2 := Mem.later hb (Mem.al (Mem.al (Mem.drew (Mem.al (hM.out) _ _)) _ _) _ _) | with_reducible have hM2 := Mem.later hb (Mem.drew (Mem.al (Mem.drew (Mem.al (hM.out) _ _)) _ _)) | with_reducible have hM2 := Mem.later hb (Mem.al (Mem.al (Mem.al (Mem.al (Mem.al (hM.out) _ _) _ _) _ _) _ _) _ _) | with_reducible have hM2 := Mem.later hb (Mem.al (Mem.al (Mem.al (Mem.al (Mem.al (Mem.al (hM.out) _ _) _ _) _ _) _ _) _ _) _ _) | with_reducible have hM2 := Mem.later hb (Mem.al (Mem.al (Mem.al (Mem.al (Mem.al (Mem.al (Mem.al (hM.out) _ _) _ _) _ _) _ _) _ _) _ _) _ _) | with_reducible have hM2 := Mem.later hb (Mem.al (Mem.al (Mem.al (Mem.al (Mem.al (Mem.al (Mem.al (Mem.al (hM.out) _ _) _ _) _ _) _ _) _ _) _ _) _ _) _ _)); (try simp only [World.size_alloc, size_drew] at hM2); clear hM; have hM := Lib.hid hM2; clear hF; have hF := hM2; (try simp only [Mem, cellsAt, World.size_alloc, Nat.zero_add, Nat.reduceAdd, and_true] at hF); clear hM2; clear hb)))
  have hM1 : Mem w1 [(w.heap.size, [.int .u32 p0, .int .u32 p1, .int .u32 p2, .int .u32 p3, .int .u32 p4, .int .u32 p5, .int .u32 p6, .int .u32 p7, .slice vao vn vc, .int .u64 vN]), (w.heap.size + 1, stL ⟨0, 0, 0, 0, 0, 0, 0, 0⟩ (.slice none 0 0) 0)] := ⟨hM.out.2.1, hM.out.1, trivial⟩
  have D1 : Hid (∀ p ∈ [(w.heap.size + 1, stL ⟨0, 0, 0, 0, 0, 0, 0, 0⟩ (.slice none 0 0) 0)], p.1 ≠ w.heap.size) := by
    intro p hp; simp at hp; subst hp; simp
  have hM2 := Mem.setN (k := 9) (v := .int .u64 N2) D1.out (Mem.over (us := stL ⟨a0, b0, c0, d0, e0, f0, g0, h0⟩ (.slice a1 n1 c1) N) D1.out hM1 rfl)
  have hB2 : Below w.heap.size w ((w1.setCells w.heap.size 0 (stL ⟨a0, b0, c0, d0, e0, f0, g0, h0⟩ (.slice a1 n1 c1) N)).setCell ⟨w.heap.size, 9, none⟩ (.int .u64 N2)) := (bl_setCellsW (Nat.le_refl _) _ _ _ hB).setCell (Nat.le_refl _) _
  have hsz : ((w1.setCells w.heap.size 0 (stL ⟨a0, b0, c0, d0, e0, f0, g0, h0⟩ (.slice a1 n1 c1) N)).setCell ⟨w.heap.size, 9, none⟩ (.int .u64 N2)).heap.size = w1.heap.size := by simp [size_setCellsW]
  have hM3 := Mem.al hM2 [.slice a1 n1 c1, .slice a2 n2 c2] 22
  have hB3 := bl_al hB2 (.cells #[.slice a1 n1 c1, .slice a2 n2 c2] 22)
  rw [hsz] at hM3
  have hw1s : w.heap.size + 1 < w1.heap.size := hM.out.1.1
  clear hF hM hM1 hM2 hB2
  refine (HCat.out _ w1.heap.size hB3 hM3.1.2.2.1 hM3.1.2.2.2.1).mono ?_
  rintro e w2 ⟨ao, cap, rfl, hown, hb2⟩
  have hR2 := hown.row (bcells_one T tot)
  have hg2 : ∀ ad, ao = some ad → w.heap.size + 1 < ad.block := by
    rintro ad rfl
    rcases hown with ⟨h, _⟩ | ⟨g, h, ho⟩
    · cases h
    · cases h
      have := (ho.lt g rfl).1
      rw [World.size_alloc, hsz] at this
      show w.heap.size + 1 < g
      omega
  have hM4 := Mem.later hb2 hM3
  have hB4 := bl_then hB3 hb2
  have HR0 : Hid (WrRel w ⟨a0, b0, c0, d0, e0, f0, g0, h0⟩ T tot (.slice a1 n1 c1) N2 (.slice ao tot cap) w2) :=
    ⟨0, tot, cap, ao, by omega, rfl, hB4, by simpa using hR2, hg2, hM4.2.1, hM4.2.2.1, trivial⟩
  clear hown hb2 hR2 hg2 hM4 hB4 hM3 hB3 hsz hB
  go_wp2
  go_loopw [5] (fun sl wr => WrRel w ⟨a0, b0, c0, d0, e0, f0, g0, h0⟩ T tot (.slice a1 n1 c1) N2 sl wr) (fun sl _ => slLen sl)
  case atStart => exact HR0.out
  case round =>
    clear HR0
    obtain ⟨j, m, c, ao, htot, rfl, hB, hr, hlt, hm⟩ := hrel
    by_cases h64 : 64 ≤ m
    · have hne : bcells (fun i => T (64 * j + i)) m ≠ [] := bcells_ne _ _ (by omega)
      obtain ⟨g, off, rfl⟩ := row_addr hr hne
      have hgl := hlt _ rfl
      dsimp only at hgl
      obtain ⟨t, ht⟩ : ∃ t, blks ⟨a0, b0, c0, d0, e0, f0, g0, h0⟩ T j = t := ⟨_, rfl⟩
      obtain ⟨F, hF'⟩ : ∃ F : Nat → Int, (fun i => T (64 * j + i)) = F := ⟨_, rfl⟩
      obtain ⟨t', ht'⟩ : ∃ t', blk t F = t' := ⟨_, rfl⟩
      have hst : blks ⟨a0, b0, c0, d0, e0, f0, g0, h0⟩ T (j + 1) = t' := by
        show blk (blks _ T j) (fun i => T (64 * j + i)) = t'
        rw [ht, hF', ht']
      rw [ht] at hm
      rw [hF'] at hr
      have hFb : ∀ i, 0 ≤ F i ∧ F i < 256 := fun i => by rw [← hF']; exact HTb.out _
      have hle := hr.le
      have HBlk := Lib.hid (fun (x : World) (hb : Below wr.heap.size wr x) => ht' ▸ block_any t (some ⟨g, off, none⟩) c F x (HT.out.later (bl_then hB hb)) (row_pre (hr.later hb) 64 h64) hFb)
      have HX := Lib.hid (And.intro hr (And.intro hst hF'))
      have HM := Lib.hid hm
      have hS0 : Hid (Mem wr [(w.heap.size, stL t (.slice a1 n1 c1) N2)]) := ⟨hm.1, trivial⟩
      have hm64 : (64 : Int) ≤ (m : Int) := by omega
      have hc64 : 64 ≤ c := by omega
      have hcI : (64 : Int) ≤ (c : Int) := by omega
      have hBB := Lib.hid hB
      clear hr hst hF' hm ht ht' hFb hne hlt hB
      obtain ⟨ta, tb, tc, td, te, tf, tg, th⟩ := t
      go_wp2
      have hF0 := HM.out.1
      simp only [cellsAt, stL, Nat.zero_add, Nat.reduceAdd, and_true] at hF0
      refine wp_plan (fun x => True) [1, 4, 6] [0, 2, 3, 1, 4, 5, 6] (by kernel_rfl) (by kernel_rfl) trivial (fun hHeld => ?_)
      iterate 3 (refine wpT_take rfl (by rfl) (by rfl) (by intro w' hSw; (try dsimp only [Mem, cellsAt] at hSw); go_simp; (try with_reducible rfl)) (by assumption) ?_; (try simp only [Act.put, List.setIfInBounds_toArray, List.set_cons_zero, List.set_cons_succ]))
      (refine wpT_step rfl (by rfl) (fun K hK => ?_); go_simp)
      (refine hK.out _ _ _ (fun _ h => h) (trivial) (fun hHeld => ?_); clear hK; clear K; (try simp only [Act.put, List.setIfInBounds_toArray, List.set_cons_zero, List.set_cons_succ]))
      (refine wpT_step rfl (by rfl) (fun K hK => ?_); go_simp)
      refine (HBlk.out _ (Below.refl _ _).drew).mono ?_
      rintro e w3 ⟨rfl, hb3⟩
      have HM3 := Lib.hid (Mem.later hb3 (Mem.drew HM.out))
      have hB3 := bl_then hBB.out.drew hb3
      have HR3 := Lib.hid ((HX.out.1.later (Below.refl _ _).drew).later hb3)
      have hF3 := HM3.out
      simp only [Mem, cellsAt, stL, Nat.zero_add, Nat.reduceAdd, and_true] at hF3
      clear hb3 hF0
      (refine hK.out _ _ _ (fun _ h => h) (trivial) (fun hHeld => ?_); clear hK; clear K; (try simp only [Act.put, List.setIfInBounds_toArray, List.set_cons_zero, List.set_cons_succ]))
      iterate 1 (refine wpT_take rfl (by rfl) (by rfl) (by intro w' hSw; (try dsimp only [Mem, cellsAt] at hSw); go_simp; (try with_reducible rfl)) (by assumption) ?_; (try simp only [Act.put, List.setIfInBounds_toArray, List.set_cons_zero, List.set_cons_succ]))
      (refine wpT_step rfl (by rfl) (fun K hK => ?_); go_simp)
      have D2 : Hid (∀ p ∈ [(w.heap.size + 1, stL ⟨0, 0, 0, 0, 0, 0, 0, 0⟩ (.slice none 0 0) 0)], p.1 ≠ w.heap.size) := D1.out
      have HM5 := Lib.hid (Mem.st8 _ t' _ _ D2.out HM3.out)
      (refine hK.out _ _ _ (fun _ h => h) (trivial) (fun hHeld => ?_); clear hK; clear K; (try simp only [Act.put, List.setIfInBounds_toArray, List.set_cons_zero, List.set_cons_succ]))
      (refine wpT_nil ?_)
      have hr8 : (wset8 w3 w.heap.size t'.a t'.b t'.c t'.d t'.e t'.f t'.g t'.h).heap[g]? = w3.heap[g]? := heap_set8 _ _ _ _ _ _ _ _ _ _ _ (by omega)
      have HR5 := Lib.hid (HR3.out.kept (w' := wset8 w3 w.heap.size t'.a t'.b t'.c t'.d t'.e t'.f t'.g t'.h) (fun ad h => by cases h; exact hr8))
      have hB5 := bl_set8 t'.a t'.b t'.c t'.d t'.e t'.f t'.g t'.h (Nat.le_refl _) hB3
      clear hF3 hr8 HR3
      have hrow : Row (wset8 w3 w.heap.size t'.a t'.b t'.c t'.d t'.e t'.f t'.g t'.h) (if c = 64 then some ⟨g, off, none⟩ else some ⟨g, off + 64, none⟩) (m - 64) (c - 64) 1 (bcells (fun i => T (64 * (j + 1) + i)) (m - 64)) := by
        have e : bcells (fun i => T (64 * (j + 1) + i)) (m - 64) = bcells (fun i => F (64 + i)) (m - 64) := by
          rw [← HX.out.2.2]
          exact bcells_congr fun i _ => by
            show T _ = T _
            congr 1
            omega
        rw [e]
        refine ⟨by rw [bcells_len, Nat.mul_one], by omega, (fun h => by split at h <;> cases h), (fun ad ha i u hu => ?_), bcells_one _ _⟩
        have hi : i < m - 64 := by
          have := (List.getElem?_eq_some_iff.1 hu).1
          rwa [bcells_len] at this
        rw [bcells_get _ _ _ hi] at hu
        have hc := (HR5.out.cells _ rfl (64 + i) _ (bcells_get F m (64 + i) (by omega))).2
        split at ha
        · omega
        · cases ha
          refine ⟨rfl, ?_⟩
          rw [← hu, Nat.add_assoc]
          exact hc
      have HFin : Hid (WrRel w ⟨a0, b0, c0, d0, e0, f0, g0, h0⟩ T tot (.slice a1 n1 c1) N2 (.slice (if c = 64 then some ⟨g, off, none⟩ else some ⟨g, off + 64, none⟩) (m - 64) (c - 64)) (wset8 w3 w.heap.size t'.a t'.b t'.c t'.d t'.e t'.f t'.g t'.h)) := by
        refine ⟨j + 1, m - 64, c - 64, _, by omega, rfl, hB5, hrow, fun ad ha => ?_, ?_⟩
        · split at ha <;> (cases ha; exact hgl)
        · rw [HX.out.2.1]
          exact HM5.out
      clear hB5 hrow hB3
      by_cases hcc : c = 64
      · rw [if_pos hcc] at HFin
        have HCc := Lib.hid hcc
        clear hcc
        go_wp2
        simp only [if_pos HCc.out]
        exact ⟨HFin.out, by show m - 64 < m; omega⟩
      · rw [if_neg hcc] at HFin
        go_wp2
        exact ⟨HFin.out, by show m - 64 < m; omega⟩
    · have htm : tot % 64 = m := by omega
      have htj : tot / 64 = j := by omega
      have HCl := Lib.hid (fun (x : World) (hb : Below wr.heap.size wr x) => clone_any ao m c _ x (hr.later hb) (by omega))
      obtain ⟨F, hF'⟩ : ∃ F : Nat → Int, (fun i => T (64 * j + i)) = F := ⟨_, rfl⟩
      obtain ⟨t, ht⟩ : ∃ t, blks ⟨a0, b0, c0, d0, e0, f0, g0, h0⟩ T j = t := ⟨_, rfl⟩
      rw [ht] at hm
      rw [hF'] at HCl
      have HTJ := Lib.hid (And.intro htm (And.intro htj (And.intro hF' ht)))
      have HM := Lib.hid hm
      have hBB := Lib.hid hB
      have hm64 : ¬ (64 : Int) ≤ (m : Int) := by omega
      have hmlt : (m : Int) < 64 := by omega
      clear hr hm ht hF' hlt hB htm htj htot
      obtain ⟨ta, tb, tc, td, te, tf, tg, th⟩ := t
      go_wp2_with (go_at_call 63; refine (HCl.out _ (Below.refl _ _)).mono ?_; rintro e w3 ⟨ao', cap', rfl, hown, hb3⟩; have HM3 := Lib.hid (Mem.later hb3 HM.out); have HO3 := Lib.hid hown; have HB3 := Lib.hid (bl_then hBB.out hb3); have HZ3 := Lib.hid (hb3.size); have hF := HM3.out; (simp only [Mem, cellsAt, stL, Nat.zero_add, Nat.reduceAdd, and_true] at hF); clear hown hb3)
      have hw1 : w.heap.size + 1 < wr.heap.size := HM.out.2.1.1
      have D3 : Hid (∀ p ∈ [(w.heap.size + 1, stL ⟨0, 0, 0, 0, 0, 0, 0, 0⟩ (.slice none 0 0) 0)], p.1 ≠ w.heap.size) := by
        intro p hp; simp at hp; subst hp; simp
      have h8 := Mem.setN (k := 8) (v := .slice ao' m cap') D3.out HM3.out
      have hR := Mem.over (us := stL ⟨ta, tb, tc, td, te, tf, tg, th⟩ (.slice ao' m cap') N2) (b := w.heap.size + 1) (L := []) (by simp) ⟨h8.2.1, trivial⟩ rfl
      have hBl := bl_setCellsW (b := w.heap.size + 1) (Nat.le_succ _) (stL ⟨ta, tb, tc, td, te, tf, tg, th⟩ (.slice ao' m cap') N2) 0 _ (HB3.out.setCell (p := ⟨w.heap.size, 8, none⟩) (Nat.le_refl _) (.slice ao' m cap'))
      have hRr := rangeAt_of hR.1.2.2
      have hO : OwnN w.heap.size 5 1 ((w3.setCell ⟨w.heap.size, 8, none⟩ (.slice ao' m cap')).setCells (w.heap.size + 1) 0 (stL ⟨ta, tb, tc, td, te, tf, tg, th⟩ (.slice ao' m cap') N2)) ao' m cap' (bcells F m) := by
        refine OwnN.kept (HO3.out.base (by omega)) fun g hg => ?_
        have hge : wr.heap.size ≤ g := by
          rcases HO3.out with ⟨h, _⟩ | ⟨g', h, ho⟩
          · rw [h] at hg; cases hg
          · rw [h] at hg; cases hg
            exact (ho.lt g rfl).1
        rw [heap_setCellsW _ _ (by omega)]
        exact Below.heap_setCell _ _ _ _ (by show g ≠ w.heap.size; omega)
      clear hR h8 hF
      change bodyPost _ _ _ _ _ ((w3.setCell ⟨w.heap.size, 8, none⟩ (.slice ao' m cap')).setCells (w.heap.size + 1) 0 (stL ⟨ta, tb, tc, td, te, tf, tg, th⟩ (.slice ao' m cap') N2))
      generalize (w3.setCell ⟨w.heap.size, 8, none⟩ (.slice ao' m cap')).setCells (w.heap.size + 1) 0 (stL ⟨ta, tb, tc, td, te, tf, tg, th⟩ (.slice ao' m cap') N2) = wf at *
      have hl := Go.run_loadVar_mid (P := Tryd.prog) wf (w.heap.size + 1) 0 34 (stL ⟨ta, tb, tc, td, te, tf, tg, th⟩ (.slice ao' m cap') N2) _ hRr Tryd.underlying34 rfl (by kernel_rfl)
      refine bodyPost_ret (v := .agg (stL ⟨ta, tb, tc, td, te, tf, tg, th⟩ (.slice ao' m cap') N2).toArray) (by simp [results, Tryd.results20, asAddr, hl, Act.put]) rfl ?_
      obtain ⟨k1, k2, k3, k4⟩ := HTJ.out
      rw [k1, k2, k3, k4, hN2]
      exact ⟨ao', cap', rfl, hO, hBl⟩
end Go.Proofs.YtlfabchlblgmbaaDoor
