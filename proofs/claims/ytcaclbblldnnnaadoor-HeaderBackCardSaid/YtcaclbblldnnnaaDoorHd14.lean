/- florinref07: Same; florinlaw07: HeaderBack (made by gen_hd13.py). (hM) Merged: Hd13, Hd14. -/
import Derived.Test.YtcaclbblldnnnaaDoorHd7
import Derived.Test.YtcaclbblldnnnaaDoorHd12
import Derived.Test.YtcaclbblldnnnaaDoorSpot
import Derived.Test.YtcaclbblldnnnaaDoorLyes
/- florinref07: Same; florinlaw07: HeaderBack (made by gen_hd13.py). (hM) -/
namespace Go.Proofs.YtcaclbblldnnnaaDoor
set_option linter.unusedVariables false
set_option linter.unusedSimpArgs false
open Go.RowKit

theorem srow_at {w : World} {b off n c : Nat} {L : Nat → Hd} (h : SRow w (some ⟨b, off, none⟩) n c 68 (fun i => hdL (L i))) (i : Nat) (hi : i < n) : w.rangeAt b (off + i * 68) (hdL (L i)) := fun j v hv => by
  rw [Nat.add_assoc]
  exact (h.cells _ rfl i hi j v hv).2
def SmRel (w : World) (n : Nat) (i : Value) (wr : World) : Prop := ∃ j : Nat, j ≤ n ∧ i = .int .i64 j ∧ Below w.heap.size w wr

set_option maxRecDepth 100000 in
set_option maxHeartbeats 4000000 in
theorem same7_any (L M : Nat → Hd) (a1 a2 : Option Addr) (n c1 c2 : Nat) (w : World) (h1 : SRow w a1 n c1 68 (fun i => hdL (L i))) (h2 : SRow w a2 n c2 68 (fun i => hdL (M i))) (he : ∀ i, i < n → hdEq (L i) (M i) = true) (hn : n ≤ 1000000) :
    Calls Tryd.prog 33 #[.slice a1 n c1, .slice a2 n c2] w fun e w' => e = .returned (.bool true) ∧ Below w.heap.size w w' := by
  have H1 := Lib.hid h1
  have H2 := Lib.hid h2
  have HE := Lib.hid he
  have HN := Lib.hid hn
  have hB0 := Lib.hid (Below.refl w.heap.size w)
  clear h1 h2 he hn
  go_enter Tryd.func33, Tryd.ntmps33
  go_wp2
  go_loopw [5] (fun i wr => SmRel w n i wr) (fun i _ => n - (intOf i).toNat)
  case atStart => exact ⟨0, Nat.zero_le _, rfl, hB0.out⟩
  case round =>
    obtain ⟨j, hj, rfl, hB⟩ := hrel
    by_cases hlt : j < n
    · obtain ⟨b1, o1, rfl⟩ := H1.out.addr (by decide) (by omega)
      obtain ⟨b2, o2, rfl⟩ := H2.out.addr (by decide) (by omega)
      have k1 : b1 < w.heap.size := H1.out.lt (by decide) (by omega) _ rfl
      have k2 : b2 < w.heap.size := H2.out.lt (by decide) (by omega) _ rfl
      have hjn : (j : Int) < (n : Int) := by omega
      have hw1 : IntKind.i64.wrap ((j : Int) + 1) = ((j + 1 : Nat) : Int) := by rw [IntKind.wrap_i64]; have := HN.out; omega
      have HR : Hid (∀ x, Below w.heap.size w x → x.rangeAt b1 (o1 + j * 68) (hdL (L j)) ∧ x.rangeAt b2 (o2 + j * 68) (hdL (M j))) := fun x hb =>
        ⟨fun i v hv => (hb.cell (p := ⟨b1, _, none⟩) k1).trans (srow_at H1.out j hlt i v hv), fun i v hv => (hb.cell (p := ⟨b2, _, none⟩) k2).trans (srow_at H2.out j hlt i v hv)⟩
      have hNe := neq_hdr (L j) (M j) false (by rw [HE.out j hlt]; rfl)
      clear k1 k2
      go_wp2
      refine wp_plan (fun x => x.rangeAt b1 (o1 + j * 68) (hdL (L j)) ∧ x.rangeAt b2 (o2 + j * 68) (hdL (M j))) [] [0, 1, 2, 3, 4, 5, 6, 7, 8] (by kernel_rfl) (by kernel_rfl) (HR.out _ hB.drew) (fun hHeld => ?_)
      iterate 3 (refine wpT_take rfl (by rfl) (by rfl) (by intro w' hSw; (try dsimp only [Mem, cellsAt] at hSw); go_simp; (try with_reducible rfl)) (by assumption) ?_; (try simp only [Act.put, List.setIfInBounds_toArray, List.set_cons_zero, List.set_cons_succ]))
      (refine wpT_yield rfl (by rfl) (Go.yieldsIf_load_mid (by rfl) 54 (.tmp 19) rfl b1 (o1 + j * 68) rfl (hdL (L j)) _ (fun w' h => h.1) Tryd.underlying54 rfl (by rw [hdL_len]; kernel_rfl)) (by assumption) ?_; (try simp only [Act.put, List.setIfInBounds_toArray, List.set_cons_zero, List.set_cons_succ]))
      iterate 3 (refine wpT_take rfl (by rfl) (by rfl) (by intro w' hSw; (try dsimp only [Mem, cellsAt] at hSw); go_simp; (try with_reducible rfl)) (by assumption) ?_; (try simp only [Act.put, List.setIfInBounds_toArray, List.set_cons_zero, List.set_cons_succ]))
      (refine wpT_yield rfl (by rfl) (Go.yieldsIf_load_mid (by rfl) 54 (.tmp 23) rfl b2 (o2 + j * 68) rfl (hdL (M j)) _ (fun w' h => h.2) Tryd.underlying54 rfl (by rw [hdL_len]; kernel_rfl)) (by assumption) ?_; (try simp only [Act.put, List.setIfInBounds_toArray, List.set_cons_zero, List.set_cons_succ]))
      iterate 1 (refine wpT_take rfl (by rfl) (by rfl) (by intro w' hSw; (try dsimp only [Mem, cellsAt] at hSw); go_simp; (try with_reducible rfl)) (by assumption) ?_; (try simp only [Act.put, List.setIfInBounds_toArray, List.set_cons_zero, List.set_cons_succ]))
      (refine wpT_nil ?_)
      go_wp2
      refine ⟨⟨j + 1, by omega, by go_num, hB.drew⟩, by simp [intOf]; omega⟩
    · have hjn : ¬ (j : Int) < (n : Int) := by omega
      go_wp2
      go_ret
      exact ⟨rfl, hB⟩

theorem hdEq_get (h : Hd) (ho : HdOk h) : hdEq (getH (hdF h)) h = true := by
  have p1 : hl (getH (hdF h)).p = hl h.p := hl_eq.2 fun i hi => by
    show hdF h (4 + i) = h.p i
    unfold hdF
    rw [if_neg (by omega), if_pos (by omega), show 4 + i - 4 = i by omega]
  have p2 : hl (getH (hdF h)).r = hl h.r := hl_eq.2 fun i hi => by
    show hdF h (36 + i) = h.r i
    unfold hdF
    rw [if_neg (by omega), if_neg (by omega), if_pos (by omega), show 36 + i - 36 = i by omega]
  have v1 : (getH (hdF h)).v = h.v := num_le4 h.v 0 (hdF h) ho.v fun i hi => by unfold hdF; rw [if_pos (by omega), Nat.zero_add]
  have v2 : (getH (hdF h)).t = h.t := num_le4 h.t 68 (hdF h) ho.t fun i hi => by
    unfold hdF; rw [if_neg (by omega), if_neg (by omega), if_neg (by omega), if_pos (by omega), show 68 + i - 68 = i by omega]
  have v3 : (getH (hdF h)).b = h.b := num_le4 h.b 72 (hdF h) ho.b fun i hi => by
    unfold hdF; rw [if_neg (by omega), if_neg (by omega), if_neg (by omega), if_neg (by omega), if_pos (by omega), show 72 + i - 72 = i by omega]
  have v4 : (getH (hdF h)).n = h.n := num_le4 h.n 76 (hdF h) ho.n fun i hi => by
    unfold hdF; rw [if_neg (by omega), if_neg (by omega), if_neg (by omega), if_neg (by omega), if_neg (by omega), show 76 + i - 76 = i by omega]
  unfold hdEq
  rw [p1, p2, v1, v2, v3, v4]
  simp
/-- the bytes of n headers, as PutAll lays them -/
def allF (L : Nat → Hd) (n i : Nat) : Int := if i = 0 then n else if (i - 1) % 81 < 80 then hdF (L ((i - 1) / 81)) ((i - 1) % 81) else 0
theorem allF_b (L : Nat → Hd) (hL : ∀ i, HdOk (L i)) (n : Nat) (hn : n ≤ 40) (i : Nat) : 0 ≤ allF L n i ∧ allF L n i < 256 := by
  unfold allF
  split
  · omega
  split
  · exact hdF_b (hL _) _
  · omega
theorem allF_at (L : Nat → Hd) (n j i : Nat) (hi : i < 80) : allF L n (1 + 81 * j + i) = hdF (L j) i := by
  unfold allF
  rw [if_neg (by omega), if_pos (by omega), show (1 + 81 * j + i - 1) / 81 = j by omega, show (1 + 81 * j + i - 1) % 81 = i by omega]
theorem allF_end (L : Nat → Hd) (n j : Nat) : allF L n (1 + 81 * j + 80) = 0 := by
  unfold allF
  rw [if_neg (by omega), if_neg (by omega)]
theorem putL_small (n : Nat) (hn : n ≤ 40) : putL (n : Int) = [.int .u8 n] := by
  unfold putL
  rw [if_pos (by omega)]
theorem allF_cells (L : Nat → Hd) (n : Nat) (hn : n ≤ 40) : ∀ k, allL L n k = bcells (allF L n) (1 + 81 * k)
  | 0 => by
    rw [allL, putL_small n hn]
    show _ = [Value.int .u8 (allF L n 0)]
    rfl
  | k + 1 => by
    rw [allL, allF_cells L n hn k, show 1 + 81 * (k + 1) = 1 + 81 * k + 80 + 1 by omega, bcells_split _ (1 + 81 * k + 80) 1, bcells_split _ (1 + 81 * k) 80]
    have e1 : b8l (hdF (L k)) 80 = bcells (fun i => allF L n (1 + 81 * k + i)) 80 := b8l_congr fun i hi => (allF_at L n k i hi).symm
    have e2 : bcells (fun i => allF L n (1 + 81 * k + 80 + i)) 1 = [.int .u8 0] := by
      show [Value.int .u8 (allF L n (1 + 81 * k + 80 + 0))] = _
      rw [Nat.add_zero, allF_end]
    rw [e1, e2]
theorem getF_one (f : Nat → Int) (n len : Nat) (hn : n ≤ 40) (h0 : f 0 = n) (hl : 0 < len) : getF f len = ((n : Int), 1, 0) := by
  have hs : sizeBehindN (f 0) = 1 := by rw [h0]; unfold sizeBehindN; split <;> (try split) <;> (try split) <;> omega
  unfold getF
  rw [if_neg (by omega), if_pos hs, h0]
theorem bound_one (f : Nat → Int) (n len : Nat) (hn : n ≤ 40) (h0 : f 0 = n) (hl : 0 < len) : (boundN (getF f len).1 (getF f len).2.1 (getF f len).2.2 2000).2.2 = 0 := by
  rw [getF_one f n len hn h0 hl]
  unfold boundN
  rw [if_neg (by simp), if_pos (by omega)]
/-- bytes of headers with one less, none, one more: what is told -/
theorem gall_good {f : Nat → Int} {n m : Nat} {er : Int} (hn : n ≤ 40) (h0 : f 0 = n) (hz : ∀ j, j < n → f (1 + 81 * j + 80) = 0) (h : Gall f (1 + 81 * n) m er) : er = 0 ∧ m = n := by
  have hg := getF_one f n (1 + 81 * n) hn h0 (by omega)
  have hb := bound_one f n (1 + 81 * n) hn h0 (by omega)
  have same : ∀ N k : Nat, getF f (1 + 81 * n) = ((N : Int), (k : Int), 0) → N = n ∧ k = 1 := fun N k h => by
    rw [hg] at h
    simp only [Prod.mk.injEq] at h
    omega
  cases h with
  | head e he h => rw [hb] at h; exact absurd h.symm he
  | short N k i hg' _ hi _ hs => obtain ⟨rfl, rfl⟩ := same N k hg'; omega
  | form N k i hg' _ hi _ _ hz' => obtain ⟨rfl, rfl⟩ := same N k hg'; exact absurd (hz i hi) hz'
  | more N k hg' _ _ hs => obtain ⟨rfl, rfl⟩ := same N k hg'; omega
  | good N k hg' _ _ _ _ => obtain ⟨rfl, rfl⟩ := same _ k hg'; exact ⟨rfl, rfl⟩
theorem gall_less {f : Nat → Int} {n m : Nat} {er : Int} (hn : n ≤ 40) (h0 : f 0 = n) (hz : ∀ j, j < n → f (1 + 81 * j + 80) = 0) (h : Gall f (81 * n) m er) : er = 1 := by
  rcases Nat.eq_zero_or_pos n with hn0 | hn0
  · subst hn0
    have hg : getF f (81 * 0) = (0, 0, 1) := by unfold getF; rw [if_pos (by omega)]
    have hb : (boundN (getF f (81 * 0)).1 (getF f (81 * 0)).2.1 (getF f (81 * 0)).2.2 2000).2.2 = 1 := by rw [hg]; rfl
    have no : ∀ N k : Nat, getF f (81 * 0) ≠ ((N : Int), (k : Int), 0) := fun N k h => by rw [hg] at h; simp at h
    cases h with
    | head e he h => rw [hb] at h; exact h.symm
    | short N k i hg' _ _ _ _ => exact absurd hg' (no N k)
    | form N k i hg' _ _ _ _ _ => exact absurd hg' (no N k)
    | more N k hg' _ _ _ => exact absurd hg' (no N k)
    | good N k hg' _ _ _ _ => exact absurd hg' (no _ k)
  · have hg := getF_one f n (81 * n) hn h0 (by omega)
    have hb := bound_one f n (81 * n) hn h0 (by omega)
    have same : ∀ N k : Nat, getF f (81 * n) = ((N : Int), (k : Int), 0) → N = n ∧ k = 1 := fun N k h => by
      rw [hg] at h
      simp only [Prod.mk.injEq] at h
      omega
    cases h with
    | head e he h => rw [hb] at h; exact absurd h.symm he
    | short N k i hg' _ hi _ hs => rfl
    | form N k i hg' _ hi _ _ hz' => obtain ⟨rfl, rfl⟩ := same N k hg'; exact absurd (hz i hi) hz'
    | more N k hg' _ _ hs => obtain ⟨rfl, rfl⟩ := same N k hg'; omega
    | good N k hg' _ _ hs _ => obtain ⟨rfl, rfl⟩ := same _ k hg'; omega
theorem gall_more {f : Nat → Int} {n m : Nat} {er : Int} (hn : n ≤ 40) (h0 : f 0 = n) (hz : ∀ j, j < n → f (1 + 81 * j + 80) = 0) (h : Gall f (1 + 81 * n + 1) m er) : er = 2 := by
  have hg := getF_one f n (1 + 81 * n + 1) hn h0 (by omega)
  have hb := bound_one f n (1 + 81 * n + 1) hn h0 (by omega)
  have same : ∀ N k : Nat, getF f (1 + 81 * n + 1) = ((N : Int), (k : Int), 0) → N = n ∧ k = 1 := fun N k h => by
    rw [hg] at h
    simp only [Prod.mk.injEq] at h
    omega
  cases h with
  | head e he h => rw [hb] at h; exact absurd h.symm he
  | short N k i hg' _ hi _ hs => obtain ⟨rfl, rfl⟩ := same N k hg'; omega
  | form N k i hg' _ hi _ _ hz' => obtain ⟨rfl, rfl⟩ := same N k hg'; exact absurd (hz i hi) hz'
  | more N k hg' _ _ hs => rfl
  | good N k hg' _ _ hs _ => obtain ⟨rfl, rfl⟩ := same _ k hg'; omega
theorem gotH_all (L : Nat → Hd) (hL : ∀ i, HdOk (L i)) (n j : Nat) : hdEq (gotH (allF L n) 1 j) (L j) = true := by
  have e : ∀ i, i < 80 → allF L n (1 + 81 * j + i) = hdF (L j) i := fun i hi => allF_at L n j i hi
  have h := hdEq_get (L j) (hL j)
  have c : ∀ (a : Nat), a + 4 ≤ 80 → numV (fun i => allF L n (1 + 81 * j + i)) a 4 = numV (hdF (L j)) a 4 := fun a ha => by
    show 0 + allF L n (1 + 81 * j + (a + 0)) * 256 ^ 0 + allF L n (1 + 81 * j + (a + 1)) * 256 ^ 1 + allF L n (1 + 81 * j + (a + 2)) * 256 ^ 2 + allF L n (1 + 81 * j + (a + 3)) * 256 ^ 3 = 0 + hdF (L j) (a + 0) * 256 ^ 0 + hdF (L j) (a + 1) * 256 ^ 1 + hdF (L j) (a + 2) * 256 ^ 2 + hdF (L j) (a + 3) * 256 ^ 3
    rw [e (a + 0) (by omega), e (a + 1) (by omega), e (a + 2) (by omega), e (a + 3) (by omega)]
  have p1 : hl (gotH (allF L n) 1 j).p = hl (getH (hdF (L j))).p := hl_eq.2 fun i hi => e (4 + i) (by omega)
  have p2 : hl (gotH (allF L n) 1 j).r = hl (getH (hdF (L j))).r := hl_eq.2 fun i hi => e (36 + i) (by omega)
  have v1 : (gotH (allF L n) 1 j).v = (getH (hdF (L j))).v := c 0 (by omega)
  have v2 : (gotH (allF L n) 1 j).t = (getH (hdF (L j))).t := c 68 (by omega)
  have v3 : (gotH (allF L n) 1 j).b = (getH (hdF (L j))).b := c 72 (by omega)
  have v4 : (gotH (allF L n) 1 j).n = (getH (hdF (L j))).n := c 76 (by omega)
  unfold hdEq at h ⊢
  rw [p1, p2, v1, v2, v3, v4]
  exact h
end Go.Proofs.YtcaclbblldnnnaaDoor

/- florinlaw07: HeaderBack (made by gen_hd13.py). (hM) -/
namespace Go.Proofs.YtcaclbblldnnnaaDoor
set_option linter.unusedVariables false
set_option linter.unusedSimpArgs false
open Go.RowKit

theorem getall_good3 (b off c n len : Nat) (f : Nat → Int) (hlen : len = 1 + 81 * n) (w : World) (hr : Row w (some ⟨b, off, none⟩) len c 1 (bcells f len)) (hf : ∀ i, 0 ≤ f i ∧ f i < 256) (hn : n ≤ 40) (h0 : f 0 = n) (hz : ∀ j, j < n → f (1 + 81 * j + 80) = 0) :
    Calls Tryd.prog 32 #[.slice (some ⟨b, off, none⟩) len c] w fun e w' => ∃ (ao : Option Addr) (cap : Nat), e = .returned (.tuple #[.slice ao n cap, .int .i64 0]) ∧ SRow w' ao n cap 68 (fun i => hdL (gotH f 1 i)) ∧ Below w.heap.size w w' := by
  subst hlen
  refine (getall_any b off c (1 + 81 * n) f w hr hf (by omega)).mono ?_
  rintro e w' ⟨ao, m, cap, er, rfl, hg, hrow, _, hb⟩
  obtain ⟨he, hm⟩ := gall_good hn h0 hz hg
  rw [he, hm] at hg ⊢
  have h1 := hrow 1 he (by rw [hm]; exact getF_one f n _ hn h0 (by omega))
  rw [hm] at h1
  exact ⟨ao, cap, rfl, hdsL_row h1, hb⟩
theorem getall_less3 (b off c n len : Nat) (f : Nat → Int) (hlen : len = 81 * n) (w : World) (hr : Row w (some ⟨b, off, none⟩) len c 1 (bcells f len)) (hf : ∀ i, 0 ≤ f i ∧ f i < 256) (hn : n ≤ 40) (h0 : f 0 = n) (hz : ∀ j, j < n → f (1 + 81 * j + 80) = 0) :
    Calls Tryd.prog 32 #[.slice (some ⟨b, off, none⟩) len c] w fun e w' => ∃ v : Value, e = .returned (.tuple #[v, .int .i64 1]) ∧ Below w.heap.size w w' := by
  subst hlen
  refine (getall_any b off c (81 * n) f w hr hf (by omega)).mono ?_
  rintro e w' ⟨ao, m, cap, er, rfl, hg, _, _, hb⟩
  exact ⟨_, by rw [gall_less hn h0 hz hg], hb⟩
theorem getall_more3 (b off c n len : Nat) (f : Nat → Int) (hlen : len = 1 + 81 * n + 1) (w : World) (hr : Row w (some ⟨b, off, none⟩) len c 1 (bcells f len)) (hf : ∀ i, 0 ≤ f i ∧ f i < 256) (hn : n ≤ 40) (h0 : f 0 = n) (hz : ∀ j, j < n → f (1 + 81 * j + 80) = 0) :
    Calls Tryd.prog 32 #[.slice (some ⟨b, off, none⟩) len c] w fun e w' => ∃ v : Value, e = .returned (.tuple #[v, .int .i64 2]) ∧ Below w.heap.size w w' := by
  subst hlen
  refine (getall_any b off c (1 + 81 * n + 1) f w hr hf (by omega)).mono ?_
  rintro e w' ⟨ao, m, cap, er, rfl, hg, _, _, hb⟩
  exact ⟨_, by rw [gall_more hn h0 hz hg], hb⟩

set_option maxRecDepth 100000 in
theorem hback_early (h : Hd) (lo : Option Addr) (n lc : Nat) (w : World) (hT : Tab w) (hbig : 40 < n) :
    Calls Tryd.prog 6 #[hdV h, .slice lo n lc] w fun e w' => e = .returned (.bool true) ∧ Below w.heap.size w w' := by
  have HA := Lib.hid (fun (x : World) (hb : Below w.heap.size w x) => awake7_any x (hT.later hb))
  have hB := bl_al (Below.refl w.heap.size w) (.cells (hdL h).toArray 54)
  have hM := Lib.hid (Mem.al (mem_nil w) (hdL h) 54)
  have hF : True := trivial
  have e1 : 40 < (n : Int) := by omega
  clear hT hbig
  go_enter Tryd.func6, Tryd.ntmps6
  go_wp2_with (go_at_call 28; (with_reducible refine (HA.out _ (by (repeat (first | exact hB | refine bl_al ?_ _ | refine Below.setCell ?_ (by first | exact hgs | exact Nat.le_succ_of_le hgs | exact hgs2 | exact hgs3) _ | refine Below.drew ?_ | refine bl_drewN ?_ _)))).mono ?_); rintro e w1 ⟨rfl, hb⟩; have hB : Below w.heap.size w w1 := (by refine bl_then ?_ hb; (repeat (first | exact hB | refine bl_al ?_ _ | refine Below.setCell ?_ (by first | exact hgs | exact Nat.le_succ_of_le hgs | exact hgs2 | exact hgs3) _ | refine Below.drew ?_ | refine bl_drewN ?_ _))); (first | with_reducible have hM2 := Mem.later hb (hM.out) | with_reducible have hM2 := Mem.later hb (Mem.al (hM.out) _ _) | with_reducible have hM2 := Mem.later hb (Mem.al (Mem.al (hM.out) _ _) _ _) | with_reducible have hM2 := Mem.later hb (Mem.al (Mem.al (Mem.al (hM.out) _ _) _ _) _ _) | with_reducible have hM2 := Mem.later hb (Mem.al (Mem.al (Mem.al (Mem.al (hM.out) _ _) _ _) _ _) _ _) | with_reducible have hM2 := Mem.later hb (Mem.drew (hM.out)) | with_reducible have hM2 := Mem.later hb (Mem.drew (Mem.al (hM.out) _ _)) | with_reducible have hM2 := Mem.later hb (Mem.al (Mem.drew (hM.out)) _ _) | with_reducible have hM2 := Mem.later hb (Mem.al (Mem.drew (Mem.al (hM.out) _ _)) _ _) | with_reducible have hM2 := Mem.later hb (Mem.drew (Mem.al (Mem.al (hM.out) _ _) _ _)) | with_reducible have hM2 := Mem.later hb (Mem.al (Mem.al (Mem.drew (hM.out)) _ _) _ _) | with_reducible have hM2 := Mem.later hb (Mem.drew (Mem.drew (hM.out))) | with_reducible have hM2 := Mem.later hb (Mem.drew (Mem.al (Mem.drew (hM.out)) _ _)) | with_reducible have hM2 := Mem.later hb (Mem.drew (Mem.al (Mem.al (Mem.al (hM.out) _ _) _ _) _ _)) | with_reducible have hM2 := Mem.later hb (Mem.al (Mem.al (Mem.drew (Mem.al (hM.out) _ _)) _ _) _ _) | with_reducible have hM2 := Mem.later hb (Mem.drew (Mem.al (Mem.drew (Mem.al (hM.out) _ _)) _ _)) | with_reducible have hM2 := Mem.later hb (Mem.al (Mem.al (Mem.al (Mem.al (Mem.al (hM.out) _ _) _ _) _ _) _ _) _ _) | with_reducible have hM2 := Mem.later hb (Mem.al (Mem.al (Mem.al (Mem.al (Mem.al (Mem.al (hM.out) _ _) _ _) _ _) _ _) _ _) _ _) | with_reducible have hM2 := Mem.later hb (Mem.al (Mem.al (Mem.al (Mem.al (Mem.al (Mem.al (Mem.al (hM.out) _ _) _ _) _ _) _ _) _ _) _ _) _ _) | with_reducible have hM2 := Mem.later hb (Mem.al (Mem.al (Mem.al (Mem.al (Mem.al (Mem.al (Mem.al (Mem.al (hM.out) _ _) _ _) _ _) _ _) _ _) _ _) _ _) _ _)); (try simp only [World.size_alloc, size_drew] at hM2); clear hM; have hM := Lib.hid hM2; clear hF; have hF := hM2; (try simp only [Mem, cellsAt, World.size_alloc, Nat.zero_add, Nat.reduceAdd, and_true] at hF); clear hM2; clear hb)
  go_ret
  exact ⟨rfl, by (repeat (first | exact hB | refine bl_al ?_ _ | refine Below.setCell ?_ (by first | exact hgs | exact Nat.le_succ_of_le hgs | exact hgs2 | exact hgs3) _ | refine Below.drew ?_ | refine bl_drewN ?_ _))⟩

set_option maxRecDepth 100000 in
set_option maxHeartbeats 40000000 in
theorem hback_walk (h : Hd) (ho : HdOk h) (L : Nat → Hd) (hL : ∀ i, HdOk (L i)) (lo : Option Addr) (n lc : Nat) (w : World) (hT : Tab w) (hr : SRow w lo n lc 68 (fun i => hdL (L i))) (hn : n ≤ 40) :
    Calls Tryd.prog 6 #[hdV h, .slice lo n lc] w fun e w' => e = .returned (.bool true) ∧ Below w.heap.size w w' := by
  have HA := Lib.hid (fun (x : World) (hb : Below w.heap.size w x) => awake7_any x (hT.later hb))
  have HPut := Lib.hid (fun (x : World) => hput_any h ho x)
  have hG1 := fun (x : World) (g : Nat) (hr : Row x (some ⟨g, 0, none⟩) 80 80 1 (bcells (hdF h) 80)) => hget_any g 0 80 (hdF h) x hr (hdF_b ho)
  have hEq := fun (x : World) => eql_hdr (getH (hdF h)) h true (hdEq_get h ho) x
  obtain ⟨H, hH⟩ : ∃ H, getH (hdF h) = H := ⟨_, rfl⟩
  simp only [hH] at hG1 hEq
  have HG1 := Lib.hid hG1
  have HG2 := Lib.hid (fun (x : World) (g : Nat) => get_short7 (some ⟨g, 0, none⟩) 79 80 x (by omega))
  have HG3 := Lib.hid (fun (x : World) (g cp : Nat) => get_big7 (some ⟨g, 0, none⟩) 81 cp x (by omega))
  have hPA := fun (x : World) (hb : Below w.heap.size w x) => putall_any L hL lo n lc x (hr.later (by decide) hb) (by omega)
  have hFb := allF_b L hL n hn
  have hcel := allF_cells L n hn n
  have hpl1 : (putL (n : Int)).length = 1 := by rw [putL_small n hn]; rfl
  simp only [hpl1, hcel] at hPA
  have hz : ∀ j, j < n → allF L n (1 + 81 * j + 80) = 0 := fun j _ => allF_end L n j
  have hf0 : allF L n 0 = (n : Int) := rfl
  obtain ⟨pl, hpl⟩ : ∃ pl, 1 + 81 * n = pl := ⟨_, rfl⟩
  obtain ⟨p8, hp8⟩ : ∃ p8, 81 * n = p8 := ⟨_, rfl⟩
  have HGa1 := Lib.hid (fun (x : World) (g c : Nat) (hr : Row x (some ⟨g, 0, none⟩) pl c 1 (bcells (allF L n) pl)) => getall_good3 g 0 c n pl (allF L n) hpl.symm x hr hFb hn hf0 hz)
  have HGa2 := Lib.hid (fun (x : World) (g c : Nat) (hr : Row x (some ⟨g, 0, none⟩) p8 c 1 (bcells (allF L n) p8)) => getall_less3 g 0 c n p8 (allF L n) hp8.symm x hr hFb hn hf0 hz)
  have HGa3 := Lib.hid (fun (x : World) (g c : Nat) (hr : Row x (some ⟨g, 0, none⟩) (pl + 1) c 1 (bcells (catF (allF L n) pl fun _ => 0) (pl + 1))) => getall_more3 g 0 c n (pl + 1) (catF (allF L n) pl fun _ => 0) (by omega) x hr (fun i => by unfold catF; split; exact hFb i; exact (by decide : (0 : Int) ≤ 0 ∧ (0 : Int) < 256)) hn (by unfold catF; rw [if_pos (by omega)]; exact hf0) (fun j hj => by unfold catF; rw [if_pos (by omega)]; exact hz j hj))
  have HSm := Lib.hid (fun (x : World) (hb : Below w.heap.size w x) (ao : Option Addr) (cp : Nat) (h1 : SRow x ao n cp 68 (fun i => hdL (gotH (allF L n) 1 i))) => same7_any (gotH (allF L n) 1) L ao lo n cp lc x h1 (hr.later (by decide) hb) (fun i _ => gotH_all L hL n i) (by omega))
  rw [hpl] at hPA
  have HPA := Lib.hid hPA
  have HP8 := Lib.hid (And.intro hpl (And.intro hp8 hn))
  have e1 : ¬ 40 < (n : Int) := by omega
  have f1 : IntKind.i64.wrap (81 * (n : Int)) = (p8 : Int) := by rw [IntKind.wrap_i64]; omega
  have f2 : IntKind.i64.wrap ((p8 : Int) + 1) = (pl : Int) := by rw [IntKind.wrap_i64]; omega
  have f3 : IntKind.i64.wrap ((pl : Int) - 1) = (p8 : Int) := by rw [IntKind.wrap_i64]; omega
  have f4 : (p8 : Int) ≤ (pl : Int) := by omega
  have hB := bl_al (Below.refl w.heap.size w) (.cells (hdL h).toArray 54)
  have hM := Lib.hid (Mem.al (mem_nil w) (hdL h) 54)
  have hF : True := trivial
  clear hT hr hL ho hn hG1 hPA hFb hcel hpl1 hz hf0 hpl hp8 hH
  go_enter Tryd.func6, Tryd.ntmps6
  go_wp2_with (first |
    (go_at_call 28; (with_reducible refine (HA.out _ (by (repeat (first | exact hB | refine bl_al ?_ _ | refine Below.setCell ?_ (by first | exact hgs | exact Nat.le_succ_of_le hgs | exact hgs2 | exact hgs3) _ | refine Below.drew ?_ | refine bl_drewN ?_ _)))).mono ?_); rintro e w1 ⟨rfl, hb⟩; have hB : Below w.heap.size w w1 := (by refine bl_then ?_ hb; (repeat (first | exact hB | refine bl_al ?_ _ | refine Below.setCell ?_ (by first | exact hgs | exact Nat.le_succ_of_le hgs | exact hgs2 | exact hgs3) _ | refine Below.drew ?_ | refine bl_drewN ?_ _))); (first | with_reducible have hM2 := Mem.later hb (hM.out) | with_reducible have hM2 := Mem.later hb (Mem.al (hM.out) _ _) | with_reducible have hM2 := Mem.later hb (Mem.al (Mem.al (hM.out) _ _) _ _) | with_reducible have hM2 := Mem.later hb (Mem.al (Mem.al (Mem.al (hM.out) _ _) _ _) _ _) | with_reducible have hM2 := Mem.later hb (Mem.al (Mem.al (Mem.al (Mem.al (hM.out) _ _) _ _) _ _) _ _) | with_reducible have hM2 := Mem.later hb (Mem.drew (hM.out)) | with_reducible have hM2 := Mem.later hb (Mem.drew (Mem.al (hM.out) _ _)) | with_reducible have hM2 := Mem.later hb (Mem.al (Mem.drew (hM.out)) _ _) | with_reducible have hM2 := Mem.later hb (Mem.al (Mem.drew (Mem.al (hM.out) _ _)) _ _) | with_reducible have hM2 := Mem.later hb (Mem.drew (Mem.al (Mem.al (hM.out) _ _) _ _)) | with_reducible have hM2 := Mem.later hb (Mem.al (Mem.al (Mem.drew (hM.out)) _ _) _ _) | with_reducible have hM2 := Mem.later hb (Mem.drew (Mem.drew (hM.out))) | with_reducible have hM2 := Mem.later hb (Mem.drew (Mem.al (Mem.drew (hM.out)) _ _)) | with_reducible have hM2 := Mem.later hb (Mem.drew (Mem.al (Mem.al (Mem.al (hM.out) _ _) _ _) _ _)) | with_reducible have hM2 := Mem.later hb (Mem.al (Mem.al (Mem.drew (Mem.al (hM.out) _ _)) _ _) _ _) | with_reducible have hM2 := Mem.later hb (Mem.drew (Mem.al (Mem.drew (Mem.al (hM.out) _ _)) _ _)) | with_reducible have hM2 := Mem.later hb (Mem.al (Mem.al (Mem.al (Mem.al (Mem.al (hM.out) _ _) _ _) _ _) _ _) _ _) | with_reducible have hM2 := Mem.later hb (Mem.al (Mem.al (Mem.al (Mem.al (Mem.al (Mem.al (hM.out) _ _) _ _) _ _) _ _) _ _) _ _) | with_reducible have hM2 := Mem.later hb (Mem.al (Mem.al (Mem.al (Mem.al (Mem.al (Mem.al (Mem.al (hM.out) _ _) _ _) _ _) _ _) _ _) _ _) _ _) | with_reducible have hM2 := Mem.later hb (Mem.al (Mem.al (Mem.al (Mem.al (Mem.al (Mem.al (Mem.al (Mem.al (hM.out) _ _) _ _) _ _) _ _) _ _) _ _) _ _) _ _)); (try simp only [World.size_alloc, size_drew] at hM2); clear hM; have hM := Lib.hid hM2; clear hF; have hF := hM2; (try simp only [Mem, cellsAt, World.size_alloc, Nat.zero_add, Nat.reduceAdd, and_true] at hF); clear hM2; clear hb; clear hF; have hF : True := trivial) |
    (refine Go.wpList_load_mid rfl 54 (.tmp 2) rfl w.heap.size 0 rfl (hdL h) _ (rangeAt_of (Mem.get hM.out (by simp))) Tryd.underlying54 rfl (by rw [hdL_len]; kernel_rfl) ?_) |
    (go_at_call 29; (with_reducible refine (HPut.out _).mono ?_); rintro e w2 ⟨g1, rfl, _, hmp, hb⟩; have HRp := Lib.hid (row_ofWc (Nat.le_refl 80) hmp.1.2.2); clear hmp; have hB : Below w.heap.size w w2 := (by refine bl_then ?_ hb; (repeat (first | exact hB | refine bl_al ?_ _ | refine Below.setCell ?_ (by first | exact hgs | exact Nat.le_succ_of_le hgs | exact hgs2 | exact hgs3) _ | refine Below.drew ?_ | refine bl_drewN ?_ _))); (first | with_reducible have hM2 := Mem.later hb (hM.out) | with_reducible have hM2 := Mem.later hb (Mem.al (hM.out) _ _) | with_reducible have hM2 := Mem.later hb (Mem.al (Mem.al (hM.out) _ _) _ _) | with_reducible have hM2 := Mem.later hb (Mem.al (Mem.al (Mem.al (hM.out) _ _) _ _) _ _) | with_reducible have hM2 := Mem.later hb (Mem.al (Mem.al (Mem.al (Mem.al (hM.out) _ _) _ _) _ _) _ _) | with_reducible have hM2 := Mem.later hb (Mem.drew (hM.out)) | with_reducible have hM2 := Mem.later hb (Mem.drew (Mem.al (hM.out) _ _)) | with_reducible have hM2 := Mem.later hb (Mem.al (Mem.drew (hM.out)) _ _) | with_reducible have hM2 := Mem.later hb (Mem.al (Mem.drew (Mem.al (hM.out) _ _)) _ _) | with_reducible have hM2 := Mem.later hb (Mem.drew (Mem.al (Mem.al (hM.out) _ _) _ _)) | with_reducible have hM2 := Mem.later hb (Mem.al (Mem.al (Mem.drew (hM.out)) _ _) _ _) | with_reducible have hM2 := Mem.later hb (Mem.drew (Mem.drew (hM.out))) | with_reducible have hM2 := Mem.later hb (Mem.drew (Mem.al (Mem.drew (hM.out)) _ _)) | with_reducible have hM2 := Mem.later hb (Mem.drew (Mem.al (Mem.al (Mem.al (hM.out) _ _) _ _) _ _)) | with_reducible have hM2 := Mem.later hb (Mem.al (Mem.al (Mem.drew (Mem.al (hM.out) _ _)) _ _) _ _) | with_reducible have hM2 := Mem.later hb (Mem.drew (Mem.al (Mem.drew (Mem.al (hM.out) _ _)) _ _)) | with_reducible have hM2 := Mem.later hb (Mem.al (Mem.al (Mem.al (Mem.al (Mem.al (hM.out) _ _) _ _) _ _) _ _) _ _) | with_reducible have hM2 := Mem.later hb (Mem.al (Mem.al (Mem.al (Mem.al (Mem.al (Mem.al (hM.out) _ _) _ _) _ _) _ _) _ _) _ _) | with_reducible have hM2 := Mem.later hb (Mem.al (Mem.al (Mem.al (Mem.al (Mem.al (Mem.al (Mem.al (hM.out) _ _) _ _) _ _) _ _) _ _) _ _) _ _) | with_reducible have hM2 := Mem.later hb (Mem.al (Mem.al (Mem.al (Mem.al (Mem.al (Mem.al (Mem.al (Mem.al (hM.out) _ _) _ _) _ _) _ _) _ _) _ _) _ _) _ _)); (try simp only [World.size_alloc, size_drew] at hM2); clear hM; have hM := Lib.hid hM2; clear hF; have hF := hM2; (try simp only [Mem, cellsAt, World.size_alloc, Nat.zero_add, Nat.reduceAdd, and_true] at hF); clear hM2; clear hb; clear hF; have hF : True := trivial) |
    (go_at_call 30; (with_reducible refine (HG1.out _ _ HRp.out).mono ?_); rintro e w3 ⟨rfl, hb⟩; (try (replace HRp := Lib.hid (HRp.out.later hb))); (try (replace HRc := Lib.hid (HRc.out.later hb))); (try (replace HS := Lib.hid (HS.out.later (by decide) hb))); have hB : Below w.heap.size w w3 := (by refine bl_then ?_ hb; (repeat (first | exact hB | refine bl_al ?_ _ | refine Below.setCell ?_ (by first | exact hgs | exact Nat.le_succ_of_le hgs | exact hgs2 | exact hgs3) _ | refine Below.drew ?_ | refine bl_drewN ?_ _))); (first | with_reducible have hM2 := Mem.later hb (hM.out) | with_reducible have hM2 := Mem.later hb (Mem.al (hM.out) _ _) | with_reducible have hM2 := Mem.later hb (Mem.al (Mem.al (hM.out) _ _) _ _) | with_reducible have hM2 := Mem.later hb (Mem.al (Mem.al (Mem.al (hM.out) _ _) _ _) _ _) | with_reducible have hM2 := Mem.later hb (Mem.al (Mem.al (Mem.al (Mem.al (hM.out) _ _) _ _) _ _) _ _) | with_reducible have hM2 := Mem.later hb (Mem.drew (hM.out)) | with_reducible have hM2 := Mem.later hb (Mem.drew (Mem.al (hM.out) _ _)) | with_reducible have hM2 := Mem.later hb (Mem.al (Mem.drew (hM.out)) _ _) | with_reducible have hM2 := Mem.later hb (Mem.al (Mem.drew (Mem.al (hM.out) _ _)) _ _) | with_reducible have hM2 := Mem.later hb (Mem.drew (Mem.al (Mem.al (hM.out) _ _) _ _)) | with_reducible have hM2 := Mem.later hb (Mem.al (Mem.al (Mem.drew (hM.out)) _ _) _ _) | with_reducible have hM2 := Mem.later hb (Mem.drew (Mem.drew (hM.out))) | with_reducible have hM2 := Mem.later hb (Mem.drew (Mem.al (Mem.drew (hM.out)) _ _)) | with_reducible have hM2 := Mem.later hb (Mem.drew (Mem.al (Mem.al (Mem.al (hM.out) _ _) _ _) _ _)) | with_reducible have hM2 := Mem.later hb (Mem.al (Mem.al (Mem.drew (Mem.al (hM.out) _ _)) _ _) _ _) | with_reducible have hM2 := Mem.later hb (Mem.drew (Mem.al (Mem.drew (Mem.al (hM.out) _ _)) _ _)) | with_reducible have hM2 := Mem.later hb (Mem.al (Mem.al (Mem.al (Mem.al (Mem.al (hM.out) _ _) _ _) _ _) _ _) _ _) | with_reducible have hM2 := Mem.later hb (Mem.al (Mem.al (Mem.al (Mem.al (Mem.al (Mem.al (hM.out) _ _) _ _) _ _) _ _) _ _) _ _) | with_reducible have hM2 := Mem.later hb (Mem.al (Mem.al (Mem.al (Mem.al (Mem.al (Mem.al (Mem.al (hM.out) _ _) _ _) _ _) _ _) _ _) _ _) _ _) | with_reducible have hM2 := Mem.later hb (Mem.al (Mem.al (Mem.al (Mem.al (Mem.al (Mem.al (Mem.al (Mem.al (hM.out) _ _) _ _) _ _) _ _) _ _) _ _) _ _) _ _)); (try simp only [World.size_alloc, size_drew] at hM2); clear hM; have hM := Lib.hid hM2; clear hF; have hF := hM2; (try simp only [Mem, cellsAt, World.size_alloc, Nat.zero_add, Nat.reduceAdd, and_true] at hF); clear hM2; clear hb; clear hF; have hF : True := trivial) |
    (refine wpList_store_newV rfl (.tmp 7) (.tmp 36) 54 rfl _ (hdL H) _ Tryd.underlying54 rfl (by rw [hdL_len]; kernel_rfl) (by rw [hdL_len]; rfl) (hdL_one _) rfl rfl hM.out ?_; intro W7 hMW hb; have hBW := bl_then hB hb; (try (replace HRp := Lib.hid (HRp.out.later hb))); (try (replace HRc := Lib.hid (HRc.out.later hb))); (try (replace HS := Lib.hid (HS.out.later (by decide) hb))); obtain ⟨b7, hbx⟩ : ∃ b, w3.heap.size = b := ⟨_, rfl⟩; rw [hbx] at hMW; simp only [hbx]; clear hbx; clear hM hF hB; have hM := Lib.hid hMW; have hB := hBW; have hF : True := trivial; clear hMW hb hBW) |
    (go_at_call 30; (with_reducible refine (HG2.out _ _).mono ?_); rintro e w4 ⟨rfl, hb⟩; (try (replace HRp := Lib.hid (HRp.out.later hb))); (try (replace HRc := Lib.hid (HRc.out.later hb))); (try (replace HS := Lib.hid (HS.out.later (by decide) hb))); have hB : Below w.heap.size w w4 := (by refine bl_then ?_ hb; (repeat (first | exact hB | refine bl_al ?_ _ | refine Below.setCell ?_ (by first | exact hgs | exact Nat.le_succ_of_le hgs | exact hgs2 | exact hgs3) _ | refine Below.drew ?_ | refine bl_drewN ?_ _))); (first | with_reducible have hM2 := Mem.later hb (hM.out) | with_reducible have hM2 := Mem.later hb (Mem.al (hM.out) _ _) | with_reducible have hM2 := Mem.later hb (Mem.al (Mem.al (hM.out) _ _) _ _) | with_reducible have hM2 := Mem.later hb (Mem.al (Mem.al (Mem.al (hM.out) _ _) _ _) _ _) | with_reducible have hM2 := Mem.later hb (Mem.al (Mem.al (Mem.al (Mem.al (hM.out) _ _) _ _) _ _) _ _) | with_reducible have hM2 := Mem.later hb (Mem.drew (hM.out)) | with_reducible have hM2 := Mem.later hb (Mem.drew (Mem.al (hM.out) _ _)) | with_reducible have hM2 := Mem.later hb (Mem.al (Mem.drew (hM.out)) _ _) | with_reducible have hM2 := Mem.later hb (Mem.al (Mem.drew (Mem.al (hM.out) _ _)) _ _) | with_reducible have hM2 := Mem.later hb (Mem.drew (Mem.al (Mem.al (hM.out) _ _) _ _)) | with_reducible have hM2 := Mem.later hb (Mem.al (Mem.al (Mem.drew (hM.out)) _ _) _ _) | with_reducible have hM2 := Mem.later hb (Mem.drew (Mem.drew (hM.out))) | with_reducible have hM2 := Mem.later hb (Mem.drew (Mem.al (Mem.drew (hM.out)) _ _)) | with_reducible have hM2 := Mem.later hb (Mem.drew (Mem.al (Mem.al (Mem.al (hM.out) _ _) _ _) _ _)) | with_reducible have hM2 := Mem.later hb (Mem.al (Mem.al (Mem.drew (Mem.al (hM.out) _ _)) _ _) _ _) | with_reducible have hM2 := Mem.later hb (Mem.drew (Mem.al (Mem.drew (Mem.al (hM.out) _ _)) _ _)) | with_reducible have hM2 := Mem.later hb (Mem.al (Mem.al (Mem.al (Mem.al (Mem.al (hM.out) _ _) _ _) _ _) _ _) _ _) | with_reducible have hM2 := Mem.later hb (Mem.al (Mem.al (Mem.al (Mem.al (Mem.al (Mem.al (hM.out) _ _) _ _) _ _) _ _) _ _) _ _) | with_reducible have hM2 := Mem.later hb (Mem.al (Mem.al (Mem.al (Mem.al (Mem.al (Mem.al (Mem.al (hM.out) _ _) _ _) _ _) _ _) _ _) _ _) _ _) | with_reducible have hM2 := Mem.later hb (Mem.al (Mem.al (Mem.al (Mem.al (Mem.al (Mem.al (Mem.al (Mem.al (hM.out) _ _) _ _) _ _) _ _) _ _) _ _) _ _) _ _)); (try simp only [World.size_alloc, size_drew] at hM2); clear hM; have hM := Lib.hid hM2; clear hF; have hF := hM2; (try simp only [Mem, cellsAt, World.size_alloc, Nat.zero_add, Nat.reduceAdd, and_true] at hF); clear hM2; clear hb; clear hF; have hF : True := trivial) |
    (refine wpList_store_newV rfl (.tmp 9) (.tmp 42) 54 rfl _ (hdL hd0) _ Tryd.underlying54 rfl (by rw [hdL_len]; kernel_rfl) (by rw [hdL_len]; rfl) (hdL_one _) rfl rfl hM.out ?_; intro W9 hMW hb; have hBW := bl_then hB hb; (try (replace HRp := Lib.hid (HRp.out.later hb))); (try (replace HRc := Lib.hid (HRc.out.later hb))); (try (replace HS := Lib.hid (HS.out.later (by decide) hb))); obtain ⟨b9, hbx⟩ : ∃ b, w4.heap.size = b := ⟨_, rfl⟩; rw [hbx] at hMW; simp only [hbx]; clear hbx; clear hM hF hB; have hM := Lib.hid hMW; have hB := hBW; have hF : True := trivial; clear hMW hb hBW) |
    (refine wpList_appN eltU8 W9 _ (below_alloc W9 _) rfl (.tmp 44) (.tmp 45) rfl (some ⟨W9.heap.size, 0, none⟩) 0 0 [] rfl (ownN_lit0 _ _ _ _ (Nat.le_refl _)) (some ⟨g1, 0, none⟩) 80 80 (bcells (hdF h) 80) rfl (HRp.out.later (below_alloc _ _)) (fun h => by cases h) (by omega) ?_; intro g2 cp2 wA hownA hbA; have HoA : Hid (wA.ownsRow W9.heap.size 5 1 (.slice (some ⟨g2, 0, none⟩) 80 cp2) 80 (bcells (hdF h) 80)) := hownA; have HbA := Lib.hid hbA; clear hownA hbA) |
    (refine wpList_appN eltU8 W9 _ (bl_al HbA.out _) rfl (.tmp 47) (.tmp 48) rfl (some ⟨g2, 0, none⟩) 80 cp2 (bcells (hdF h) 80) rfl (.inr ⟨g2, rfl, ownsRow_later HoA.out (below_alloc _ _)⟩) (some ⟨wA.heap.size, 0, none⟩) 1 1 [.int .u8 0] rfl (row_new wA #[.int .u8 0] 5 1 1 1 rfl (Nat.le_refl _) (by simp [Value.oneCell'])) (fun h => by cases h) (by omega) ?_; intro g3 cp3 wB hownB hb; clear hownB HoA HbA; have hM2 := Mem.later hb hM.out; have hB2 := bl_then hB hb; clear hM hB hb; have hM := Lib.hid hM2; have hB := hB2; clear hM2 hB2) |
    (go_at_call 30; (with_reducible refine (HG3.out _ _ _).mono ?_); rintro e w5 ⟨rfl, hb⟩; have hB : Below w.heap.size w w5 := (by refine bl_then ?_ hb; (repeat (first | exact hB | refine bl_al ?_ _ | refine Below.setCell ?_ (by first | exact hgs | exact Nat.le_succ_of_le hgs | exact hgs2 | exact hgs3) _ | refine Below.drew ?_ | refine bl_drewN ?_ _))); (first | with_reducible have hM2 := Mem.later hb (hM.out) | with_reducible have hM2 := Mem.later hb (Mem.al (hM.out) _ _) | with_reducible have hM2 := Mem.later hb (Mem.al (Mem.al (hM.out) _ _) _ _) | with_reducible have hM2 := Mem.later hb (Mem.al (Mem.al (Mem.al (hM.out) _ _) _ _) _ _) | with_reducible have hM2 := Mem.later hb (Mem.al (Mem.al (Mem.al (Mem.al (hM.out) _ _) _ _) _ _) _ _) | with_reducible have hM2 := Mem.later hb (Mem.drew (hM.out)) | with_reducible have hM2 := Mem.later hb (Mem.drew (Mem.al (hM.out) _ _)) | with_reducible have hM2 := Mem.later hb (Mem.al (Mem.drew (hM.out)) _ _) | with_reducible have hM2 := Mem.later hb (Mem.al (Mem.drew (Mem.al (hM.out) _ _)) _ _) | with_reducible have hM2 := Mem.later hb (Mem.drew (Mem.al (Mem.al (hM.out) _ _) _ _)) | with_reducible have hM2 := Mem.later hb (Mem.al (Mem.al (Mem.drew (hM.out)) _ _) _ _) | with_reducible have hM2 := Mem.later hb (Mem.drew (Mem.drew (hM.out))) | with_reducible have hM2 := Mem.later hb (Mem.drew (Mem.al (Mem.drew (hM.out)) _ _)) | with_reducible have hM2 := Mem.later hb (Mem.drew (Mem.al (Mem.al (Mem.al (hM.out) _ _) _ _) _ _)) | with_reducible have hM2 := Mem.later hb (Mem.al (Mem.al (Mem.drew (Mem.al (hM.out) _ _)) _ _) _ _) | with_reducible have hM2 := Mem.later hb (Mem.drew (Mem.al (Mem.drew (Mem.al (hM.out) _ _)) _ _)) | with_reducible have hM2 := Mem.later hb (Mem.al (Mem.al (Mem.al (Mem.al (Mem.al (hM.out) _ _) _ _) _ _) _ _) _ _) | with_reducible have hM2 := Mem.later hb (Mem.al (Mem.al (Mem.al (Mem.al (Mem.al (Mem.al (hM.out) _ _) _ _) _ _) _ _) _ _) _ _) | with_reducible have hM2 := Mem.later hb (Mem.al (Mem.al (Mem.al (Mem.al (Mem.al (Mem.al (Mem.al (hM.out) _ _) _ _) _ _) _ _) _ _) _ _) _ _) | with_reducible have hM2 := Mem.later hb (Mem.al (Mem.al (Mem.al (Mem.al (Mem.al (Mem.al (Mem.al (Mem.al (hM.out) _ _) _ _) _ _) _ _) _ _) _ _) _ _) _ _)); (try simp only [World.size_alloc, size_drew] at hM2); clear hM; have hM := Lib.hid hM2; clear hF; have hF := hM2; (try simp only [Mem, cellsAt, World.size_alloc, Nat.zero_add, Nat.reduceAdd, and_true] at hF); clear hM2; clear hb; clear hF; have hF : True := trivial) |
    (refine wpList_store_newV rfl (.tmp 12) (.tmp 53) 54 rfl _ (hdL hd0) _ Tryd.underlying54 rfl (by rw [hdL_len]; kernel_rfl) (by rw [hdL_len]; rfl) (hdL_one _) rfl rfl hM.out ?_; intro W12 hMW hb; have hBW := bl_then hB hb; (try (replace HRp := Lib.hid (HRp.out.later hb))); (try (replace HRc := Lib.hid (HRc.out.later hb))); (try (replace HS := Lib.hid (HS.out.later (by decide) hb))); obtain ⟨b12, hbx⟩ : ∃ b, w5.heap.size = b := ⟨_, rfl⟩; rw [hbx] at hMW; simp only [hbx]; clear hbx; clear hM hF hB; have hM := Lib.hid hMW; have hB := hBW; have hF : True := trivial; clear hMW hb hBW) |
    (go_at_call 31; (with_reducible refine (HPA.out _ (by (repeat (first | exact hB | refine bl_al ?_ _ | refine Below.setCell ?_ (by first | exact hgs | exact Nat.le_succ_of_le hgs | exact hgs2 | exact hgs3) _ | refine Below.drew ?_ | refine bl_drewN ?_ _)))).mono ?_); rintro e w6 ⟨g6, cp6, rfl, hown, hb⟩; have HRc := Lib.hid (row_own hown (bcells_one _ _)); have f5 : (p8 : Int) ≤ (cp6 : Int) := (by have := HRc.out.le; have := HP8.out; omega); clear hown; have hB : Below w.heap.size w w6 := (by refine bl_then ?_ hb; (repeat (first | exact hB | refine bl_al ?_ _ | refine Below.setCell ?_ (by first | exact hgs | exact Nat.le_succ_of_le hgs | exact hgs2 | exact hgs3) _ | refine Below.drew ?_ | refine bl_drewN ?_ _))); (first | with_reducible have hM2 := Mem.later hb (hM.out) | with_reducible have hM2 := Mem.later hb (Mem.al (hM.out) _ _) | with_reducible have hM2 := Mem.later hb (Mem.al (Mem.al (hM.out) _ _) _ _) | with_reducible have hM2 := Mem.later hb (Mem.al (Mem.al (Mem.al (hM.out) _ _) _ _) _ _) | with_reducible have hM2 := Mem.later hb (Mem.al (Mem.al (Mem.al (Mem.al (hM.out) _ _) _ _) _ _) _ _) | with_reducible have hM2 := Mem.later hb (Mem.drew (hM.out)) | with_reducible have hM2 := Mem.later hb (Mem.drew (Mem.al (hM.out) _ _)) | with_reducible have hM2 := Mem.later hb (Mem.al (Mem.drew (hM.out)) _ _) | with_reducible have hM2 := Mem.later hb (Mem.al (Mem.drew (Mem.al (hM.out) _ _)) _ _) | with_reducible have hM2 := Mem.later hb (Mem.drew (Mem.al (Mem.al (hM.out) _ _) _ _)) | with_reducible have hM2 := Mem.later hb (Mem.al (Mem.al (Mem.drew (hM.out)) _ _) _ _) | with_reducible have hM2 := Mem.later hb (Mem.drew (Mem.drew (hM.out))) | with_reducible have hM2 := Mem.later hb (Mem.drew (Mem.al (Mem.drew (hM.out)) _ _)) | with_reducible have hM2 := Mem.later hb (Mem.drew (Mem.al (Mem.al (Mem.al (hM.out) _ _) _ _) _ _)) | with_reducible have hM2 := Mem.later hb (Mem.al (Mem.al (Mem.drew (Mem.al (hM.out) _ _)) _ _) _ _) | with_reducible have hM2 := Mem.later hb (Mem.drew (Mem.al (Mem.drew (Mem.al (hM.out) _ _)) _ _)) | with_reducible have hM2 := Mem.later hb (Mem.al (Mem.al (Mem.al (Mem.al (Mem.al (hM.out) _ _) _ _) _ _) _ _) _ _) | with_reducible have hM2 := Mem.later hb (Mem.al (Mem.al (Mem.al (Mem.al (Mem.al (Mem.al (hM.out) _ _) _ _) _ _) _ _) _ _) _ _) | with_reducible have hM2 := Mem.later hb (Mem.al (Mem.al (Mem.al (Mem.al (Mem.al (Mem.al (Mem.al (hM.out) _ _) _ _) _ _) _ _) _ _) _ _) _ _) | with_reducible have hM2 := Mem.later hb (Mem.al (Mem.al (Mem.al (Mem.al (Mem.al (Mem.al (Mem.al (Mem.al (hM.out) _ _) _ _) _ _) _ _) _ _) _ _) _ _) _ _)); (try simp only [World.size_alloc, size_drew] at hM2); clear hM; have hM := Lib.hid hM2; clear hF; have hF := hM2; (try simp only [Mem, cellsAt, World.size_alloc, Nat.zero_add, Nat.reduceAdd, and_true] at hF); clear hM2; clear hb; clear hF; have hF : True := trivial) |
    (go_at_call 32; first |
      ((with_reducible refine (HGa1.out _ _ _ HRc.out).mono ?_); rintro e w7 ⟨ao7, cp7, rfl, hs7, hb⟩; have HS := Lib.hid hs7; clear hs7; (replace HRc := Lib.hid (HRc.out.later hb)); have hB : Below w.heap.size w w7 := (by refine bl_then ?_ hb; (repeat (first | exact hB | refine bl_al ?_ _ | refine Below.setCell ?_ (by first | exact hgs | exact Nat.le_succ_of_le hgs | exact hgs2 | exact hgs3) _ | refine Below.drew ?_ | refine bl_drewN ?_ _))); (first | with_reducible have hM2 := Mem.later hb (hM.out) | with_reducible have hM2 := Mem.later hb (Mem.al (hM.out) _ _) | with_reducible have hM2 := Mem.later hb (Mem.al (Mem.al (hM.out) _ _) _ _) | with_reducible have hM2 := Mem.later hb (Mem.al (Mem.al (Mem.al (hM.out) _ _) _ _) _ _) | with_reducible have hM2 := Mem.later hb (Mem.al (Mem.al (Mem.al (Mem.al (hM.out) _ _) _ _) _ _) _ _) | with_reducible have hM2 := Mem.later hb (Mem.drew (hM.out)) | with_reducible have hM2 := Mem.later hb (Mem.drew (Mem.al (hM.out) _ _)) | with_reducible have hM2 := Mem.later hb (Mem.al (Mem.drew (hM.out)) _ _) | with_reducible have hM2 := Mem.later hb (Mem.al (Mem.drew (Mem.al (hM.out) _ _)) _ _) | with_reducible have hM2 := Mem.later hb (Mem.drew (Mem.al (Mem.al (hM.out) _ _) _ _)) | with_reducible have hM2 := Mem.later hb (Mem.al (Mem.al (Mem.drew (hM.out)) _ _) _ _) | with_reducible have hM2 := Mem.later hb (Mem.drew (Mem.drew (hM.out))) | with_reducible have hM2 := Mem.later hb (Mem.drew (Mem.al (Mem.drew (hM.out)) _ _)) | with_reducible have hM2 := Mem.later hb (Mem.drew (Mem.al (Mem.al (Mem.al (hM.out) _ _) _ _) _ _)) | with_reducible have hM2 := Mem.later hb (Mem.al (Mem.al (Mem.drew (Mem.al (hM.out) _ _)) _ _) _ _) | with_reducible have hM2 := Mem.later hb (Mem.drew (Mem.al (Mem.drew (Mem.al (hM.out) _ _)) _ _)) | with_reducible have hM2 := Mem.later hb (Mem.al (Mem.al (Mem.al (Mem.al (Mem.al (hM.out) _ _) _ _) _ _) _ _) _ _) | with_reducible have hM2 := Mem.later hb (Mem.al (Mem.al (Mem.al (Mem.al (Mem.al (Mem.al (hM.out) _ _) _ _) _ _) _ _) _ _) _ _) | with_reducible have hM2 := Mem.later hb (Mem.al (Mem.al (Mem.al (Mem.al (Mem.al (Mem.al (Mem.al (hM.out) _ _) _ _) _ _) _ _) _ _) _ _) _ _) | with_reducible have hM2 := Mem.later hb (Mem.al (Mem.al (Mem.al (Mem.al (Mem.al (Mem.al (Mem.al (Mem.al (hM.out) _ _) _ _) _ _) _ _) _ _) _ _) _ _) _ _)); (try simp only [World.size_alloc, size_drew] at hM2); clear hM; have hM := Lib.hid hM2; clear hF; have hF := hM2; (try simp only [Mem, cellsAt, World.size_alloc, Nat.zero_add, Nat.reduceAdd, and_true] at hF); clear hM2; clear hb; clear hF; have hF : True := trivial) |
      ((with_reducible refine (HGa2.out _ _ _ (row_pre HRc.out p8 (by have := HP8.out; omega))).mono ?_); rintro e wL ⟨v8, rfl, hb⟩; (try (replace HRp := Lib.hid (HRp.out.later hb))); (try (replace HRc := Lib.hid (HRc.out.later hb))); (try (replace HS := Lib.hid (HS.out.later (by decide) hb))); have hB : Below w.heap.size w wL := (by refine bl_then ?_ hb; (repeat (first | exact hB | refine bl_al ?_ _ | refine Below.setCell ?_ (by first | exact hgs | exact Nat.le_succ_of_le hgs | exact hgs2 | exact hgs3) _ | refine Below.drew ?_ | refine bl_drewN ?_ _))); (first | with_reducible have hM2 := Mem.later hb (hM.out) | with_reducible have hM2 := Mem.later hb (Mem.al (hM.out) _ _) | with_reducible have hM2 := Mem.later hb (Mem.al (Mem.al (hM.out) _ _) _ _) | with_reducible have hM2 := Mem.later hb (Mem.al (Mem.al (Mem.al (hM.out) _ _) _ _) _ _) | with_reducible have hM2 := Mem.later hb (Mem.al (Mem.al (Mem.al (Mem.al (hM.out) _ _) _ _) _ _) _ _) | with_reducible have hM2 := Mem.later hb (Mem.drew (hM.out)) | with_reducible have hM2 := Mem.later hb (Mem.drew (Mem.al (hM.out) _ _)) | with_reducible have hM2 := Mem.later hb (Mem.al (Mem.drew (hM.out)) _ _) | with_reducible have hM2 := Mem.later hb (Mem.al (Mem.drew (Mem.al (hM.out) _ _)) _ _) | with_reducible have hM2 := Mem.later hb (Mem.drew (Mem.al (Mem.al (hM.out) _ _) _ _)) | with_reducible have hM2 := Mem.later hb (Mem.al (Mem.al (Mem.drew (hM.out)) _ _) _ _) | with_reducible have hM2 := Mem.later hb (Mem.drew (Mem.drew (hM.out))) | with_reducible have hM2 := Mem.later hb (Mem.drew (Mem.al (Mem.drew (hM.out)) _ _)) | with_reducible have hM2 := Mem.later hb (Mem.drew (Mem.al (Mem.al (Mem.al (hM.out) _ _) _ _) _ _)) | with_reducible have hM2 := Mem.later hb (Mem.al (Mem.al (Mem.drew (Mem.al (hM.out) _ _)) _ _) _ _) | with_reducible have hM2 := Mem.later hb (Mem.drew (Mem.al (Mem.drew (Mem.al (hM.out) _ _)) _ _)) | with_reducible have hM2 := Mem.later hb (Mem.al (Mem.al (Mem.al (Mem.al (Mem.al (hM.out) _ _) _ _) _ _) _ _) _ _) | with_reducible have hM2 := Mem.later hb (Mem.al (Mem.al (Mem.al (Mem.al (Mem.al (Mem.al (hM.out) _ _) _ _) _ _) _ _) _ _) _ _) | with_reducible have hM2 := Mem.later hb (Mem.al (Mem.al (Mem.al (Mem.al (Mem.al (Mem.al (Mem.al (hM.out) _ _) _ _) _ _) _ _) _ _) _ _) _ _) | with_reducible have hM2 := Mem.later hb (Mem.al (Mem.al (Mem.al (Mem.al (Mem.al (Mem.al (Mem.al (Mem.al (hM.out) _ _) _ _) _ _) _ _) _ _) _ _) _ _) _ _)); (try simp only [World.size_alloc, size_drew] at hM2); clear hM; have hM := Lib.hid hM2; clear hF; have hF := hM2; (try simp only [Mem, cellsAt, World.size_alloc, Nat.zero_add, Nat.reduceAdd, and_true] at hF); clear hM2; clear hb; clear hF; have hF : True := trivial) |
      ((with_reducible refine (HGa3.out _ _ _ HRm.out).mono ?_); rintro e w9 ⟨v9, rfl, hb⟩; (replace HS := Lib.hid (HS.out.later (by decide) hb)); have hB : Below w.heap.size w w9 := (by refine bl_then ?_ hb; (repeat (first | exact hB | refine bl_al ?_ _ | refine Below.setCell ?_ (by first | exact hgs | exact Nat.le_succ_of_le hgs | exact hgs2 | exact hgs3) _ | refine Below.drew ?_ | refine bl_drewN ?_ _))); (first | with_reducible have hM2 := Mem.later hb (hM.out) | with_reducible have hM2 := Mem.later hb (Mem.al (hM.out) _ _) | with_reducible have hM2 := Mem.later hb (Mem.al (Mem.al (hM.out) _ _) _ _) | with_reducible have hM2 := Mem.later hb (Mem.al (Mem.al (Mem.al (hM.out) _ _) _ _) _ _) | with_reducible have hM2 := Mem.later hb (Mem.al (Mem.al (Mem.al (Mem.al (hM.out) _ _) _ _) _ _) _ _) | with_reducible have hM2 := Mem.later hb (Mem.drew (hM.out)) | with_reducible have hM2 := Mem.later hb (Mem.drew (Mem.al (hM.out) _ _)) | with_reducible have hM2 := Mem.later hb (Mem.al (Mem.drew (hM.out)) _ _) | with_reducible have hM2 := Mem.later hb (Mem.al (Mem.drew (Mem.al (hM.out) _ _)) _ _) | with_reducible have hM2 := Mem.later hb (Mem.drew (Mem.al (Mem.al (hM.out) _ _) _ _)) | with_reducible have hM2 := Mem.later hb (Mem.al (Mem.al (Mem.drew (hM.out)) _ _) _ _) | with_reducible have hM2 := Mem.later hb (Mem.drew (Mem.drew (hM.out))) | with_reducible have hM2 := Mem.later hb (Mem.drew (Mem.al (Mem.drew (hM.out)) _ _)) | with_reducible have hM2 := Mem.later hb (Mem.drew (Mem.al (Mem.al (Mem.al (hM.out) _ _) _ _) _ _)) | with_reducible have hM2 := Mem.later hb (Mem.al (Mem.al (Mem.drew (Mem.al (hM.out) _ _)) _ _) _ _) | with_reducible have hM2 := Mem.later hb (Mem.drew (Mem.al (Mem.drew (Mem.al (hM.out) _ _)) _ _)) | with_reducible have hM2 := Mem.later hb (Mem.al (Mem.al (Mem.al (Mem.al (Mem.al (hM.out) _ _) _ _) _ _) _ _) _ _) | with_reducible have hM2 := Mem.later hb (Mem.al (Mem.al (Mem.al (Mem.al (Mem.al (Mem.al (hM.out) _ _) _ _) _ _) _ _) _ _) _ _) | with_reducible have hM2 := Mem.later hb (Mem.al (Mem.al (Mem.al (Mem.al (Mem.al (Mem.al (Mem.al (hM.out) _ _) _ _) _ _) _ _) _ _) _ _) _ _) | with_reducible have hM2 := Mem.later hb (Mem.al (Mem.al (Mem.al (Mem.al (Mem.al (Mem.al (Mem.al (Mem.al (hM.out) _ _) _ _) _ _) _ _) _ _) _ _) _ _) _ _)); (try simp only [World.size_alloc, size_drew] at hM2); clear hM; have hM := Lib.hid hM2; clear hF; have hF := hM2; (try simp only [Mem, cellsAt, World.size_alloc, Nat.zero_add, Nat.reduceAdd, and_true] at hF); clear hM2; clear hb; clear hF; have hF : True := trivial)) |
    (refine wpList_appN eltU8 wL _ (below_alloc wL _) rfl (.tmp 81) (.tmp 82) rfl (some ⟨wL.heap.size, 0, none⟩) 0 0 [] rfl (ownN_lit0 _ _ _ _ (Nat.le_refl _)) (some ⟨g6, 0, none⟩) pl cp6 (bcells (allF L n) pl) rfl (HRc.out.later (below_alloc _ _)) (fun h => by cases h) (by have := HP8.out; omega) ?_; intro g10 cp10 wC hownC hbC; rw [Nat.zero_add, List.nil_append] at hownC; have HoC := Lib.hid hownC; have HbC := Lib.hid hbC; clear hownC hbC) |
    (refine wpList_appN eltU8 wL _ (bl_al HbC.out _) rfl (.tmp 84) (.tmp 85) rfl (some ⟨g10, 0, none⟩) pl cp10 (bcells (allF L n) pl) rfl (.inr ⟨g10, rfl, ownsRow_later HoC.out (below_alloc _ _)⟩) (some ⟨wC.heap.size, 0, none⟩) 1 1 [.int .u8 0] rfl (row_new wC #[.int .u8 0] 5 1 1 1 rfl (Nat.le_refl _) (by simp [Value.oneCell'])) (fun h => by cases h) (by have := HP8.out; omega) ?_; intro g11 cp11 wD hownD hb; rw [show ([Value.int .u8 0] : List Value) = bcells (fun _ => 0) 1 from rfl, catF_cells] at hownD; have HRm := Lib.hid (row_own hownD (bcells_one _ _)); clear hownD HoC HbC; (replace HS := Lib.hid (HS.out.later (by decide) hb)); have hM2 := Mem.later hb hM.out; have hB2 := bl_then hB hb; clear hM hB hb; have hM := Lib.hid hM2; have hB := hB2; clear hM2 hB2) |
    (refine wpList_load_yes (by rfl) 54 (.tmp 7) rfl b7 0 rfl (hdL H) _ (rangeAt_of (Mem.get hM.out (by simp))) Tryd.underlying54 rfl (by rw [hdL_len]; kernel_rfl) ?_; refine (?_ : Hid _).out))
  refine Lib.hid ?_
  clear HA HPut HG1 HG2 HG3 HPA HGa1 HGa2 HGa3
  go_wp2_with (first |
    (refine wpList_load_yes (by rfl) 54 (.tmp 2) rfl w.heap.size 0 rfl (hdL h) _ (rangeAt_of (Mem.get hM.out (by simp))) Tryd.underlying54 rfl (by rw [hdL_len]; kernel_rfl) ?_; refine (?_ : Hid _).out))
  refine Lib.hid ?_
  go_wp2_with (first |
    (go_at_call 33; refine (?_ : Hid _).out))
  refine Lib.hid ?_
  (with_reducible refine (HSm.out _ (by (repeat (first | exact hB | refine bl_al ?_ _ | refine Below.setCell ?_ (by first | exact hgs | exact Nat.le_succ_of_le hgs | exact hgs2 | exact hgs3) _ | refine Below.drew ?_ | refine bl_drewN ?_ _))) _ _ HS.out).mono ?_)
  rintro e w12 ⟨rfl, hb⟩
  have hB : Below w.heap.size w w12 := (by refine bl_then ?_ hb; (repeat (first | exact hB | refine bl_al ?_ _ | refine Below.setCell ?_ (by first | exact hgs | exact Nat.le_succ_of_le hgs | exact hgs2 | exact hgs3) _ | refine Below.drew ?_ | refine bl_drewN ?_ _))); (first | with_reducible have hM2 := Mem.later hb (hM.out) | with_reducible have hM2 := Mem.later hb (Mem.al (hM.out) _ _) | with_reducible have hM2 := Mem.later hb (Mem.al (Mem.al (hM.out) _ _) _ _) | with_reducible have hM2 := Mem.later hb (Mem.al (Mem.al (Mem.al (hM.out) _ _) _ _) _ _) | with_reducible have hM2 := Mem.later hb (Mem.al (Mem.al (Mem.al (Mem.al (hM.out) _ _) _ _) _ _) _ _) | with_reducible have hM2 := Mem.later hb (Mem.drew (hM.out)) | with_reducible have hM2 := Mem.later hb (Mem.drew (Mem.al (hM.out) _ _)) | with_reducible have hM2 := Mem.later hb (Mem.al (Mem.drew (hM.out)) _ _) | with_reducible have hM2 := Mem.later hb (Mem.al (Mem.drew (Mem.al (hM.out) _ _)) _ _) | with_reducible have hM2 := Mem.later hb (Mem.drew (Mem.al (Mem.al (hM.out) _ _) _ _)) | with_reducible have hM2 := Mem.later hb (Mem.al (Mem.al (Mem.drew (hM.out)) _ _) _ _) | with_reducible have hM2 := Mem.later hb (Mem.drew (Mem.drew (hM.out))) | with_reducible have hM2 := Mem.later hb (Mem.drew (Mem.al (Mem.drew (hM.out)) _ _)) | with_reducible have hM2 := Mem.later hb (Mem.drew (Mem.al (Mem.al (Mem.al (hM.out) _ _) _ _) _ _)) | with_reducible have hM2 := Mem.later hb (Mem.al (Mem.al (Mem.drew (Mem.al (hM.out) _ _)) _ _) _ _) | with_reducible have hM2 := Mem.later hb (Mem.drew (Mem.al (Mem.drew (Mem.al (hM.out) _ _)) _ _)) | with_reducible have hM2 := Mem.later hb (Mem.al (Mem.al (Mem.al (Mem.al (Mem.al (hM.out) _ _) _ _) _ _) _ _) _ _) | with_reducible have hM2 := Mem.later hb (Mem.al (Mem.al (Mem.al (Mem.al (Mem.al (Mem.al (hM.out) _ _) _ _) _ _) _ _) _ _) _ _) | with_reducible have hM2 := Mem.later hb (Mem.al (Mem.al (Mem.al (Mem.al (Mem.al (Mem.al (Mem.al (hM.out) _ _) _ _) _ _) _ _) _ _) _ _) _ _) | with_reducible have hM2 := Mem.later hb (Mem.al (Mem.al (Mem.al (Mem.al (Mem.al (Mem.al (Mem.al (Mem.al (hM.out) _ _) _ _) _ _) _ _) _ _) _ _) _ _) _ _)); (try simp only [World.size_alloc, size_drew] at hM2); clear hM; have hM := Lib.hid hM2; clear hF; have hF := hM2; (try simp only [Mem, cellsAt, World.size_alloc, Nat.zero_add, Nat.reduceAdd, and_true] at hF); clear hM2; clear hb
  clear hF HSm HS HRm HRc HRp hEq
  (try dsimp only)
  iterate 200 (try (first | go_values | go_skip | go_guarded | go_step | go_upon | go_back | (go_values <;> (try go_simp))))
  go_ret
  exact ⟨rfl, by (repeat (first | exact hB | refine bl_al ?_ _ | refine Below.setCell ?_ (by first | exact hgs | exact Nat.le_succ_of_le hgs | exact hgs2 | exact hgs3) _ | refine Below.drew ?_ | refine bl_drewN ?_ _))⟩
end Go.Proofs.YtcaclbblldnnnaaDoor
