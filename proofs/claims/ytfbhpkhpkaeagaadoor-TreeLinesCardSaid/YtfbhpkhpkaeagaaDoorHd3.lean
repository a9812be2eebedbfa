/- Package header: plain words, putNumber, Put, Id. (hM) Merged: Hd1, Hd2, Hd3. -/
import Derived.Test.YtfbhpkhpkaeagaaDoorHp0
import Derived.Test.YtfbhpkhpkaeagaaDoorSh8
import Derived.Test.YtfbhpkhpkaeagaaDoorHArg
import Derived.Test.YtfbhpkhpkaeagaaDoorHx2
import Derived.Test.YtfbhpkhpkaeagaaDoorCpy
import Derived.Test.YtfbhpkhpkaeagaaDoorVz
import Derived.Test.YtfbhpkhpkaeagaaDoorOpen2
import Derived.Laws.IdiomCopy
import Derived.Test.YtfbhpkhpkaeagaaDoorWpy

/- Package header: plain words: a header, its bytes, its hash; a header as an argument; a part of a box that is copied over. (hM) -/
namespace Go.Proofs.YtfbhpkhpkaeagaaDoor
set_option linter.unusedVariables false
set_option linter.unusedSimpArgs false
open Go.RowKit

/-- a header -/
structure Hd where
  v : Int
  p : Nat → Int
  r : Nat → Int
  t : Int
  b : Int
  n : Int
/-- its numbers are of four bytes, its hashes of bytes -/
structure HdOk (h : Hd) : Prop where
  v : 0 ≤ h.v ∧ h.v < 4294967296
  p : ∀ i, 0 ≤ h.p i ∧ h.p i < 256
  r : ∀ i, 0 ≤ h.r i ∧ h.r i < 256
  t : 0 ≤ h.t ∧ h.t < 4294967296
  b : 0 ≤ h.b ∧ h.b < 4294967296
  n : 0 ≤ h.n ∧ h.n < 4294967296
def hdL (h : Hd) : List Value := .int .u32 h.v :: (b8l h.p 32 ++ (b8l h.r 32 ++ [.int .u32 h.t, .int .u32 h.b, .int .u32 h.n]))
abbrev hdV (h : Hd) : Value := .agg (hdL h).toArray
theorem hdL_len (h : Hd) : (hdL h).length = 68 := by simp [hdL, b8l_len]
theorem hdL_one (h : Hd) : ∀ u ∈ hdL h, u.oneCell' = true := by
  intro u hu
  simp only [hdL, List.mem_cons, List.mem_append, List.not_mem_nil, or_false] at hu
  rcases hu with rfl | hu | hu | rfl | rfl | rfl
  · rfl
  · exact b8l_one _ _ _ hu
  · exact b8l_one _ _ _ hu
  · rfl
  · rfl
  · rfl
theorem hdL_0 (h : Hd) : (hdL h)[0]? = some (.int .u32 h.v) := rfl
theorem hdL_p (h : Hd) (i : Nat) (hi : i < 32) : (hdL h)[1 + i]? = some (.int .u8 (h.p i)) := by
  unfold hdL
  rw [Nat.add_comm, List.getElem?_cons_succ, List.getElem?_append_left (by rw [b8l_len]; exact hi), b8l_get _ _ _ hi]
theorem hdL_r (h : Hd) (i : Nat) (hi : i < 32) : (hdL h)[33 + i]? = some (.int .u8 (h.r i)) := by
  unfold hdL
  rw [show 33 + i = (32 + i) + 1 by omega, List.getElem?_cons_succ, List.getElem?_append_right (by rw [b8l_len]; omega), b8l_len, show 32 + i - 32 = i by omega, List.getElem?_append_left (by rw [b8l_len]; exact hi), b8l_get _ _ _ hi]
theorem hdL_s (h : Hd) (i : Nat) : (hdL h)[65 + i]? = [Value.int .u32 h.t, .int .u32 h.b, .int .u32 h.n][i]? := by
  unfold hdL
  rw [show 65 + i = (64 + i) + 1 by omega, List.getElem?_cons_succ, List.getElem?_append_right (by rw [b8l_len]; omega), b8l_len, show 64 + i - 32 = 32 + i by omega, List.getElem?_append_right (by rw [b8l_len]; omega), b8l_len, show 32 + i - 32 = i by omega]
theorem hdL_t (h : Hd) : (hdL h)[65]? = some (.int .u32 h.t) := hdL_s h 0
theorem hdL_b (h : Hd) : (hdL h)[66]? = some (.int .u32 h.b) := hdL_s h 1
theorem hdL_n (h : Hd) : (hdL h)[67]? = some (.int .u32 h.n) := hdL_s h 2

/-- a number's byte, the lowest first -/
def le4 (x : Int) (i : Nat) : Int := x / 256 ^ i % 256
theorem le4_b (x : Int) (i : Nat) : 0 ≤ le4 x i ∧ le4 x i < 256 := ⟨Int.emod_nonneg _ (by decide), Int.emod_lt_of_pos _ (by decide)⟩
/-- a header's bytes -/
def hdF (h : Hd) (i : Nat) : Int :=
  if i < 4 then le4 h.v i else if i < 36 then h.p (i - 4) else if i < 68 then h.r (i - 36) else if i < 72 then le4 h.t (i - 68) else if i < 76 then le4 h.b (i - 72) else le4 h.n (i - 76)
theorem hdF_b {h : Hd} (k : HdOk h) (i : Nat) : 0 ≤ hdF h i ∧ hdF h i < 256 := by
  unfold hdF
  split
  · exact le4_b _ _
  split
  · exact k.p _
  split
  · exact k.r _
  split
  · exact le4_b _ _
  split
  · exact le4_b _ _
  · exact le4_b _ _
/-- its hash -/
def idF (h : Hd) : Nat → Int := shaF (shaF (hdF h) 80) 32
theorem idF_b (h : Hd) (i : Nat) : 0 ≤ idF h i ∧ idF h i < 256 := shaF_b _ _ _

/-- a hash in cells -/
theorem rdc_hash {w : World} {cs : List Value} (h : RdC Tryd.prog w 24 cs) : ∃ f : Nat → Int, cs = b8l f 32 ∧ ∀ i, 0 ≤ f i ∧ f i < 256 := by
  obtain ⟨hl, hi⟩ := h.array Tryd.underlying24
  have c1 : Tryd.prog.cellsOf 5 = 1 := by kernel_rfl
  have c32 : Tryd.prog.cellsOf 24 = 32 := by kernel_rfl
  rw [c32] at hl
  have key : ∀ i, ∃ z : Int, (i < 32 → cs[i]? = some (.int .u8 z)) ∧ 0 ≤ z ∧ z < 256 := by
    intro i
    by_cases h : i < 32
    · have h2 := hi i h
      rw [c1, Nat.mul_one] at h2
      obtain ⟨z, hz, hw⟩ := h2.int Tryd.underlying5
      refine ⟨z, fun _ => ?_, u8_of_wf hw⟩
      have := congrArg (·[0]?) hz
      simpa [List.getElem?_take, List.getElem?_drop] using this
    · exact ⟨0, fun h' => absurd h' h, by omega⟩
  refine ⟨fun i => (key i).choose, ?_, fun i => (key i).choose_spec.2⟩
  apply List.ext_getElem?
  intro i
  by_cases h : i < 32
  · rw [(key i).choose_spec.1 h, b8l_get _ _ _ h]
  · rw [List.getElem?_eq_none (by omega), List.getElem?_eq_none (by rw [b8l_len]; omega)]
theorem u32_wf7 {n : Int} (h : (Lit.int .u32 n).wf = true) : 0 ≤ n ∧ n < 4294967296 := by
  simp only [Lit.wf, Bool.and_eq_true, decide_eq_true_eq] at h
  have h1 : IntKind.u32.min = 0 := by decide
  have h2 : IntKind.u32.max = 4294967295 := by decide
  omega
set_option maxRecDepth 100000 in
/-- a header in cells -/
theorem rdc_hdr {w : World} {cs : List Value} (hc : RdC Tryd.prog w 26 cs) : ∃ h : Hd, cs = hdL h ∧ HdOk h := by
  obtain ⟨hl, hf⟩ := hc.struct Tryd.underlying26
  have c22 : Tryd.prog.cellsOf 22 = 1 := by kernel_rfl
  have cH : Tryd.prog.cellsOf 24 = 32 := by kernel_rfl
  have cX : Tryd.prog.cellsOf 26 = 68 := by kernel_rfl
  rw [cX] at hl
  have f0 : RdC Tryd.prog w 22 ((cs.drop 0).take (Tryd.prog.cellsOf 22)) := hf 0 _ rfl
  have f1 : RdC Tryd.prog w 24 ((cs.drop 1).take (Tryd.prog.cellsOf 24)) := hf 1 _ rfl
  have f2 : RdC Tryd.prog w 24 ((cs.drop 33).take (Tryd.prog.cellsOf 24)) := hf 2 _ rfl
  have f3 : RdC Tryd.prog w 22 ((cs.drop 65).take (Tryd.prog.cellsOf 22)) := hf 3 _ rfl
  have f4 : RdC Tryd.prog w 22 ((cs.drop 66).take (Tryd.prog.cellsOf 22)) := hf 4 _ rfl
  have f5 : RdC Tryd.prog w 22 ((cs.drop 67).take (Tryd.prog.cellsOf 22)) := hf 5 _ rfl
  rw [c22] at f0 f3 f4 f5
  rw [cH] at f1 f2
  obtain ⟨v, e0, w0⟩ := f0.int Tryd.underlying22
  obtain ⟨p, e1, w1⟩ := rdc_hash f1
  obtain ⟨r, e2, w2⟩ := rdc_hash f2
  obtain ⟨t, e3, w3⟩ := f3.int Tryd.underlying22
  obtain ⟨b, e4, w4⟩ := f4.int Tryd.underlying22
  obtain ⟨n, e5, w5⟩ := f5.int Tryd.underlying22
  refine ⟨⟨v, p, r, t, b, n⟩, ?_, ⟨u32_wf7 w0, w1, w2, u32_wf7 w3, u32_wf7 w4, u32_wf7 w5⟩⟩
  have s (i k : Nat) : cs.drop i = (cs.drop i).take k ++ cs.drop (i + k) := by
    rw [← List.drop_drop]
    exact (List.take_append_drop k _).symm
  have h0 : cs = cs.drop 0 := rfl
  rw [h0, s 0 1, e0, s (0 + 1) 32, e1, s (0 + 1 + 32) 32, e2, s (0 + 1 + 32 + 32) 1, e3, s (0 + 1 + 32 + 32 + 1) 1, e4, s (0 + 1 + 32 + 32 + 1 + 1) 1, e5, List.drop_of_length_le (by omega)]
  simp [hdL]
/-- a header as an argument -/
theorem rd_hdr {w : World} {v : Value} (k : Rd Tryd.prog w 26 v) : ∃ h : Hd, v = hdV h ∧ HdOk h := by
  obtain ⟨cs, rfl, hsz, hc⟩ := k.agg (.inl ⟨_, Tryd.underlying26⟩)
  obtain ⟨h, e, ho⟩ := rdc_hdr hc
  refine ⟨h, ?_, ho⟩
  unfold hdV
  rw [← e]
def hd0 : Hd := ⟨0, fun _ => 0, fun _ => 0, 0, 0, 0⟩
theorem hd0_ok : HdOk hd0 := ⟨by decide, fun _ => (by decide : (0 : Int) ≤ 0 ∧ (0 : Int) < 256), fun _ => (by decide : (0 : Int) ≤ 0 ∧ (0 : Int) < 256), by decide, by decide, by decide⟩
/-- headers as an argument -/
theorem rd_hdrs {w : World} {v : Value} (k : Rd Tryd.prog w 55 v) :
    ∃ (ao : Option Addr) (n c : Nat) (L : Nat → Hd), v = .slice ao n c ∧ SRow w ao n c 68 (fun i => hdL (L i)) ∧ (∀ i, HdOk (L i)) ∧ n ≤ maxLen := by
  obtain ⟨ao, n, c, X, rfl, hX, hs, hn⟩ := k.slice (sz := 68) Tryd.underlying55 (by kernel_rfl) (by decide)
  have this : ∀ i, ∃ h : Hd, (i < n → X i = hdL h) ∧ HdOk h := fun i => by
    by_cases hi : i < n
    · obtain ⟨h, e, ho⟩ := rdc_hdr (hX i hi)
      exact ⟨h, fun _ => e, ho⟩
    · exact ⟨hd0, fun h => absurd h hi, hd0_ok⟩
  refine ⟨ao, n, c, fun i => (this i).choose, rfl, ⟨fun i _ => hdL_len _, hs.le, hs.nil, fun ad ha i hi j u hu => hs.cells ad ha i hi j u ?_⟩, fun i => (this i).choose_spec.2, hn⟩
  rw [(this i).choose_spec.1 hi]
  exact hu

/-- a part of a box written over -/
theorem Mem.part {b : Nat} {L : List (Nat × List Value)} (hd : ∀ p ∈ L, p.1 ≠ b) : ∀ (us : List Value) (o : Nat) (vs : List Value) (w : World), o + us.length ≤ vs.length → Mem w ((b, vs) :: L) → Mem (w.setCells b o us) ((b, spl vs o us) :: L)
  | [], o, vs, w, _, h => by simpa [spl, World.setCells] using h
  | u :: r, o, vs, w, hl, h => by
    rw [World.setCells]
    have h1 := Mem.setN (k := o) (v := u) hd h
    have h2 := Mem.part hd r (o + 1) (vs.set o u) _ (by simp at hl ⊢; omega) h1
    have e : spl (vs.set o u) (o + 1) r = spl vs o (u :: r) := by
      have hlt : o < vs.length := by simp at hl; omega
      unfold spl
      rw [List.take_succ_eq_append_getElem (by simpa using hlt), List.getElem_set_self, List.take_set_of_le (Nat.le_refl o), List.drop_set_of_lt (by omega)]
      simp
      congr 1
      omega
    rwa [e] at h2
/-- copy onto a part of a box -/
theorem wpList_copyB {P : Program} {T E : TypeId} {z : Value} {wd : Nat} (he : Elt P T E z 1 wd) (w : World) {ops : Array Oper} {rest : List Oper} {o : Oper} {a : Act} {Q : Exit → Act → World → Prop} (hgd : o.guard = none) (d s : Operand)
    (ho : o.op = .call { callee := .builtin .copy, args := #[d, s], argTypes := #[T, T] })
    (g off dLen dCap : Nat) (vs : List Value) (L : List (Nat × List Value)) (hm : Mem w ((g, vs) :: L)) (hd : ∀ p ∈ L, p.1 ≠ g) (hde : a.eval d = .slice (some ⟨g, off, none⟩) dLen dCap)
    (sb so m sCap : Nat) (ys : List Value) (hse : a.eval s = .slice (some ⟨sb, so, none⟩) m sCap) (hy : w.rangeAt sb so ys) (hyl : ys.length = m) (h1 : ∀ u ∈ ys, u.oneCell' = true) (hmd : m ≤ dLen) (hfit : off + m ≤ vs.length)
    (h : ∀ W, Mem W ((g, spl vs off ys) :: L) → (∀ w0 : World, w0.heap.size ≤ g → Below w0.heap.size w0 w → Below w0.heap.size w0 W) → wpList P ops Q rest (a.put o.dst (goInt m)) W) : wpList P ops Q (o :: rest) a w := by
  refine wpList_plain hgd fun K hK => ?_
  have hsz : (P.info? E).map (·.size) = some 1 := info_size he
  have hrun := Go.run_copy_cells (P := P) w T T o.type E g off dLen dCap ⟨sb, so, none⟩ m sCap ys he.ht hsz (by rw [hyl]; exact (Nat.min_eq_left hmd).symm)
    (fun j v hj => by rw [addr_add rfl]; exact hy j v hj)
    (fun j hj => by
      obtain ⟨u, hu⟩ : ∃ u, vs[off + j]? = some u := ⟨_, List.getElem?_eq_getElem (by omega)⟩
      rw [cellsAt_get hm.1.2.2 hu]
      rfl)
    (fun j hj => hm.1.2.1 _) h1
  rw [hyl] at hrun
  unfold Oper.wp
  simp [execOp, ho, resolve, invoke, builtin, hde, hse, hrun, Result.andThen]
  exact hK _ _ (h _ (Mem.part hd ys off vs w (by omega) hm) fun w0 hg hb => bl_setCellsW hg _ _ _ hb)
/-- the same as one step of a region that draws its order -/
theorem step_copyB {P : Program} {T E : TypeId} {z : Value} {wd : Nat} (he : Elt P T E z 1 wd) (w : World) {ops : Array Oper} {o : Oper} {a : Act} {K : Act → World → Prop} {Q : Exit → Act → World → Prop} {E' : Prop} (hgd : o.guard = none) (d s : Operand)
    (ho : o.op = .call { callee := .builtin .copy, args := #[d, s], argTypes := #[T, T] })
    (g off dLen dCap : Nat) (vs : List Value) (L : List (Nat × List Value)) (hm : Mem w ((g, vs) :: L)) (hd : ∀ p ∈ L, p.1 ≠ g) (hde : a.eval d = .slice (some ⟨g, off, none⟩) dLen dCap)
    (sb so m sCap : Nat) (ys : List Value) (hse : a.eval s = .slice (some ⟨sb, so, none⟩) m sCap) (hy : w.rangeAt sb so ys) (hyl : ys.length = m) (h1 : ∀ u ∈ ys, u.oneCell' = true) (hmd : m ≤ dLen) (hfit : off + m ≤ vs.length)
    (h : ∀ W, Mem W ((g, spl vs off ys) :: L) → (∀ w0 : World, w0.heap.size ≤ g → Below w0.heap.size w0 w → Below w0.heap.size w0 W) → K (a.put o.dst (goInt m)) W) :
    if Region.wanted o (yielded ops a.tmps) = true then Oper.wp P o a w K Q else E' := by
  have hw : Region.wanted o (yielded ops a.tmps) = true := by simp [Region.wanted, hgd]
  rw [if_pos hw]
  have hsz : (P.info? E).map (·.size) = some 1 := info_size he
  have hrun := Go.run_copy_cells (P := P) w T T o.type E g off dLen dCap ⟨sb, so, none⟩ m sCap ys he.ht hsz (by rw [hyl]; exact (Nat.min_eq_left hmd).symm)
    (fun j v hj => by rw [addr_add rfl]; exact hy j v hj)
    (fun j hj => by
      obtain ⟨u, hu⟩ : ∃ u, vs[off + j]? = some u := ⟨_, List.getElem?_eq_getElem (by omega)⟩
      rw [cellsAt_get hm.1.2.2 hu]
      rfl)
    (fun j hj => hm.1.2.1 _) h1
  rw [hyl] at hrun
  unfold Oper.wp
  simp [execOp, ho, resolve, invoke, builtin, hde, hse, hrun, Result.andThen]
  exact h _ (Mem.part hd ys off vs w (by omega) hm) fun w0 hg hb => bl_setCellsW hg _ _ _ hb
end Go.Proofs.YtfbhpkhpkaeagaaDoor

/- Package header: putNumber. (hM) -/
namespace Go.Proofs.YtfbhpkhpkaeagaaDoor
set_option linter.unusedVariables false
set_option linter.unusedSimpArgs false
open Go.RowKit

/-- j bytes of a number laid -/
def putP (f : Nat → Int) (at0 : Nat) (x : Int) (j : Nat) (i : Nat) : Int := if at0 ≤ i ∧ i < at0 + j then le4 x (i - at0) else f i
theorem putP_zero (f : Nat → Int) (at0 : Nat) (x : Int) : putP f at0 x 0 = f := by funext i; unfold putP; rw [if_neg (by omega)]
theorem putP_set (f : Nat → Int) (at0 : Nat) (x : Int) (j : Nat) : setF (putP f at0 x j) (at0 + j) (le4 x j) = putP f at0 x (j + 1) := by
  funext i
  unfold setF putP
  by_cases h : i = at0 + j
  · rw [if_pos h, if_pos (by omega), h, show at0 + j - at0 = j by omega]
  · rw [if_neg h]
    by_cases h2 : at0 ≤ i ∧ i < at0 + j
    · rw [if_pos h2, if_pos (by omega)]
    · rw [if_neg h2, if_neg (by omega)]
theorem le4_shr (x : Int) (j : Nat) : IntKind.u8.wrap (x / 2 ^ (8 * j)) = le4 x j := by
  unfold le4
  rw [IntKind.wrap_u8, show (256 : Int) ^ j = 2 ^ (8 * j) by rw [show (256 : Int) = 2 ^ 8 by decide, ← Int.pow_mul]]

def PnRel (w : World) (g : Nat) (f : Nat → Int) (at0 : Nat) (x : Int) (L : List (Nat × List Value)) (i : Value) (wr : World) : Prop :=
  ∃ j : Nat, j ≤ 4 ∧ i = .int .i64 j ∧ Mem wr ((g, b8l (putP f at0 x j) 80) :: L) ∧ (∀ w0 : World, w0.heap.size ≤ g → Below w0.heap.size w0 w → Below w0.heap.size w0 wr)

set_option maxRecDepth 100000 in
set_option maxHeartbeats 2000000 in
theorem putnum_any (g at0 : Nat) (x : Int) (f : Nat → Int) (L : List (Nat × List Value)) (w : World) (hat : at0 + 4 ≤ 80) (hx : 0 ≤ x) (hm : Mem w ((g, b8l f 80) :: L)) (hd : ∀ p ∈ L, p.1 ≠ g) :
    Calls Tryd.prog 33 #[.pointer (some ⟨g, 0, none⟩), .int .i64 (at0 : Int), .int .u32 x] w fun e w' => e = .returned (.tuple #[]) ∧ Mem w' ((g, b8l (putP f at0 x 4) 80) :: L) ∧
      (∀ w0 : World, w0.heap.size ≤ g → Below w0.heap.size w0 w → Below w0.heap.size w0 w') := by
  have HM0 := Lib.hid hm
  have HD := Lib.hid hd
  clear hm hd
  go_enter Tryd.func33, Tryd.ntmps33
  go_wp2
  go_loopw [7] (fun i wr => PnRel w g f at0 x L i wr) (fun i _ => 4 - (intOf i).toNat)
  case atStart => exact ⟨0, Nat.zero_le _, rfl, by rw [putP_zero]; exact HM0.out, fun _ _ h => h⟩
  case round =>
    obtain ⟨j, hj, rfl, hm, hB⟩ := hrel
    by_cases hlt : j < 4
    · obtain ⟨k, hk⟩ : ∃ k, at0 + j = k := ⟨_, rfl⟩
      obtain ⟨s, hs⟩ : ∃ s, 8 * j = s := ⟨_, rfl⟩
      have hc := cellsAt_get hm.1.2.2 (b8l_get (putP f at0 x j) 80 k (by omega))
      have hz := hm.1.2.1 k
      have g1 : IntKind.i64.wrap ((at0 : Int) + (j : Int)) = (k : Int) := by rw [IntKind.wrap_i64]; omega
      have g3 : IntKind.i64.wrap (8 * (j : Int)) = (s : Int) := by rw [IntKind.wrap_i64]; omega
      have hs64 : (s : Int) ≤ 64 := by omega
      have hk80 : (k : Int) < 80 := by omega
      have hj4 : (j : Int) < 4 := by omega
      have hle : x / 2 ^ s % 256 = le4 x j := by rw [← le4_shr x j, hs, IntKind.wrap_u8]
      have hmin : min s 32 = s := by omega
      have HX := Lib.hid (And.intro hm (And.intro hB (And.intro hle hk)))
      have hc2 : wr.drew.cell? ⟨g, k, none⟩ = some (.int .u8 (putP f at0 x j k)) := hc
      have hz2 : wr.drew.frozen? ⟨g, k, none⟩ = false := hz
      clear hm hB hle hs hat hk hc hz
      go_wp2
      refine wp_plan (fun _ => True) [11] [0, 1, 2, 3, 4, 5, 6, 7, 8, 9, 10, 11] (by kernel_rfl) (by kernel_rfl) trivial (fun hHeld => ?_)
      iterate 11 (refine wpT_take rfl (by rfl) (by rfl) (by intro w' hSw; (try dsimp only [Mem, cellsAt] at hSw); go_simp; (try with_reducible rfl)) (by assumption) ?_; (try simp only [Act.put, List.setIfInBounds_toArray, List.set_cons_zero, List.set_cons_succ]))
      (refine wpT_step rfl (by rfl) (fun K hK => ?_); go_simp)
      (refine hK.out _ _ _ (fun _ h => h) (trivial) (fun hHeld => ?_); clear hK; clear K; (try simp only [Act.put, List.setIfInBounds_toArray, List.set_cons_zero, List.set_cons_succ]))
      (refine wpT_nil ?_)
      go_wp2
      refine ⟨⟨j + 1, by omega, by go_num, ?_, fun w0 hg hb => ((HX.out.2.1 w0 hg hb).setCell hg _).drew⟩, by simp [intOf]; omega⟩
      have h1 := Mem.setN (k := k) (v := .int .u8 (x / 2 ^ s % 256)) HD.out HX.out.1
      rw [b8l_set] at h1
      have e : setF (putP f at0 x j) k (x / 2 ^ s % 256) = putP f at0 x (j + 1) := by rw [HX.out.2.2.1, ← HX.out.2.2.2, putP_set]
      rw [e] at h1
      exact Mem.drew h1
    · have hje : j = 4 := by omega
      subst hje
      have h8 : ¬ ((4 : Nat) : Int) < 4 := by omega
      have HX := Lib.hid (And.intro hm hB)
      clear hm hB
      go_wp2
      go_end0
      exact ⟨rfl, HX.out.1, HX.out.2⟩
theorem putnum_at (g at0 : Nat) (a : Int) (x : Int) (f : Nat → Int) (L : List (Nat × List Value)) (w : World) (ha : a = (at0 : Int)) (hat : at0 + 4 ≤ 80) (hx : 0 ≤ x) (hm : Mem w ((g, b8l f 80) :: L)) (hd : ∀ p ∈ L, p.1 ≠ g) :
    Calls Tryd.prog 33 #[.pointer (some ⟨g, 0, none⟩), .int .i64 a, .int .u32 x] w fun e w' => e = .returned (.tuple #[]) ∧ Mem w' ((g, b8l (putP f at0 x 4) 80) :: L) ∧
      (∀ w0 : World, w0.heap.size ≤ g → Below w0.heap.size w0 w → Below w0.heap.size w0 w') := by
  subst ha
  exact putnum_any g at0 x f L w hat hx hm hd
end Go.Proofs.YtfbhpkhpkaeagaaDoor

/- Package header: Put, Id. (hM) -/
namespace Go.Proofs.YtfbhpkhpkaeagaaDoor
set_option linter.unusedVariables false
set_option linter.unusedSimpArgs false
open Go.RowKit

/-- bytes laid over bytes -/
theorem spl_b8l (f p : Nat → Int) (n o m : Nat) (h : o + m ≤ n) : spl (b8l f n) o (b8l p m) = b8l (fun i => if o ≤ i ∧ i < o + m then p (i - o) else f i) n := by
  apply List.ext_getElem?
  intro i
  have hl : (spl (b8l f n) o (b8l p m)).length = n := by rw [spl_len _ _ _ (by rw [b8l_len, b8l_len]; exact h), b8l_len]
  by_cases hi : i < n
  · rw [b8l_get _ _ _ hi]
    unfold spl
    by_cases h1 : i < o
    · rw [List.getElem?_append_left (by simp [b8l_len]; omega), List.getElem?_take_of_lt h1, b8l_get _ _ _ hi, if_neg (by omega)]
    · rw [List.getElem?_append_right (by simp [b8l_len]; omega)]
      have e : ((b8l f n).take o).length = o := by simp [b8l_len]; omega
      rw [e]
      by_cases h2 : i < o + m
      · rw [List.getElem?_append_left (by rw [b8l_len]; omega), b8l_get _ _ _ (by omega), if_pos ⟨by omega, h2⟩]
      · rw [List.getElem?_append_right (by rw [b8l_len]; omega), b8l_len, List.getElem?_drop, show o + m + (i - o - m) = i by omega, b8l_get _ _ _ hi, if_neg (by omega)]
  · rw [List.getElem?_eq_none (by omega), List.getElem?_eq_none (by rw [b8l_len]; omega)]

/-- the bytes as Put lays them, step by step -/
def q1 (h : Hd) : Nat → Int := putP (fun _ => 0) 0 h.v 4
def q2 (h : Hd) : Nat → Int := fun i => if 4 ≤ i ∧ i < 4 + 32 then h.p (i - 4) else q1 h i
def q3 (h : Hd) : Nat → Int := fun i => if 36 ≤ i ∧ i < 36 + 32 then h.r (i - 36) else q2 h i
def q4 (h : Hd) : Nat → Int := putP (q3 h) 68 h.t 4
def q5 (h : Hd) : Nat → Int := putP (q4 h) 72 h.b 4
def q6 (h : Hd) : Nat → Int := putP (q5 h) 76 h.n 4
theorem q6_is (h : Hd) (i : Nat) (hi : i < 80) : q6 h i = hdF h i := by
  unfold q6 q5 q4 q3 q2 q1 hdF putP
  dsimp only
  by_cases h1 : i < 4
  · rw [if_neg (by omega), if_neg (by omega), if_neg (by omega), if_neg (by omega), if_neg (by omega), if_pos (by omega), if_pos h1, Nat.sub_zero]
  by_cases h2 : i < 36
  · rw [if_neg (by omega), if_neg (by omega), if_neg (by omega), if_neg (by omega), if_pos (by omega), if_neg h1, if_pos h2]
  by_cases h3 : i < 68
  · rw [if_neg (by omega), if_neg (by omega), if_neg (by omega), if_pos (by omega), if_neg h1, if_neg h2, if_pos h3]
  by_cases h4 : i < 72
  · rw [if_neg (by omega), if_neg (by omega), if_pos (by omega), if_neg h1, if_neg h2, if_neg h3, if_pos h4]
  by_cases h5 : i < 76
  · rw [if_neg (by omega), if_pos (by omega), if_neg h1, if_neg h2, if_neg h3, if_neg h4, if_pos h5]
  · rw [if_pos (by omega), if_neg h1, if_neg h2, if_neg h3, if_neg h4, if_neg h5]

theorem hd_range_p {w : World} {b : Nat} {h : Hd} (hc : cellsAt w b 0 (hdL h)) : w.rangeAt b 1 (b8l h.p 32) := fun j v hj => by
  have hlt : j < 32 := by have := (List.getElem?_eq_some_iff.1 hj).1; rwa [b8l_len] at this
  rw [b8l_get _ _ _ hlt] at hj
  cases hj
  exact cellsAt_get hc (hdL_p h j hlt)
theorem hd_range_r {w : World} {b : Nat} {h : Hd} (hc : cellsAt w b 0 (hdL h)) : w.rangeAt b 33 (b8l h.r 32) := fun j v hj => by
  have hlt : j < 32 := by have := (List.getElem?_eq_some_iff.1 hj).1; rwa [b8l_len] at this
  rw [b8l_get _ _ _ hlt] at hj
  cases hj
  exact cellsAt_get hc (hdL_r h j hlt)

set_option maxRecDepth 100000 in
set_option maxHeartbeats 4000000 in
theorem hput_any (h : Hd) (ho : HdOk h) (w : World) :
    Calls Tryd.prog 25 #[hdV h] w fun e w' => ∃ g : Nat, e = .returned (.slice (some ⟨g, 0, none⟩) 80 80) ∧ w.heap.size ≤ g ∧ Mem w' [(g, b8l (hdF h) 80)] ∧ Below w.heap.size w w' := by
  have hM0 := Mem.al (Mem.al (mem_nil w) (hdL h) 26) (b8l (fun _ => 0) 80) 77
  simp only [World.size_alloc] at hM0
  have hB0 := bl_al (bl_al (Below.refl w.heap.size w) (.cells (hdL h).toArray 26)) (.cells (b8l (fun _ => 0) 80).toArray 77)
  have c0 := hdL_0 h
  have HO := Lib.hid ho
  have HM := Lib.hid hM0
  have HB := Lib.hid hB0
  have hD : Hid (∀ p ∈ [(w.heap.size, hdL h)], p.1 ≠ w.heap.size + 1) := by intro p hp; simp at hp; subst hp; simp
  have ht := hdL_t h
  have hb := hdL_b h
  have hn := hdL_n h
  clear ho hM0 hB0
  have hz80 : ∀ x : World, (zeroValue 77).run Tryd.prog x = .ok (.agg (b8l (fun _ => 0) 80).toArray) x := fun x => by kernel_rfl
  go_enter Tryd.func25, Tryd.ntmps25
  go_wp2_with (go_at_call 33; (refine (putnum_any (w.heap.size + 1) 0 h.v (fun _ => 0) _ _ (by omega) HO.out.v.1 HM.out hD.out).mono ?_); rintro e w1 ⟨rfl, hm, hbl⟩)
  change Mem w1 [(w.heap.size + 1, b8l (q1 h) 80), (w.heap.size, hdL h)] at hm
  have HB1 := Lib.hid (hbl w (by omega) HB.out)
  have HM1 := Lib.hid hm
  clear hbl hm
  refine wp_plan (fun _ => True) [3] [0, 1, 2, 3] (by kernel_rfl) (by kernel_rfl) trivial (fun hHeld => ?_)
  iterate 3 (refine wpT_take rfl (by rfl) (by rfl) (by intro w' hSw; (try dsimp only [Mem, cellsAt] at hSw); go_simp; (try with_reducible rfl)) (by assumption) ?_; (try simp only [Act.put, List.setIfInBounds_toArray, List.set_cons_zero, List.set_cons_succ]))
  (refine wpT_step rfl (by rfl) (fun K hK => ?_))
  (refine step_copyB eltU8 _ rfl (.tmp 7) (.tmp 9) rfl (w.heap.size + 1) 4 76 76 _ _ (Mem.drew HM1.out) hD.out rfl w.heap.size 1 32 32 (b8l h.p 32) rfl (hd_range_p (Mem.get (Mem.drew HM1.out) (by simp))) (b8l_len _ _) (b8l_one _ _) (by omega) (by rw [b8l_len]; omega) ?_; intro w2 hm2 hb2)
  rw [spl_b8l _ _ _ _ _ (by omega)] at hm2
  change Mem w2 [(w.heap.size + 1, b8l (q2 h) 80), (w.heap.size, hdL h)] at hm2
  have HB2 := Lib.hid (hb2 w (by omega) HB1.out.drew)
  have HM2 := Lib.hid hm2
  clear hb2 hm2
  (refine hK.out _ _ _ (fun _ h => h) (trivial) (fun hHeld => ?_); clear hK; clear K; (try simp only [Act.put, List.setIfInBounds_toArray, List.set_cons_zero, List.set_cons_succ]))
  (refine wpT_nil ?_)
  go_wp2
  refine wp_plan (fun _ => True) [3] [0, 1, 2, 3] (by kernel_rfl) (by kernel_rfl) trivial (fun hHeld => ?_)
  iterate 3 (refine wpT_take rfl (by rfl) (by rfl) (by intro w' hSw; (try dsimp only [Mem, cellsAt] at hSw); go_simp; (try with_reducible rfl)) (by assumption) ?_; (try simp only [Act.put, List.setIfInBounds_toArray, List.set_cons_zero, List.set_cons_succ]))
  (refine wpT_step rfl (by rfl) (fun K hK => ?_))
  (refine step_copyB eltU8 _ rfl (.tmp 11) (.tmp 13) rfl (w.heap.size + 1) 36 44 44 _ _ (Mem.drew HM2.out) hD.out rfl w.heap.size 33 32 32 (b8l h.r 32) rfl (hd_range_r (Mem.get (Mem.drew HM2.out) (by simp))) (b8l_len _ _) (b8l_one _ _) (by omega) (by rw [b8l_len]; omega) ?_; intro w3 hm3 hb3)
  rw [spl_b8l _ _ _ _ _ (by omega)] at hm3
  change Mem w3 [(w.heap.size + 1, b8l (q3 h) 80), (w.heap.size, hdL h)] at hm3
  have HB3 := Lib.hid (hb3 w (by omega) HB2.out.drew)
  have HM3 := Lib.hid hm3
  have c3 := cellsAt_get hm3.2.1.2.2 ht
  clear hb3 hm3
  (refine hK.out _ _ _ (fun _ h => h) (trivial) (fun hHeld => ?_); clear hK; clear K; (try simp only [Act.put, List.setIfInBounds_toArray, List.set_cons_zero, List.set_cons_succ]))
  (refine wpT_nil ?_)
  go_wp2_with (first |
    (go_at_call 33; (with_reducible refine (putnum_at (w.heap.size + 1) 68 68 h.t (q3 h) _ _ rfl (by omega) HO.out.t.1 HM3.out hD.out).mono ?_); rintro e w4 ⟨rfl, hm, hbl⟩; have HB4 := Lib.hid (hbl w (by omega) HB3.out); change Mem w4 [(w.heap.size + 1, b8l (q4 h) 80), (w.heap.size, hdL h)] at hm; have HM4 := Lib.hid hm; have c4 := cellsAt_get hm.2.1.2.2 hb; clear hm hbl) |
    (go_at_call 33; (with_reducible refine (putnum_at (w.heap.size + 1) 72 72 h.b (q4 h) _ _ rfl (by omega) HO.out.b.1 HM4.out hD.out).mono ?_); rintro e w5 ⟨rfl, hm, hbl⟩; have HB5 := Lib.hid (hbl w (by omega) HB4.out); change Mem w5 [(w.heap.size + 1, b8l (q5 h) 80), (w.heap.size, hdL h)] at hm; have HM5 := Lib.hid hm; have c5 := cellsAt_get hm.2.1.2.2 hn; clear hm hbl) |
    (go_at_call 33; (with_reducible refine (putnum_at (w.heap.size + 1) 76 76 h.n (q5 h) _ _ rfl (by omega) HO.out.n.1 HM5.out hD.out).mono ?_); rintro e w6 ⟨rfl, hm, hbl⟩; have HB6 := Lib.hid (hbl w (by omega) HB5.out); change Mem w6 [(w.heap.size + 1, b8l (q6 h) 80), (w.heap.size, hdL h)] at hm; rw [b8l_congr (q6_is h)] at hm; have HM6 := Lib.hid hm; clear hm hbl))
  go_ret
  exact ⟨_, rfl, Nat.le_succ _, ⟨HM6.out.1, trivial⟩, HB6.out⟩

set_option maxRecDepth 100000 in
set_option maxHeartbeats 4000000 in
theorem hid_any (h : Hd) (ho : HdOk h) (w : World) (hT : Tab w) : Calls Tryd.prog 14 #[hdV h] w fun e w' => e = .returned (arr32 (idF h)) ∧ Below w.heap.size w w' := by
  have HD : Hid (∀ (x : World), Below w.heap.size w x → ∀ b : Nat, cellsAt x b 0 (b8l (hdF h) 80) → Calls Tryd.prog 24 #[.slice (some ⟨b, 0, none⟩) 80 80] x fun e w' => e = .returned (arr32 (idF h)) ∧ Below x.heap.size x w') :=
    Lib.hid (fun (x : World) (hb : Below w.heap.size w x) (b : Nat) (hr : cellsAt x b 0 (b8l (hdF h) 80)) => double_any (some ⟨b, 0, none⟩) 80 80 (hdF h) x (hT.later hb) (row_ofWc (Nat.le_refl _) hr) (hdF_b ho) (by omega))
  have HP := Lib.hid (fun (x : World) => hput_any h ho x)
  clear ho hT
  obtain ⟨F, hF0⟩ : ∃ F, idF h = F := ⟨_, rfl⟩
  rw [hF0] at HD ⊢
  clear hF0
  have hB := bl_al (bl_al (Below.refl w.heap.size w) (.cells (hdL h).toArray 26)) (.cells [.int .u8 0, .int .u8 0, .int .u8 0, .int .u8 0, .int .u8 0, .int .u8 0, .int .u8 0, .int .u8 0, .int .u8 0, .int .u8 0, .int .u8 0, .int .u8 0, .int .u8 0, .int .u8 0, .int .u8 0, .int .u8 0, .int .u8 0, .int .u8 0, .int .u8 0, .int .u8 0, .int .u8 0, .int .u8 0, .int .u8 0, .int .u8 0, .int .u8 0, .int .u8 0, .int .u8 0, .int .u8 0, .int .u8 0, .int .u8 0, .int .u8 0, .int .u8 0].toArray 24)
  have hM := Lib.hid (Mem.al (Mem.al (mem_nil w) (hdL h) 26) [.int .u8 0, .int .u8 0, .int .u8 0, .int .u8 0, .int .u8 0, .int .u8 0, .int .u8 0, .int .u8 0, .int .u8 0, .int .u8 0, .int .u8 0, .int .u8 0, .int .u8 0, .int .u8 0, .int .u8 0, .int .u8 0, .int .u8 0, .int .u8 0, .int .u8 0, .int .u8 0, .int .u8 0, .int .u8 0, .int .u8 0, .int .u8 0, .int .u8 0, .int .u8 0, .int .u8 0, .int .u8 0, .int .u8 0, .int .u8 0, .int .u8 0, .int .u8 0] 24)
  have hF : True := trivial
  simp only [World.size_alloc] at hM
  go_enter Tryd.func14, Tryd.ntmps14
  go_wp2_with (first |
    (refine Go.wpList_load_mid rfl 26 (.tmp 1) rfl w.heap.size 0 rfl (hdL h) _ (rangeAt_of (Mem.get hM.out (by simp))) Tryd.underlying26 rfl (by rw [hdL_len]; kernel_rfl) ?_) |
    (go_at_call 25; (with_reducible refine (HP.out _).mono ?_); rintro e w1 ⟨g, rfl, _, hm, hb⟩; have HR := Lib.hid hm.1.2.2; clear hm; have hB : Below w.heap.size w w1 := (by refine bl_then ?_ hb; (repeat (first | exact hB | refine bl_al ?_ _ | refine Below.setCell ?_ (by first | exact hgs | exact Nat.le_succ_of_le hgs | exact hgs2 | exact hgs3) _ | refine Below.drew ?_ | refine bl_drewN ?_ _))); (first | with_reducible have hM2 := Mem.later hb (hM.out) | with_reducible have hM2 := Mem.later hb (Mem.al (hM.out) _ _) | with_reducible have hM2 := Mem.later hb (Mem.al (Mem.al (hM.out) _ _) _ _) | with_reducible have hM2 := Mem.later hb (Mem.al (Mem.al (Mem.al (hM.out) _ _) _ _) _ _) | with_reducible have hM2 := Mem.later hb (Mem.al (Mem.al (Mem.al (Mem.al (hM.out) _ _) _ _) _ _) _ _) | with_reducible have hM2 := Mem.later hb (Mem.drew (hM.out)) | with_reducible have hM2 := Mem.later hb (Mem.drew (Mem.al (hM.out) _ _)) | with_reducible have hM2 := Mem.later hb (Mem.al (Mem.drew (hM.out)) _ _) | with_reducible have hM2 := Mem.later hb (Mem.al (Mem.drew (Mem.al (hM.out) _ _)) _ _) | with_reducible have hM2 := Mem.later hb (Mem.drew (Mem.al (Mem.al (hM.out) _ _) _ _)) | with_reducible have hM2 := Mem.later hb (Mem.al (Mem.al (Mem.drew (hM.out)) _ _) _ _) | with_reducible have hM2 := Mem.later hb (Mem.drew (Mem.drew (hM.out))) | with_reducible have hM2 := Mem.later hb (Mem.drew (Mem.al (Mem.drew (hM.out)) _ _)) | with_reducible have hM2 := Mem.later hb (Mem.drew (Mem.al (Mem.al (Mem.al (hM.out) _ _) _ _) _ _)) | with_reducible have hM2 := Mem.later hb (Mem.al (Mem.al (Mem.drew (Mem.al (hM.out) _ _)) _ _) _ _) | with_reducible have hM2 := Mem.later hb (Mem.drew (Mem.al (Mem.drew (Mem.al (hM.out) _ _)) _ _)) | with_reducible have hM2 := Mem.later hb (Mem.al (Mem.al (Mem.al (Mem.al (Mem.al (hM.out) _ _) _ _) _ _) _ _) _ _) | with_reducible have hM2 := Mem.later hb (Mem.al (Mem.al (Mem.al (Mem.al (Mem.al (Mem.al (hM.out) _ _) _ _) _ _) _ _) _ _) _ _) | with_reducible have hM2 := Mem.later hb (Mem.al (Mem.al (Mem.al (Mem.al (Mem.al (Mem.al (Mem.al (hM.out) _ _) _ _) _ _) _ _) _ _) _ _) _ _) | with_reducible have hM2 := Mem.later hb (Mem.al (Mem.al (Mem.al (Mem.al (Mem.al (Mem.al (Mem.al (Mem.al (hM.out) _ _) _ _) _ _) _ _) _ _) _ _) _ _) _ _)); (try simp only [World.size_alloc, size_drew] at hM2); clear hM; have hM := Lib.hid hM2; clear hF; have hF := hM2; (try simp only [Mem, cellsAt, World.size_alloc, Nat.zero_add, Nat.reduceAdd, and_true] at hF); clear hM2; clear hb) |
    (go_at_call 24; (with_reducible refine (HD.out _ (by (repeat (first | exact hB | refine bl_al ?_ _ | refine Below.setCell ?_ (by first | exact hgs | exact Nat.le_succ_of_le hgs | exact hgs2 | exact hgs3) _ | refine Below.drew ?_ | refine bl_drewN ?_ _))) _ HR.out).mono ?_); rintro e w2 ⟨rfl, hb⟩; have hB : Below w.heap.size w w2 := (by refine bl_then ?_ hb; (repeat (first | exact hB | refine bl_al ?_ _ | refine Below.setCell ?_ (by first | exact hgs | exact Nat.le_succ_of_le hgs | exact hgs2 | exact hgs3) _ | refine Below.drew ?_ | refine bl_drewN ?_ _))); (first | with_reducible have hM2 := Mem.later hb (hM.out) | with_reducible have hM2 := Mem.later hb (Mem.al (hM.out) _ _) | with_reducible have hM2 := Mem.later hb (Mem.al (Mem.al (hM.out) _ _) _ _) | with_reducible have hM2 := Mem.later hb (Mem.al (Mem.al (Mem.al (hM.out) _ _) _ _) _ _) | with_reducible have hM2 := Mem.later hb (Mem.al (Mem.al (Mem.al (Mem.al (hM.out) _ _) _ _) _ _) _ _) | with_reducible have hM2 := Mem.later hb (Mem.drew (hM.out)) | with_reducible have hM2 := Mem.later hb (Mem.drew (Mem.al (hM.out) _ _)) | with_reducible have hM2 := Mem.later hb (Mem.al (Mem.drew (hM.out)) _ _) | with_reducible have hM2 := Mem.later hb (Mem.al (Mem.drew (Mem.al (hM.out) _ _)) _ _) | with_reducible have hM2 := Mem.later hb (Mem.drew (Mem.al (Mem.al (hM.out) _ _) _ _)) | with_reducible have hM2 := Mem.later hb (Mem.al (Mem.al (Mem.drew (hM.out)) _ _) _ _) | with_reducible have hM2 := Mem.later hb (Mem.drew (Mem.drew (hM.out))) | with_reducible have hM2 := Mem.later hb (Mem.drew (Mem.al (Mem.drew (hM.out)) _ _)) | with_reducible have hM2 := Mem.later hb (Mem.drew (Mem.al (Mem.al (Mem.al (hM.out) _ _) _ _) _ _)) | with_reducible have hM2 := Mem.later hb (Mem.al (Mem.al (Mem.drew (Mem.al (hM.out) _ _)) _ _) _ _) | with_reducible have hM2 := Mem.later hb (Mem.drew (Mem.al (Mem.drew (Mem.al (hM.out) _ _)) _ _)) | with_reducible have hM2 := Mem.later hb (Mem.al (Mem.al (Mem.al (Mem.al (Mem.al (hM.out) _ _) _ _) _ _) _ _) _ _) | with_reducible have hM2 := Mem.later hb (Mem.al (Mem.al (Mem.al (Mem.al (Mem.al (Mem.al (hM.out) _ _) _ _) _ _) _ _) _ _) _ _) | with_reducible have hM2 := Mem.later hb (Mem.al (Mem.al (Mem.al (Mem.al (Mem.al (Mem.al (Mem.al (hM.out) _ _) _ _) _ _) _ _) _ _) _ _) _ _) | with_reducible have hM2 := Mem.later hb (Mem.al (Mem.al (Mem.al (Mem.al (Mem.al (Mem.al (Mem.al (Mem.al (hM.out) _ _) _ _) _ _) _ _) _ _) _ _) _ _) _ _)); (try simp only [World.size_alloc, size_drew] at hM2); clear hM; have hM := Lib.hid hM2; clear hF; have hF := hM2; (try simp only [Mem, cellsAt, World.size_alloc, Nat.zero_add, Nat.reduceAdd, and_true] at hF); clear hM2; clear hb; have HTh := Lib.hid (thereW (n := 32) hM.out.1 (Nat.le_refl _)); clear hF) |
    (refine Go.wpList_store_mid rfl 24 (.tmp 2) (.tmp 5) rfl (w.heap.size + 1) 0 (b8l F 32).toArray rfl rfl (by simpa [b8l_len] using HTh.out) (by simp only [List.size_toArray, b8l_len]; kernel_rfl) (Go.all_oneCell_toArray (b8l_one _ 32)) ?_))
  have hl := Go.run_loadVar_mid (P := Tryd.prog) (w2.setCells (w.heap.size + 1) 0 (b8l F 32)) (w.heap.size + 1) 0 24 (b8l F 32) _ (World.rangeAt_setCells_same w2 (w.heap.size + 1) 0 _ (by rw [b8l_len]; exact HTh.out)) Tryd.underlying24 rfl (by rw [b8l_len]; kernel_rfl)
  refine bodyPost_ret (v := arr32 F) (by simp [results, Tryd.results14, asAddr, hl, Act.put]) rfl ⟨rfl, bl_setCellsW (Nat.le_succ _) _ _ _ hB⟩
end Go.Proofs.YtfbhpkhpkaeagaaDoor
