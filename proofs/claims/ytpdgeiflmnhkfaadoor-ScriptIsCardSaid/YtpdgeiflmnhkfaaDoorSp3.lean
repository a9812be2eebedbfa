/- Package script: Get. (hM) -/
import Derived.Test.YtpdgeiflmnhkfaaDoorSp2
import Derived.Test.YtpdgeiflmnhkfaaDoorCpy
import Derived.Test.YtpdgeiflmnhkfaaDoorBy6
namespace Go.Proofs.YtpdgeiflmnhkfaaDoor
set_option linter.unusedVariables false
set_option linter.unusedSimpArgs false
open Go.RowKit

theorem head6 (ys : List Int) : (((ys.take 6).map (Value.int .u8)) ++ [Value.int .u8 0, .int .u8 0, .int .u8 0, .int .u8 0, .int .u8 0, .int .u8 0].drop (min ys.length 6)) = [.int .u8 (atP ys 0), .int .u8 (atP ys 1), .int .u8 (atP ys 2), .int .u8 (atP ys 3), .int .u8 (atP ys 4), .int .u8 (atP ys 5)] := by
  match ys with
  | [] => rfl
  | [a] => rfl
  | [a, b] => rfl
  | [a, b, c] => rfl
  | [a, b, c, d] => rfl
  | [a, b, c, d, e] => rfl
  | a :: b :: c :: d :: e :: f :: r =>
    rw [show min (a :: b :: c :: d :: e :: f :: r).length 6 = 6 by simp]
    rfl
theorem row_from {w : World} {b off n c : Nat} {ys : List Int} (h : Row w (some ⟨b, off, none⟩) n c 1 (ys.map (Value.int .u8))) (k : Nat) (hk : k ≤ n) :
    Row w (if c = k then some ⟨b, off, none⟩ else some ⟨b, off + k, none⟩) (n - k) (c - k) 1 ((ys.drop k).map (Value.int .u8)) := by
  have hl : ys.length = n := by simpa using h.len
  have hle := h.le
  by_cases hc : c = k
  · rw [if_pos hc]
    have hd : ys.drop k = [] := List.drop_of_length_le (by omega)
    rw [hd]
    exact ⟨by simp; omega, by omega, (fun h => by cases h), (fun ad _ i u hu => by simp at hu), by simp⟩
  · rw [if_neg hc]
    refine ⟨by simp; omega, by omega, (fun h => by cases h), (fun ad ha i u hu => ?_), (fun u hu => h.one u (by rw [List.map_drop] at hu; exact List.mem_of_mem_drop hu))⟩
    simp only [Option.some.injEq] at ha
    subst ha
    refine ⟨rfl, ?_⟩
    rw [List.map_drop, List.getElem?_drop] at hu
    have := (h.cells _ rfl (k + i) u hu).2
    rwa [show off + k + i = off + (k + i) by omega]
theorem row_upto {w : World} {ao : Option Addr} {n c : Nat} {ys : List Int} (h : Row w ao n c 1 (ys.map (Value.int .u8))) (k : Nat) (hk : k ≤ n) :
    Row w ao k k 1 ((ys.take k).map (Value.int .u8)) := by
  have := (h.pre k hk).full
  rwa [Nat.mul_one, ← List.map_take] at this
theorem wpList_copy6 (wr : World) {ops : Array Oper} {rest : List Oper} {o : Oper} {a : Act} {Q : Exit → Act → World → Prop} (hgd : o.guard = none) (d s : Operand)
    (ho : o.op = .call { callee := .builtin .copy, args := #[d, s], argTypes := #[22, 22] }) (T : TypeId)
    (hd : a.eval d = .slice (some ⟨wr.heap.size, 0, none⟩) 6 6) (b off n c : Nat) (ys : List Int) (hs : a.eval s = .slice (some ⟨b, off, none⟩) n c) (hy : Row wr (some ⟨b, off, none⟩) n c 1 (ys.map (Value.int .u8)))
    (k : Nat) (hk : min n 6 = k)
    (h : ∀ w', Below wr.heap.size wr w' → Mem w' [(wr.heap.size, [.int .u8 (atP ys 0), .int .u8 (atP ys 1), .int .u8 (atP ys 2), .int .u8 (atP ys 3), .int .u8 (atP ys 4), .int .u8 (atP ys 5)])] → wpList Tryd.prog ops Q rest (a.put o.dst (.int .i64 k)) w') :
    wpList Tryd.prog ops Q (o :: rest) a (wr.alloc (.cells #[.int .u8 0, .int .u8 0, .int .u8 0, .int .u8 0, .int .u8 0, .int .u8 0] T)) := by
  refine wpList_plain hgd fun K hK => ?_
  have hl : ys.length = n := by simpa using hy.len
  have hcs : ((ys.take 6).map (Value.int .u8)).length = k := by rw [List.length_map, List.length_take]; omega
  have hy2 := hy.later (below_alloc wr (.cells #[.int .u8 0, .int .u8 0, .int .u8 0, .int .u8 0, .int .u8 0, .int .u8 0] T))
  have hrun := run_copy_row (P := Tryd.prog) (wr.alloc (.cells #[.int .u8 0, .int .u8 0, .int .u8 0, .int .u8 0, .int .u8 0, .int .u8 0] T)) 22 22 o.type 5 wr.heap.size 0 6 6 ⟨b, off, none⟩ n c _ T ((ys.take 6).map (Value.int .u8)) Tryd.underlying22 (info_size eltU8) (heap_alloc_new wr _) (by rw [hcs]; exact hk.symm) (fun j v hj => by
    rw [addr_add rfl]
    rw [List.map_take, List.getElem?_take] at hj
    split at hj
    · exact (hy2.cells _ rfl j v hj).2
    · cases hj) (by rw [hcs]; simp; omega) (fun v hv => hy.one v (by rw [List.map_take] at hv; exact List.mem_of_mem_take hv))
  rw [hcs] at hrun
  unfold Oper.wp
  simp only [execOp, ho, resolve, invoke, builtin, hd, hs, List.map_toArray, List.map_cons, List.map_nil]
  have hb2 := below_setRow (below_alloc wr (.cells #[.int .u8 0, .int .u8 0, .int .u8 0, .int .u8 0, .int .u8 0, .int .u8 0] T)) (Nat.le_refl _) ((#[Value.int .u8 0, .int .u8 0, .int .u8 0, .int .u8 0, .int .u8 0, .int .u8 0].toList.take 0 ++ (ys.take 6).map (Value.int .u8) ++ #[Value.int .u8 0, .int .u8 0, .int .u8 0, .int .u8 0, .int .u8 0, .int .u8 0].toList.drop (0 + k)).toArray)
  have hheap := setRow_heap (wr.alloc (.cells #[.int .u8 0, .int .u8 0, .int .u8 0, .int .u8 0, .int .u8 0, .int .u8 0] T)) wr.heap.size _ ((#[Value.int .u8 0, .int .u8 0, .int .u8 0, .int .u8 0, .int .u8 0, .int .u8 0].toList.take 0 ++ (ys.take 6).map (Value.int .u8) ++ #[Value.int .u8 0, .int .u8 0, .int .u8 0, .int .u8 0, .int .u8 0, .int .u8 0].toList.drop (0 + k)).toArray) T _ (heap_alloc_new wr _)
  have e6 := head6 ys
  rw [hl, hk] at e6
  simp only [List.take_zero, List.nil_append, Nat.zero_add, e6] at hb2 hheap hrun
  simp [hrun, Result.andThen]
  refine hK _ _ (h _ hb2 ⟨⟨by simp [World.setRow], fun i => by unfold World.frozen?; rw [hheap]; simp, ?_⟩, trivial⟩)
  simp only [cellsAt, World.cell?, hheap]
  simp
theorem i64_or_nat (a b : Nat) (ha : a < 1073741824) (hb : b < 1073741824) : bits .or .i64 (a : Int) (b : Int) = ((a ||| b : Nat) : Int) := by
  have hx : a ||| b < 2 ^ 30 := Nat.or_lt_two_pow (by omega) (by omega)
  show IntKind.i64.wrap ((BitVec.ofInt 64 (a : Int) ||| BitVec.ofInt 64 (b : Int)).toNat : Int) = _
  have h1 : (BitVec.ofInt 64 (a : Int)).toNat = a := by rw [BitVec.ofInt_natCast, BitVec.toNat_ofNat]; exact Nat.mod_eq_of_lt (by omega)
  have h2 : (BitVec.ofInt 64 (b : Int)).toNat = b := by rw [BitVec.ofInt_natCast, BitVec.toNat_ofNat]; exact Nat.mod_eq_of_lt (by omega)
  rw [BitVec.toNat_or, h1, h2, IntKind.wrap_i64]
  omega
theorem i64_or_hi (a b : Int) (ha : 0 ≤ a ∧ a < 256) (hb : 0 ≤ b ∧ b < 256) : bits .or .i64 a (b * 256) = a + 256 * b := by
  obtain ⟨A, rfl⟩ := Int.eq_ofNat_of_zero_le ha.1
  obtain ⟨B, rfl⟩ := Int.eq_ofNat_of_zero_le hb.1
  have e1 : ((B : Int) * 256) = ((2 ^ 8 * B : Nat) : Int) := by omega
  rw [e1, i64_or_nat A (2 ^ 8 * B) (by omega) (by omega), Nat.or_comm, ← Nat.two_pow_add_eq_or_of_lt (show A < 2 ^ 8 by omega)]
  omega
theorem drop_min6 (ys : List Int) : ys.drop (min ys.length 6) = ys.drop 6 := by
  by_cases h : ys.length ≤ 6
  · rw [List.drop_of_length_le (by omega), List.drop_of_length_le h]
  · rw [show min ys.length 6 = 6 by omega]
theorem row_stp (W : World) (s : Stp) : Row (W.alloc (.cells #[.int .i64 s.k, .int .i64 s.p, .int .i64 s.n, .slice s.ao s.m s.c] 106)) (some ⟨W.heap.size, 0, none⟩) 1 1 4 (stL s) := by
  have := row_new W (stL s).toArray 106 1 1 4 rfl (Nat.le_refl _) (by intro u hu; simp [stL] at hu; rcases hu with rfl | rfl | rfl | rfl <;> rfl)
  exact this

def sliceLen : Value → Nat
  | .slice _ n _ => n
  | _ => 0
def GetRel (w : World) (ao : Option Addr) (n c : Nat) (zs : List Int) (v l : Value) (wr : World) : Prop :=
  ∃ (co : Option Addr) (rn rc : Nat) (ys : List Int) (lo : Option Addr) (cap : Nat) (L : List Stp),
    v = .slice co rn rc ∧ l = .slice lo L.length cap ∧ (∀ w0, Row w0 ao n c 1 (zs.map (Value.int .u8)) → Row w0 co rn rc 1 (ys.map (Value.int .u8))) ∧ bytesP ys ∧ L.length ≤ 400 ∧ L.map psOf ++ getP (400 - L.length) ys = getP 400 zs ∧
    OwnN w.heap.size 106 4 wr lo L.length cap (stsL L) ∧ (∀ s ∈ L, ∀ w0, Row w0 ao n c 1 (zs.map (Value.int .u8)) → StOk w0 s) ∧ Below w.heap.size w wr ∧ rn ≤ 1000000000000

set_option maxRecDepth 100000 in
set_option maxHeartbeats 2000000 in
theorem get_any (ao : Option Addr) (n c : Nat) (zs : List Int) (w : World) (h : Row w ao n c 1 (zs.map (Value.int .u8))) (hz : bytesP zs) (hn : n ≤ 1000000000000) :
    Calls Tryd.prog 99 #[.slice ao n c] w fun e w' => ∃ (lo : Option Addr) (cap : Nat) (L : List Stp), e = .returned (.slice lo L.length cap) ∧ Sts w' lo L.length cap L ∧ L.map psOf = getP 400 zs ∧ (∀ s ∈ L, ∀ w0, Row w0 ao n c 1 (zs.map (Value.int .u8)) → StOk w0 s) ∧ OwnN w.heap.size 106 4 w' lo L.length cap (stsL L) ∧ Below w.heap.size w w' := by
  have hB0 := Below.refl w.heap.size w
  have H := Lib.hid h
  have HZ := Lib.hid hz
  have HN := Lib.hid hn
  clear h hz hn
  go_enter Tryd.func99, Tryd.ntmps99
  go_wp2
  go_loopw [0, 3] (fun v l wr => GetRel w ao n c zs v l wr) (fun _ l _ => 400 - sliceLen l)
  case atStart => exact ⟨ao, n, c, zs, none, 0, [], rfl, rfl, fun _ h => h, HZ.out, by decide, rfl, by simpa [stsL] using ownN_nil _ _ _ _, by simp, hB0, HN.out⟩
  case round =>
    obtain ⟨co, rn, rc, ys, lo, cap, L, rfl, rfl, hrow, hby, hl4, hget, hown, hok, hB, hrn⟩ := hrel
    obtain ⟨ln, hln⟩ : ∃ ln, L.length = ln := ⟨_, rfl⟩
    rw [hln] at hl4 hown hget ⊢
    have HR := Lib.hid hrow
    have HO := Lib.hid hown
    have HOK := Lib.hid hok
    have HG := Lib.hid hget
    have HLN := Lib.hid hln
    have HBy := Lib.hid hby
    have hyl : ys.length = rn := by simpa using (hrow w H.out).len
    have HYL := Lib.hid hyl
    clear hrow hown hok hget hln hby hyl
    by_cases h0 : rn = 0
    · subst h0
      go_wp2
      go_ret
      have hyn : ys = [] := List.eq_nil_of_length_eq_zero HYL.out
      have hg := HG.out
      rw [hyn, getP_nil, List.append_nil] at hg
      have ho := HO.out
      refine ⟨lo, cap, L, by (rw [HLN.out] <;> rfl), ⟨HLN.out ▸ ho.row (stsL_one L), fun s hs => (HOK.out s hs w H.out).later hB⟩, hg, HOK.out, by rw [HLN.out]; exact ho, hB⟩
    · have hpos : 0 < (rn : Int) := by omega
      by_cases h4 : ln = 400
      · subst h4
        go_wp2
        go_ret
        have hg := HG.out
        have e0 : getP (400 - 400) ys = [] := rfl
        rw [e0, List.append_nil] at hg
        have ho := HO.out
        refine ⟨lo, cap, L, by (rw [HLN.out] <;> rfl), ⟨HLN.out ▸ ho.row (stsL_one L), fun s hs => (HOK.out s hs w H.out).later hB⟩, hg, HOK.out, by rw [HLN.out]; exact ho, hB⟩
      · have hlt : (ln : Int) < 400 := by omega
        obtain ⟨b, off, rfl⟩ := row_addr (HR.out w H.out) (by intro e; have := congrArg List.length e; simp [HYL.out] at this; exact h0 this)
        obtain ⟨k, hk⟩ : ∃ k, min rn 6 = k := ⟨_, rfl⟩
        have hkn : (k : Int) ≤ (rn : Int) := by omega
        have hk0 : (0 : Int) ≤ (k : Int) := by omega
        have HRw := Lib.hid ((HR.out w H.out).later hB)
        have hle := (HR.out w H.out).le
        have hkc : (k : Int) ≤ (rc : Int) := by omega
        obtain ⟨of2, hco2⟩ : ∃ of2, (if rc = k then some (⟨b, off, none⟩ : Addr) else some ⟨b, off + k, none⟩) = some ⟨b, of2, none⟩ := by split <;> exact ⟨_, rfl⟩
        have HK := Lib.hid hk
        have HR2 := fun (w0 : World) (h0 : Row w0 ao n c 1 (zs.map (Value.int .u8))) => (hco2 ▸ row_from (HR.out w0 h0) k (by omega) : Row w0 (some ⟨b, of2, none⟩) (rn - k) (rc - k) 1 ((ys.drop k).map (Value.int .u8)))
        obtain ⟨rn2, hrn2⟩ : ∃ z, rn - k = z := ⟨_, rfl⟩
        obtain ⟨rc2, hrc2⟩ : ∃ z, rc - k = z := ⟨_, rfl⟩
        rw [hrn2, hrc2] at HR2
        replace HR2 := Lib.hid HR2
        obtain ⟨x0, hx0⟩ : ∃ z, atP ys 0 = z := ⟨_, rfl⟩
        obtain ⟨x1, hx1⟩ : ∃ z, atP ys 1 = z := ⟨_, rfl⟩
        obtain ⟨x2, hx2⟩ : ∃ z, atP ys 2 = z := ⟨_, rfl⟩
        obtain ⟨x3, hx3⟩ : ∃ z, atP ys 3 = z := ⟨_, rfl⟩
        obtain ⟨x4, hx4⟩ : ∃ z, atP ys 4 = z := ⟨_, rfl⟩
        obtain ⟨x5, hx5⟩ : ∃ z, atP ys 5 = z := ⟨_, rfl⟩
        have b0 := atP_b HBy.out 0
        have b1 := atP_b HBy.out 1
        have b2 := atP_b HBy.out 2
        have b3 := atP_b HBy.out 3
        have b4 := atP_b HBy.out 4
        have b5 := atP_b HBy.out 5
        rw [hx0] at b0
        rw [hx1] at b1
        rw [hx2] at b2
        rw [hx3] at b3
        rw [hx4] at b4
        rw [hx5] at b5
        obtain ⟨sz, hsz⟩ : ∃ sz, szP ys = sz := ⟨_, rfl⟩
        have hsz2 : min (x4 + 256 * x5) (rn2 : Int) = (sz : Int) := by
          have := HYL.out
          unfold szP at hsz
          rw [hx4, hx5] at hsz
          omega
        have hsn : (sz : Int) ≤ (rn2 : Int) := by omega
        have hs0 : (0 : Int) ≤ (sz : Int) := by omega
        have hle2 := (HR2.out w H.out).le
        have hsc : (sz : Int) ≤ (rc2 : Int) := by omega
        obtain ⟨co3, hco3⟩ : ∃ co3, (if rc2 = sz then some (⟨b, of2, none⟩ : Addr) else some ⟨b, of2 + sz, none⟩) = co3 := ⟨_, rfl⟩
        have HR3 := fun (w0 : World) (h0 : Row w0 ao n c 1 (zs.map (Value.int .u8))) => (hco3 ▸ row_from (HR2.out w0 h0) sz (by omega) : Row w0 co3 (rn2 - sz) (rc2 - sz) 1 (((ys.drop k).drop sz).map (Value.int .u8)))
        obtain ⟨rn3, hrn3⟩ : ∃ z, rn2 - sz = z := ⟨_, rfl⟩
        obtain ⟨rc3, hrc3⟩ : ∃ z, rc2 - sz = z := ⟨_, rfl⟩
        rw [hrn3, hrc3] at HR3
        replace HR3 := Lib.hid HR3
        have hrem : x0.tmod 10 = x0 % 10 := Int.tmod_eq_emod_of_nonneg b0.1
        obtain ⟨x6, hx6⟩ : ∃ z, x0 % 10 = z := ⟨_, rfl⟩
        rw [hx6] at hrem
        have HX6 := Lib.hid hx6
        have HSZ := Lib.hid hsz
        have HN3 := Lib.hid (And.intro hrn2 (And.intro hrn3 hsn))
        clear hx6 hsz
        have hor1 := i64_or_hi x4 x5 b4 b5
        have hor2 := i64_or_hi x2 x3 b2 b3
        have HX := Lib.hid (And.intro hx0 (And.intro hx1 (And.intro hx2 (And.intro hx3 (And.intro hx4 hx5)))))
        clear hk
        go_wp2_with (first |
          (refine wpList_copy6 wr rfl (.tmp 15) (.tmp 16) rfl _ rfl b off rn rc ys rfl HRw.out k HK.out ?_; intro w2 hb2 hM2; rw [hx0, hx1, hx2, hx3, hx4, hx5] at hM2; clear hx0 hx1 hx2 hx3 hx4 hx5; have hM := Lib.hid hM2; have HM2 := hM; have hF := hM2; (simp only [Mem, cellsAt, Nat.zero_add, Nat.reduceAdd, and_true] at hF); have HB2 := Lib.hid hb2; have hB3 := bl_then hB hb2; clear hM2 hb2))
        clear hM
        have hM := HM2
        have v0 : IntKind.i64.wrap x0 = x0 := by rw [IntKind.wrap_i64]; omega
        have v1 : IntKind.i64.wrap x1 = x1 := by rw [IntKind.wrap_i64]; omega
        have v2 : IntKind.i64.wrap x2 = x2 := by rw [IntKind.wrap_i64]; omega
        have v3 : IntKind.i64.wrap x3 = x3 := by rw [IntKind.wrap_i64]; omega
        have v4 : IntKind.i64.wrap (x3 * 256) = x3 * 256 := by rw [IntKind.wrap_i64]; omega
        refine wp_plan (fun x => Mem x _) [21, 22] [0, 1, 2, 3, 4, 5, 6, 7, 8, 9, 10, 11, 12, 13, 14, 15, 16, 17, 18, 19, 20, 21, 22, 23] (by kernel_rfl) (by kernel_rfl) (Mem.drew hM.out) (fun hHeld => ?_)
        iterate 21 (refine wpT_take rfl (by rfl) (by rfl) (by intro w' hSw; (try dsimp only [Mem, cellsAt] at hSw); go_simp; (try with_reducible rfl)) (by assumption) ?_; (try simp only [Act.put, List.setIfInBounds_toArray, List.set_cons_zero, List.set_cons_succ]))
        (refine wpT_step rfl (by rfl) (fun K hK => ?_); go_simp)
        (refine hK.out _ _ _ (fun _ h => h) (Mem.drew (Mem.skip hM.out _)) (fun hHeld => ?_); clear hK; clear K; (try simp only [Act.put, List.setIfInBounds_toArray, List.set_cons_zero, List.set_cons_succ]))
        (refine wpT_step rfl (by rfl) (fun K hK => ?_))
        obtain ⟨s, hs⟩ : ∃ s : Stp, s = ⟨x6, x1, x2 + 256 * x3, some ⟨b, of2, none⟩, sz, sz, (ys.drop k).take sz⟩ := ⟨_, rfl⟩
        have hrs := row_stp w2 s
        have hst : stL s = [.int .i64 x6, .int .i64 x1, .int .i64 (x2 + 256 * x3), .slice (some ⟨b, of2, none⟩) sz sz] := by rw [hs]; rfl
        rw [show s.k = x6 by rw [hs], show s.p = x1 by rw [hs], show s.n = x2 + 256 * x3 by rw [hs], show s.ao = some ⟨b, of2, none⟩ by rw [hs], show s.m = sz by rw [hs], show s.c = sz by rw [hs]] at hrs
        have hok : ∀ w0, Row w0 ao n c 1 (zs.map (Value.int .u8)) → StOk w0 s := by
          intro w0 h0
          have hb6 : 0 ≤ x6 ∧ x6 < 256 := by have := HX6.out; omega
          rw [hs]
          exact ⟨row_upto (HR2.out w0 h0) sz (by have := HN3.out; omega), bytesP_take (bytesP_drop HBy.out _) _, by simp only; omega, by simp only; omega, by simp only; omega⟩
        have hps : psOf s = oneP ys := by
          rw [hs]
          unfold psOf oneP
          rw [HX.out.1, HX.out.2.1, HX.out.2.2.1, HX.out.2.2.2.1, HX6.out, HSZ.out, ← HK.out, ← HYL.out, drop_min6]
        have HS := Lib.hid (And.intro hst (And.intro hok hps))
        have HRS := Lib.hid hrs
        clear hs hst hok hps hrs
        have hbq : Below wr.heap.size wr (w2.alloc (.cells #[.int .i64 x6, .int .i64 x1, .int .i64 (x2 + 256 * x3), .slice (some ⟨b, of2, none⟩) sz sz] 106)).drew := (bl_al HB2.out _).drew
        have hbq2 : Below w.heap.size w (w2.alloc (.cells #[.int .i64 x6, .int .i64 x1, .int .i64 (x2 + 256 * x3), .slice (some ⟨b, of2, none⟩) sz sz] 106)).drew := (bl_al hB3 _).drew
        refine step_appN eltStp _ rfl (.tmp 30) (.tmp 51) rfl w.heap.size hbq2.size lo ln cap (stsL L) rfl (HO.out.later hbq) (some ⟨w2.heap.size, 0, none⟩) 1 1 (stL s) rfl HRS.out.drew (fun _ => by decide) (by omega) ?_
        intro g2 cp2 w7 row hown7 hgrow7 hrow7
        have hlt7 := own_row_lt HO.out hrow7
        have hB7 := below_grown hbq2 hgrow7 (fun k hk => (hlt7 k hk).1)
        have HO7 := Lib.hid hown7
        (refine hK.out _ _ _ (fun _ h => h) (Mem.grown hgrow7 (fun p hp k hk => by simp at hp; subst hp; have := (hlt7 k hk).2; simp; omega) (Mem.drew (Mem.skip hM.out _))) (fun hHeld => ?_); clear hK; clear K; (try simp only [Act.put, List.setIfInBounds_toArray, List.set_cons_zero, List.set_cons_succ]))
        clear hown7 hgrow7 hrow7 hlt7 hbq hbq2
        iterate 1 (refine wpT_take rfl (by rfl) (by rfl) (by intro w' hSw; (try dsimp only [Mem, cellsAt] at hSw); go_simp; (try with_reducible rfl)) (by assumption) ?_; (try simp only [Act.put, List.setIfInBounds_toArray, List.set_cons_zero, List.set_cons_succ]))
        (refine wpT_nil ?_)
        go_wp2
        refine ⟨⟨co3, rn3, rc3, (ys.drop k).drop sz, some ⟨g2, 0, none⟩, cp2, L ++ [s], rfl, by rw [List.length_append, HLN.out]; rfl, HR3.out, bytesP_drop (bytesP_drop HBy.out _) _, by rw [List.length_append, HLN.out]; simp; omega, ?_, ?_, ?_, hB7, by have := HN3.out; omega⟩, ?_⟩
        · rw [← HG.out, show 400 - ln = 400 - (ln + 1) + 1 by omega, getP_ne _ ys (by have := HYL.out; omega), List.map_append, List.append_assoc, List.length_append, HLN.out, ← HS.out.2.2, HSZ.out, ← HK.out, ← HYL.out, drop_min6, List.drop_drop]
          rfl
        · rw [List.length_append, HLN.out, stsL_app]
          have h7 := HO7.out
          have e : stsL [s] = stL s := by simp [stsL]
          rw [e]
          exact .inr ⟨g2, rfl, h7⟩
        · intro x hx
          rcases List.mem_append.1 hx with hx | hx
          · exact HOK.out x hx
          · simp at hx
            subst hx
            exact HS.out.2.1
        · simp only [sliceLen]
          omega
end Go.Proofs.YtpdgeiflmnhkfaaDoor
