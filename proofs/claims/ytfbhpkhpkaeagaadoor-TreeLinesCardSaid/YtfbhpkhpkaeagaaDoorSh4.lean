/- SHA-256, the plain functions. (hM) Merged: Sh0, Sh1, Sh2, Sh3, Sh4. -/
import Derived.Test.YtfbhpkhpkaeagaaDoorCat
import Derived.Test.YtfbhpkhpkaeagaaDoorWpy
/- SHA-256, the plain functions. -/
namespace Go.Proofs.YtfbhpkhpkaeagaaDoor
set_option linter.unusedVariables false
set_option linter.unusedSimpArgs false
open Go.RowKit

/-- words as cells -/
def u32l (f : Nat → Int) (n : Nat) : List Value := (List.range n).map fun i => .int .u32 (f i)
theorem u32l_len (f : Nat → Int) (n : Nat) : (u32l f n).length = n := by simp [u32l]
theorem u32l_get (f : Nat → Int) (n i : Nat) (h : i < n) : (u32l f n)[i]? = some (.int .u32 (f i)) := by simp [u32l, h]
theorem u32l_one (f : Nat → Int) (n : Nat) : ∀ u ∈ u32l f n, u.oneCell' = true := by
  intro u hu
  simp only [u32l, List.mem_map] at hu
  obtain ⟨x, _, rfl⟩ := hu
  rfl
theorem u32l_congr {f g : Nat → Int} {n : Nat} (h : ∀ i, i < n → f i = g i) : u32l f n = u32l g n := by
  unfold u32l
  refine List.map_congr_left fun i hi => ?_
  rw [h i (List.mem_range.1 hi)]
theorem u32l_set (f : Nat → Int) (n q : Nat) (v : Int) : (u32l f n).set q (.int .u32 v) = u32l (setF f q v) n := by
  apply List.ext_getElem
  · simp [u32l]
  · intro i h1 h2
    simp only [u32l, List.length_set, List.length_map, List.length_range] at h1
    rw [List.getElem_set]
    simp only [u32l, List.getElem_map, List.getElem_range, setF]
    by_cases h : q = i
    · rw [if_pos h, if_pos h.symm]
    · rw [if_neg h, if_neg (fun e => h e.symm)]

/-- eight words written one by one -/
def wset8 (w : World) (b : Nat) (x0 x1 x2 x3 x4 x5 x6 x7 : Int) : World := ((((((((w.setCell ⟨b, 0, none⟩ (.int .u32 x0)).setCell ⟨b, 1, none⟩ (.int .u32 x1)).setCell ⟨b, 2, none⟩ (.int .u32 x2)).setCell ⟨b, 3, none⟩ (.int .u32 x3)).setCell ⟨b, 4, none⟩ (.int .u32 x4)).setCell ⟨b, 5, none⟩ (.int .u32 x5)).setCell ⟨b, 6, none⟩ (.int .u32 x6)).setCell ⟨b, 7, none⟩ (.int .u32 x7))
theorem Mem.set8 {w : World} {b : Nat} {y0 y1 y2 y3 y4 y5 y6 y7 : Value} (x0 x1 x2 x3 x4 x5 x6 x7 : Int) {l : List (Nat × List Value)} (hd : ∀ p ∈ l, p.1 ≠ b) (h : Mem w ((b, [y0, y1, y2, y3, y4, y5, y6, y7]) :: l)) :
    Mem (wset8 w b x0 x1 x2 x3 x4 x5 x6 x7) ((b, [.int .u32 x0, .int .u32 x1, .int .u32 x2, .int .u32 x3, .int .u32 x4, .int .u32 x5, .int .u32 x6, .int .u32 x7]) :: l) := ((((((((h.setN (k := 0) (v := .int .u32 x0) hd).setN (k := 1) (v := .int .u32 x1) hd).setN (k := 2) (v := .int .u32 x2) hd).setN (k := 3) (v := .int .u32 x3) hd).setN (k := 4) (v := .int .u32 x4) hd).setN (k := 5) (v := .int .u32 x5) hd).setN (k := 6) (v := .int .u32 x6) hd).setN (k := 7) (v := .int .u32 x7) hd)
theorem bl_set8 {a w : World} {b : Nat} (x0 x1 x2 x3 x4 x5 x6 x7 : Int) (hb : a.heap.size ≤ b) (h : Below a.heap.size a w) : Below a.heap.size a (wset8 w b x0 x1 x2 x3 x4 x5 x6 x7) :=
  ((((((((h.setCell (p := ⟨b, 0, none⟩) hb _).setCell (p := ⟨b, 1, none⟩) hb _).setCell (p := ⟨b, 2, none⟩) hb _).setCell (p := ⟨b, 3, none⟩) hb _).setCell (p := ⟨b, 4, none⟩) hb _).setCell (p := ⟨b, 5, none⟩) hb _).setCell (p := ⟨b, 6, none⟩) hb _).setCell (p := ⟨b, 7, none⟩) hb _)

def add32 (a b : Int) : Int := IntKind.u32.wrap (a + b)
/-- turned down by n -/
def rotR (x : Int) (n : Nat) : Int := bits .or .u32 (IntKind.u32.wrap (x * 2 ^ (32 - n))) (x / 2 ^ n)
def xor3 (a b c : Int) : Int := bits .xor .u32 (bits .xor .u32 a b) c
def sg0 (x : Int) : Int := xor3 (rotR x 7) (rotR x 18) (x / 2 ^ 3)
def sg1 (x : Int) : Int := xor3 (rotR x 17) (rotR x 19) (x / 2 ^ 10)
/-- four bytes as a word -/
def be4 (f : Nat → Int) (i : Nat) : Int := bits .or .u32 (bits .or .u32 (bits .or .u32 (IntKind.u32.wrap (f (4 * i) * 2 ^ 24)) (IntKind.u32.wrap (f (4 * i + 1) * 2 ^ 16))) (IntKind.u32.wrap (f (4 * i + 2) * 2 ^ 8))) (f (4 * i + 3))
/-- the first j words of a block -/
def wd0 (f : Nat → Int) (j k : Nat) : Int := if k < j then be4 f k else 0
/-- t words more -/
def wds (f : Nat → Int) : Nat → Nat → Int
  | 0 => wd0 f 16
  | t + 1 => setF (wds f t) (16 + t) (add32 (add32 (add32 (sg1 (wds f t (16 + t - 2))) (wds f t (16 + t - 7))) (sg0 (wds f t (16 + t - 15)))) (wds f t (16 + t - 16)))
structure S8 where
  a : Int
  b : Int
  c : Int
  d : Int
  e : Int
  f : Int
  g : Int
  h : Int
def rnd (k w : Int) (s : S8) : S8 :=
  let t1 := add32 (add32 (add32 (add32 s.h (xor3 (rotR s.e 6) (rotR s.e 11) (rotR s.e 25))) (bits .xor .u32 (bits .and .u32 s.e s.f) (bits .and .u32 (bits .xor .u32 IntKind.u32.max s.e) s.g))) k) w
  let t2 := add32 (xor3 (rotR s.a 2) (rotR s.a 13) (rotR s.a 22)) (xor3 (bits .and .u32 s.a s.b) (bits .and .u32 s.a s.c) (bits .and .u32 s.b s.c))
  ⟨add32 t1 t2, s.a, s.b, s.c, add32 s.d t1, s.e, s.f, s.g⟩
def KK : List Int := [0x428a2f98, 0x71374491, 0xb5c0fbcf, 0xe9b5dba5, 0x3956c25b, 0x59f111f1, 0x923f82a4, 0xab1c5ed5,
  0xd807aa98, 0x12835b01, 0x243185be, 0x550c7dc3, 0x72be5d74, 0x80deb1fe, 0x9bdc06a7, 0xc19bf174,
  0xe49b69c1, 0xefbe4786, 0x0fc19dc6, 0x240ca1cc, 0x2de92c6f, 0x4a7484aa, 0x5cb0a9dc, 0x76f988da,
  0x983e5152, 0xa831c66d, 0xb00327c8, 0xbf597fc7, 0xc6e00bf3, 0xd5a79147, 0x06ca6351, 0x14292967,
  0x27b70a85, 0x2e1b2138, 0x4d2c6dfc, 0x53380d13, 0x650a7354, 0x766a0abb, 0x81c2c92e, 0x92722c85,
  0xa2bfe8a1, 0xa81a664b, 0xc24b8b70, 0xc76c51a3, 0xd192e819, 0xd6990624, 0xf40e3585, 0x106aa070,
  0x19a4c116, 0x1e376c08, 0x2748774c, 0x34b0bcb5, 0x391c0cb3, 0x4ed8aa4a, 0x5b9cca4f, 0x682e6ff3,
  0x748f82ee, 0x78a5636f, 0x84c87814, 0x8cc70208, 0x90befffa, 0xa4506ceb, 0xbef9a3f7, 0xc67178f2]
def HH : List Int := [0x6a09e667, 0xbb67ae85, 0x3c6ef372, 0xa54ff53a, 0x510e527f, 0x9b05688c, 0x1f83d9ab, 0x5be0cd19]
def kF (i : Nat) : Int := KK.getD i 0
def hF0 (i : Nat) : Int := HH.getD i 0
def rnds (w : Nat → Int) (s : S8) : Nat → S8
  | 0 => s
  | i + 1 => rnd (kF i) (w i) (rnds w s i)
def S8.at (s : S8) (i : Nat) : Int := match i with | 0 => s.a | 1 => s.b | 2 => s.c | 3 => s.d | 4 => s.e | 5 => s.f | 6 => s.g | _ => s.h
def S8.l (s : S8) : List Value := [.int .u32 s.a, .int .u32 s.b, .int .u32 s.c, .int .u32 s.d, .int .u32 s.e, .int .u32 s.f, .int .u32 s.g, .int .u32 s.h]
/-- a block summed -/
def blk (s : S8) (f : Nat → Int) : S8 :=
  let t := rnds (wds f 48) s 64
  ⟨add32 s.a t.a, add32 s.b t.b, add32 s.c t.c, add32 s.d t.d, add32 s.e t.e, add32 s.f t.f, add32 s.g t.g, add32 s.h t.h⟩
def s0H : S8 := ⟨0x6a09e667, 0xbb67ae85, 0x3c6ef372, 0xa54ff53a, 0x510e527f, 0x9b05688c, 0x1f83d9ab, 0x5be0cd19⟩
/-- k blocks of f, from the o-th byte on -/
def blks (s : S8) (f : Nat → Int) : Nat → S8
  | 0 => s
  | k + 1 => blk (blks s f k) (fun i => f (64 * k + i))
/-- the bytes that stand behind n, the j-th -/
def padF (n : Int) (k j : Nat) : Int := if j = 0 then 128 else if k - 8 ≤ j then IntKind.u8.wrap (IntKind.u64.wrap (n * 8) / 2 ^ (8 * (k - 1 - j))) else 0
/-- a state's words as bytes -/
def outF (s : S8) (j : Nat) : Int := IntKind.u8.wrap (s.at (j / 4) / 2 ^ (24 - 8 * (j % 4)))
/-- how many bytes are put behind n -/
def padN (n : Nat) : Nat := 9 + (119 - n % 64) % 64
/-- the sum of n bytes -/
def shaF (f : Nat → Int) (n : Nat) : Nat → Int := outF (blks s0H (catF f n (padF n (padN n))) ((n + padN n) / 64))
end Go.Proofs.YtfbhpkhpkaeagaaDoor

/- SHA-256: turned, words. (hM) -/
namespace Go.Proofs.YtfbhpkhpkaeagaaDoor
set_option linter.unusedVariables false
set_option linter.unusedSimpArgs false
open Go.RowKit

set_option maxHeartbeats 1000000 in
theorem rotl_any (x : Int) (n : Nat) (hn : 0 < n ∧ n < 32) (w : World) : Calls Tryd.prog 53 #[.int .u32 x, .int .i64 (-(n : Int))] w fun e w' => e = .returned (.int .u32 (rotR x n)) ∧ w = w' := by
  have h1 : ∀ m : Fin 32, 0 < m.val → bits .and .u64 (IntKind.u64.wrap (-((m.val : Nat) : Int))) 31 = ((32 - m.val : Nat) : Int) := by decide +kernel
  have h2 := h1 ⟨n, hn.2⟩ hn.1
  dsimp only at h2
  obtain ⟨m, hm⟩ : ∃ m, 32 - n = m := ⟨_, rfl⟩
  have hmn : m + n = 32 := by omega
  have h3 : IntKind.u64.wrap (32 - (m : Int)) = (n : Int) := by rw [IntKind.wrap_u64]; omega
  rw [hm] at h2
  have h32 : (m : Int) ≤ 32 := by omega
  have hn32 : (n : Int) ≤ 32 := by omega
  unfold rotR
  rw [hm]
  clear h1 hm
  go_enter Tryd.func53, Tryd.ntmps53
  go_wp2
  go_ret
  exact ⟨rfl, rfl⟩
set_option maxHeartbeats 1000000 in
theorem turned_any2 (x : Int) (n : Nat) (hn : 0 < n ∧ n < 32) (w : World) : Calls Tryd.prog 52 #[.int .u32 x, .int .i64 n] w fun e w' => e = .returned (.int .u32 (rotR x n)) ∧ w = w' := by
  have hn32 : (n : Int) ≤ 32 := by omega
  have hn0 : 0 ≤ (n : Int) := by omega
  have HR := Lib.hid (fun w => rotl_any x n hn w)
  go_enter Tryd.func52, Tryd.ntmps52
  go_wp2_with (go_at_call 53; (with_reducible refine (HR.out _).mono ?_); rintro e w1 ⟨rfl, rfl⟩)
  go_ret
  exact ⟨rfl, rfl⟩
end Go.Proofs.YtfbhpkhpkaeagaaDoor

/- SHA-256: words. (hM) -/
namespace Go.Proofs.YtfbhpkhpkaeagaaDoor
set_option linter.unusedVariables false
set_option linter.unusedSimpArgs false
open Go.RowKit

theorem turned_lit (x m : Int) (n : Nat) (hm : m = (n : Int)) (hn : 0 < n ∧ n < 32) (w : World) : Calls Tryd.prog 52 #[.int .u32 x, .int .i64 m] w fun e w' => e = .returned (.int .u32 (rotR x n)) ∧ w = w' := hm ▸ turned_any2 x n hn w
def zW : Array Value := (u32l (fun _ => 0) 64).toArray
def WdRel (w : World) (f : Nat → Int) (i : Value) (wr : World) : Prop :=
  ∃ j : Nat, j ≤ 16 ∧ i = .int .i64 j ∧ Below w.heap.size w wr ∧ Mem wr [(w.heap.size + 1, u32l (wd0 f j) 64), (w.heap.size, u32l (fun _ => 0) 64)]
def WdRel2 (w : World) (f : Nat → Int) (i : Value) (wr : World) : Prop :=
  ∃ t : Nat, t ≤ 48 ∧ i = .int .i64 ((16 + t : Nat) : Int) ∧ Below w.heap.size w wr ∧ Mem wr [(w.heap.size + 1, u32l (wds f t) 64), (w.heap.size, u32l (fun _ => 0) 64)]
theorem wd0_set (f : Nat → Int) (j : Nat) : setF (wd0 f j) j (be4 f j) = wd0 f (j + 1) := by
  funext k
  unfold setF wd0
  by_cases h : k = j
  · subst h
    rw [if_pos rfl, if_pos (by omega)]
  · rw [if_neg h]
    by_cases h2 : k < j
    · rw [if_pos h2, if_pos (by omega)]
    · rw [if_neg h2, if_neg (by omega)]

set_option maxRecDepth 100000 in
set_option maxHeartbeats 2000000 in
theorem words_any (ao : Option Addr) (cap : Nat) (f : Nat → Int) (w : World) (hr : Row w ao 64 cap 1 (bcells f 64)) (hf : ∀ i, 0 ≤ f i ∧ f i < 256) :
    Calls Tryd.prog 51 #[.slice ao 64 cap] w fun e w' => e = .returned (.agg (u32l (wds f 48) 64).toArray) ∧ Below w.heap.size w w' := by
  obtain ⟨b, off, rfl⟩ : ∃ b off, ao = some ⟨b, off, none⟩ := row_addr hr (by intro e; have := hr.len; rw [e] at this; simp at this)
  have hblt := hr.lt _ rfl (by intro e; have := hr.len; rw [e] at this; simp at this)
  dsimp only at hblt
  have HR := Lib.hid hr
  have HFf := Lib.hid hf
  clear hr hf
  go_enter Tryd.func51, Tryd.ntmps51
  go_wp2
  go_loopw [10] (fun i wr => WdRel w f i wr) (fun i _ => 16 - (intOf i).toNat)
  case atStart =>
    refine ⟨0, Nat.zero_le _, rfl, by (repeat (first | exact Below.refl _ _ | refine Below.drew ?_ | refine bl_drewN ?_ _ | (refine Below.alloc ?_ (by first | exact Nat.le_refl _ | (simp; done) | (simp; omega)) _))), ?_⟩
    rw [u32l_congr (g := fun _ => 0) (fun k _ => by unfold wd0; rw [if_neg (by omega)])]
    have h := Mem.al (Mem.al (mem_nil w) (u32l (fun _ => 0) 64) 100) (u32l (fun _ => 0) 64) 100
    simp only [World.size_alloc] at h
    exact h
  case round =>
    obtain ⟨j, hj, rfl, hB, hm⟩ := hrel
    have HM3 := Lib.hid hm
    by_cases hlt : j < 16
    · obtain ⟨t, ht⟩ : ∃ t, 4 * j = t := ⟨_, rfl⟩
      obtain ⟨p1, hp1⟩ : ∃ p, t + 1 = p := ⟨_, rfl⟩
      obtain ⟨p2, hp2⟩ : ∃ p, t + 2 = p := ⟨_, rfl⟩
      obtain ⟨p3, hp3⟩ : ∃ p, t + 3 = p := ⟨_, rfl⟩
      obtain ⟨y0, hy0⟩ : ∃ y, f t = y := ⟨_, rfl⟩
      obtain ⟨y1, hy1⟩ : ∃ y, f p1 = y := ⟨_, rfl⟩
      obtain ⟨y2, hy2⟩ : ∃ y, f p2 = y := ⟨_, rfl⟩
      obtain ⟨y3, hy3⟩ : ∃ y, f p3 = y := ⟨_, rfl⟩
      have hbe : be4 f j = bits .or .u32 (bits .or .u32 (bits .or .u32 (IntKind.u32.wrap (y0 * 2 ^ 24)) (IntKind.u32.wrap (y1 * 2 ^ 16))) (IntKind.u32.wrap (y2 * 2 ^ 8))) y3 := by
        unfold be4
        rw [ht, hp1, hp2, hp3, hy0, hy1, hy2, hy3]
      have HRow : Hid (∀ x, Below w.heap.size w x → x.cell? ⟨b, off + t, none⟩ = some (.int .u8 y0) ∧ x.cell? ⟨b, off + p1, none⟩ = some (.int .u8 y1) ∧ x.cell? ⟨b, off + p2, none⟩ = some (.int .u8 y2) ∧ x.cell? ⟨b, off + p3, none⟩ = some (.int .u8 y3)) := fun x h => by
        rw [← hy0, ← hy1, ← hy2, ← hy3]
        have hc := (HR.out.later h).cells _ rfl
        exact ⟨(hc t _ (bcells_get f 64 t (by omega))).2, (hc p1 _ (bcells_get f 64 p1 (by omega))).2, (hc p2 _ (bcells_get f 64 p2 (by omega))).2, (hc p3 _ (bcells_get f 64 p3 (by omega))).2⟩
      have b0 := HFf.out t
      have b1 := HFf.out p1
      have b2 := HFf.out p2
      have b3 := HFf.out p3
      rw [hy0] at b0
      rw [hy1] at b1
      rw [hy2] at b2
      rw [hy3] at b3
      have v0 : IntKind.u32.wrap y0 = y0 := by rw [IntKind.wrap_u32]; omega
      have v1 : IntKind.u32.wrap y1 = y1 := by rw [IntKind.wrap_u32]; omega
      have v2 : IntKind.u32.wrap y2 = y2 := by rw [IntKind.wrap_u32]; omega
      have v3 : IntKind.u32.wrap y3 = y3 := by rw [IntKind.wrap_u32]; omega
      have t0 : IntKind.i64.wrap (4 * (j : Int)) = (t : Int) := by rw [IntKind.wrap_i64]; omega
      have t1 : IntKind.i64.wrap ((t : Int) + 1) = (p1 : Int) := by rw [IntKind.wrap_i64]; omega
      have t2 : IntKind.i64.wrap ((t : Int) + 2) = (p2 : Int) := by rw [IntKind.wrap_i64]; omega
      have t3 : IntKind.i64.wrap ((t : Int) + 3) = (p3 : Int) := by rw [IntKind.wrap_i64]; omega
      have l0 : (t : Int) < 64 := by omega
      have l1 : (p1 : Int) < 64 := by omega
      have l2 : (p2 : Int) < 64 := by omega
      have l3 : (p3 : Int) < 64 := by omega
      have hcq := cellsAt_get hm.1.2.2 (u32l_get (wd0 f j) 64 j (by omega))
      have hfz := hm.1.2.1 j
      have HBE := Lib.hid hbe
      have hj64 : (j : Int) < 64 := by omega
      clear hm ht hp1 hp2 hp3 hy0 hy1 hy2 hy3 b0 b1 b2 b3 hbe
      go_wp2
      refine wp_plan (fun x => x.cell? ⟨b, off + t, none⟩ = some (.int .u8 y0) ∧ x.cell? ⟨b, off + p1, none⟩ = some (.int .u8 y1) ∧ x.cell? ⟨b, off + p2, none⟩ = some (.int .u8 y2) ∧ x.cell? ⟨b, off + p3, none⟩ = some (.int .u8 y3)) [35] [0, 1, 2, 3, 4, 5, 6, 7, 8, 9, 10, 11, 12, 13, 14, 15, 16, 17, 18, 19, 20, 21, 22, 23, 24, 25, 26, 27, 28, 29, 30, 31, 32, 33, 34, 35] (by kernel_rfl) (by kernel_rfl) (HRow.out _ hB.drew) (fun hHeld => ?_)
      iterate 35 (refine wpT_take rfl (by rfl) (by rfl) (by intro w' hSw; (try dsimp only [Mem, cellsAt] at hSw); go_simp; (try with_reducible rfl)) (by assumption) ?_; (try simp only [Act.put, List.setIfInBounds_toArray, List.set_cons_zero, List.set_cons_succ]))
      (refine wpT_step rfl (by rfl) (fun K hK => ?_); go_simp)
      (refine hK.out _ _ _ (fun _ h => h) (HRow.out _ (hB.drew.setCell (by show w.heap.size ≤ w.heap.size + 1; omega) _)) (fun hHeld => ?_); clear hK; clear K; (try simp only [Act.put, List.setIfInBounds_toArray, List.set_cons_zero, List.set_cons_succ]))
      (refine wpT_nil ?_)
      go_wp2
      have hM2 := Mem.setN (k := j) (v := .int .u32 (be4 f j)) (b := w.heap.size + 1) (by intro p hp; simp at hp; subst hp; simp) HM3.out
      rw [u32l_set, wd0_set, HBE.out] at hM2
      refine ⟨⟨j + 1, by omega, by go_num, hB.drew.setCell (by show w.heap.size ≤ w.heap.size + 1; omega) _, Mem.drew hM2⟩, by simp [intOf]; omega⟩
    · have hjn : j = 16 := by omega
      subst hjn
      have h16 : ((16 : Nat) : Int) = 16 := rfl
      rw [h16]
      clear hm
      go_wp2
      go_loopw [5] (fun i wr => WdRel2 w f i wr) (fun i _ => 64 - (intOf i).toNat)
      case atStart => exact ⟨0, Nat.zero_le _, rfl, hB, HM3.out⟩
      case round =>
        obtain ⟨t, ht, rfl, hB, hm⟩ := hrel
        have HM4 := Lib.hid hm
        obtain ⟨q, hq⟩ : ∃ q, 16 + t = q := ⟨_, rfl⟩
        simp only [hq]
        by_cases hlt : t < 48
        · obtain ⟨m15, h15⟩ : ∃ m, 16 + t - 15 = m := ⟨_, rfl⟩
          obtain ⟨m2, h2⟩ : ∃ m, 16 + t - 2 = m := ⟨_, rfl⟩
          obtain ⟨m7, h7⟩ : ∃ m, 16 + t - 7 = m := ⟨_, rfl⟩
          obtain ⟨m16, h16'⟩ : ∃ m, 16 + t - 16 = m := ⟨_, rfl⟩
          obtain ⟨g, hg⟩ : ∃ g, wds f t = g := ⟨_, rfl⟩
          have hst : wds f (t + 1) = setF g q (add32 (add32 (add32 (sg1 (g m2)) (g m7)) (sg0 (g m15))) (g m16)) := by
            rw [← hg, ← hq, ← h15, ← h2, ← h7, ← h16']
            rfl
          rw [hg] at hm HM4
          obtain ⟨x15, hx15⟩ : ∃ x, g m15 = x := ⟨_, rfl⟩
          obtain ⟨x2, hx2⟩ : ∃ x, g m2 = x := ⟨_, rfl⟩
          obtain ⟨x7, hx7⟩ : ∃ x, g m7 = x := ⟨_, rfl⟩
          obtain ⟨x16, hx16⟩ : ∃ x, g m16 = x := ⟨_, rfl⟩
          have c15 := cellsAt_get hm.1.2.2 (u32l_get g 64 m15 (by omega))
          have c2 := cellsAt_get hm.1.2.2 (u32l_get g 64 m2 (by omega))
          have c7 := cellsAt_get hm.1.2.2 (u32l_get g 64 m7 (by omega))
          have c16 := cellsAt_get hm.1.2.2 (u32l_get g 64 m16 (by omega))
          have cq := cellsAt_get hm.1.2.2 (u32l_get g 64 q (by omega))
          have hfz := hm.1.2.1 q
          rw [hx15] at c15
          rw [hx2] at c2
          rw [hx7] at c7
          rw [hx16] at c16
          rw [hx15, hx2, hx7, hx16] at hst
          have w15 : IntKind.i64.wrap ((q : Int) - 15) = (m15 : Int) := by rw [IntKind.wrap_i64]; omega
          have w2 : IntKind.i64.wrap ((q : Int) - 2) = (m2 : Int) := by rw [IntKind.wrap_i64]; omega
          have w7 : IntKind.i64.wrap ((q : Int) - 7) = (m7 : Int) := by rw [IntKind.wrap_i64]; omega
          have w16 : IntKind.i64.wrap ((q : Int) - 16) = (m16 : Int) := by rw [IntKind.wrap_i64]; omega
          have hq64 : (q : Int) < 64 := by omega
          have hm15 : (m15 : Int) < 64 := by omega
          have hm2 : (m2 : Int) < 64 := by omega
          have hm7 : (m7 : Int) < 64 := by omega
          have hm16 : (m16 : Int) < 64 := by omega
          have HC := Lib.hid (And.intro c15 (And.intro c2 (And.intro c7 c16)))
          have far : ∀ (m : Nat) (x : Int) (v : Value), m ≠ q → wr.cell? ⟨w.heap.size + 1, m, none⟩ = some (.int .u32 x) → (wr.setCell ⟨w.heap.size + 1, q, none⟩ v).cell? ⟨w.heap.size + 1, m, none⟩ = some (.int .u32 x) := fun m x v hne h => by
            rw [World.cell?_setCell_other _ _ _ _ (by intro e; simp at e <;> omega)]
            exact h
          have HS : Hid (∀ v : Value, (wr.setCell ⟨w.heap.size + 1, q, none⟩ v).cell? ⟨w.heap.size + 1, m15, none⟩ = some (.int .u32 x15) ∧ (wr.setCell ⟨w.heap.size + 1, q, none⟩ v).cell? ⟨w.heap.size + 1, m2, none⟩ = some (.int .u32 x2) ∧ (wr.setCell ⟨w.heap.size + 1, q, none⟩ v).cell? ⟨w.heap.size + 1, m7, none⟩ = some (.int .u32 x7) ∧ (wr.setCell ⟨w.heap.size + 1, q, none⟩ v).cell? ⟨w.heap.size + 1, m16, none⟩ = some (.int .u32 x16)) := fun v =>
            ⟨far _ _ v (by omega) c15, far _ _ v (by omega) c2, far _ _ v (by omega) c7, far _ _ v (by omega) c16⟩
          clear far
          have HQ := Lib.hid (And.intro hq hst)
          clear hm hq hst h15 h2 h7 h16' hx15 hx2 hx7 hx16 c15 c2 c7 c16 hg HM3
          go_wp2
          refine wp_plan (fun x => x.cell? ⟨w.heap.size + 1, m15, none⟩ = some (.int .u32 x15) ∧ x.cell? ⟨w.heap.size + 1, m2, none⟩ = some (.int .u32 x2) ∧ x.cell? ⟨w.heap.size + 1, m7, none⟩ = some (.int .u32 x7) ∧ x.cell? ⟨w.heap.size + 1, m16, none⟩ = some (.int .u32 x16)) [] [0, 1, 2, 3, 4, 5, 6, 7, 8, 9] (by kernel_rfl) (by kernel_rfl) HC.out (fun hHeld => ?_)
          iterate 10 (refine wpT_take rfl (by rfl) (by rfl) (by intro w' hSw; (try dsimp only [Mem, cellsAt] at hSw); go_simp; (try with_reducible rfl)) (by assumption) ?_; (try simp only [Act.put, List.setIfInBounds_toArray, List.set_cons_zero, List.set_cons_succ]))
          (refine wpT_nil ?_)
          go_wp2_with (go_at_call 52; first | ((with_reducible refine (turned_lit _ 7 7 rfl (by decide) _).mono ?_); rintro e w1 ⟨rfl, rfl⟩) | ((with_reducible refine (turned_lit _ 18 18 rfl (by decide) _).mono ?_); rintro e w1 ⟨rfl, rfl⟩) | ((with_reducible refine (turned_lit _ 17 17 rfl (by decide) _).mono ?_); rintro e w1 ⟨rfl, rfl⟩) | ((with_reducible refine (turned_lit _ 19 19 rfl (by decide) _).mono ?_); rintro e w1 ⟨rfl, rfl⟩))
          refine wp_plan (fun x => x.cell? ⟨w.heap.size + 1, m15, none⟩ = some (.int .u32 x15) ∧ x.cell? ⟨w.heap.size + 1, m2, none⟩ = some (.int .u32 x2) ∧ x.cell? ⟨w.heap.size + 1, m7, none⟩ = some (.int .u32 x7) ∧ x.cell? ⟨w.heap.size + 1, m16, none⟩ = some (.int .u32 x16)) [15] [0, 1, 2, 3, 4, 5, 6, 7, 8, 9, 10, 11, 12, 13, 14, 15] (by kernel_rfl) (by kernel_rfl) HC.out (fun hHeld => ?_)
          iterate 15 (refine wpT_take rfl (by rfl) (by rfl) (by intro w' hSw; (try dsimp only [Mem, cellsAt] at hSw); go_simp; (try with_reducible rfl)) (by assumption) ?_; (try simp only [Act.put, List.setIfInBounds_toArray, List.set_cons_zero, List.set_cons_succ]))
          (refine wpT_step rfl (by rfl) (fun K hK => ?_); go_simp)
          (refine hK.out _ _ _ (fun _ h => h) (HS.out _) (fun hHeld => ?_); clear hK; clear K; (try simp only [Act.put, List.setIfInBounds_toArray, List.set_cons_zero, List.set_cons_succ]))
          (refine wpT_nil ?_)
          go_wp2
          have hM2 := Mem.setN (k := q) (v := .int .u32 (add32 (add32 (add32 (sg1 x2) x7) (sg0 x15)) x16)) (b := w.heap.size + 1) (by intro p hp; simp at hp; subst hp; simp) HM4.out
          rw [u32l_set, ← HQ.out.2] at hM2
          refine ⟨⟨t + 1, by omega, ?_, hB.drew.drew.setCell (by show w.heap.size ≤ w.heap.size + 1; omega) _, Mem.drew (Mem.drew hM2)⟩, by simp [intOf] <;> omega⟩
          rw [← HQ.out.1]
          go_num
        · have hte : t = 48 := by omega
          subst hte
          have hq64 : ¬ (q : Int) < 64 := by omega
          have hge : 64 ≤ (q : Int) := by omega
          clear hm HM3 hq
          have HTh := Lib.hid (thereW (n := (u32l (wds f 48) 64).length) HM4.out.2.1 (by rw [u32l_len, u32l_len]; exact Nat.le_refl _))
          go_wp2_with (first | (refine Go.wpList_load_mid rfl 100 (.tmp 3) rfl (w.heap.size + 1) 0 rfl (u32l (wds f 48) 64) _ (rangeAt_of HM4.out.1.2.2) Tryd.underlying100 rfl (by rw [u32l_len]; kernel_rfl) ?_) | (refine Go.wpList_store_mid rfl 100 (.tmp 2) (.tmp 92) rfl w.heap.size 0 (u32l (wds f 48) 64).toArray rfl rfl (by simpa using HTh.out) (by simp only [List.size_toArray, u32l_len]; kernel_rfl) (Go.all_oneCell_toArray (u32l_one _ 64)) ?_))
          have hl := Go.run_loadVar_mid (P := Tryd.prog) (wr.setCells w.heap.size 0 (u32l (wds f 48) 64)) w.heap.size 0 100 (u32l (wds f 48) 64) _ (World.rangeAt_setCells_same wr w.heap.size 0 (u32l (wds f 48) 64) HTh.out) Tryd.underlying100 rfl (by rw [u32l_len]; kernel_rfl)
          refine bodyPost_ret (v := .agg (u32l (wds f 48) 64).toArray) (by simp [results, Tryd.results51, asAddr, hl, Act.put]) rfl ⟨rfl, bl_setCellsW (Nat.le_refl _) _ _ _ hB⟩
end Go.Proofs.YtfbhpkhpkaeagaaDoor

/- SHA-256: Block. (hM) -/
namespace Go.Proofs.YtfbhpkhpkaeagaaDoor
set_option linter.unusedVariables false
set_option linter.unusedSimpArgs false
open Go.RowKit

/-- the constants lie in their variables -/
def Tab (w : World) : Prop := (0 < w.heap.size ∧ ∀ i, i < 64 → w.cell? ⟨0, i, none⟩ = some (.int .u32 (kF i))) ∧ (1 < w.heap.size ∧ ∀ i, i < 8 → w.cell? ⟨1, i, none⟩ = some (.int .u32 (hF0 i)))
theorem Tab.later {w w' : World} (h : Tab w) (hb : Below w.heap.size w w') : Tab w' :=
  ⟨⟨Nat.lt_of_lt_of_le h.1.1 hb.size, fun i hi => (hb.cell (p := ⟨0, i, none⟩) h.1.1).trans (h.1.2 i hi)⟩, ⟨Nat.lt_of_lt_of_le h.2.1 hb.size, fun i hi => (hb.cell (p := ⟨1, i, none⟩) h.2.1).trans (h.2.2 i hi)⟩⟩

theorem add32_mod (a b : Int) : add32 a b = (a + b) % 4294967296 := IntKind.wrap_u32 _
abbrev arrS (s : S8) : Value := .agg #[.int .u32 s.a, .int .u32 s.b, .int .u32 s.c, .int .u32 s.d, .int .u32 s.e, .int .u32 s.f, .int .u32 s.g, .int .u32 s.h]
def BlkRel (w : World) (s : S8) (W : Nat → Int) (gw : Nat) (a b c d e f g h i : Value) (wr : World) : Prop :=
  ∃ (j : Nat) (t : S8), j ≤ 64 ∧ t = rnds W s j ∧ a = .int .u32 t.a ∧ b = .int .u32 t.b ∧ c = .int .u32 t.c ∧ d = .int .u32 t.d ∧ e = .int .u32 t.e ∧ f = .int .u32 t.f ∧ g = .int .u32 t.g ∧ h = .int .u32 t.h ∧ i = .int .i64 j ∧
    Below w.heap.size w wr ∧ Mem wr [(gw, u32l W 64), (w.heap.size + 1, [.int .u32 0, .int .u32 0, .int .u32 0, .int .u32 0, .int .u32 0, .int .u32 0, .int .u32 0, .int .u32 0]), (w.heap.size, s.l)]

set_option maxRecDepth 100000 in
set_option maxHeartbeats 4000000 in
theorem block_any (s : S8) (ao : Option Addr) (cap : Nat) (f : Nat → Int) (w : World) (hT : Tab w) (hr : Row w ao 64 cap 1 (bcells f 64)) (hf : ∀ i, 0 ≤ f i ∧ f i < 256) :
    Calls Tryd.prog 46 #[arrS s, .slice ao 64 cap] w fun e w' => e = .returned (arrS (blk s f)) ∧ Below w.heap.size w w' := by
  have HT := Lib.hid hT
  have HW := Lib.hid (fun (x : World) (hb : Below w.heap.size w x) => words_any ao cap f x (hr.later hb) hf)
  obtain ⟨W, hW⟩ : ∃ W, wds f 48 = W := ⟨_, rfl⟩
  rw [hW] at HW
  have HE := Lib.hid hW
  clear hr hf hT hW
  obtain ⟨a0, b0, c0, d0, e0, f0, g0, h0⟩ := s
  have hB := Below.refl w.heap.size w
  have hM := Lib.hid (mem_nil w)
  have hF : True := trivial
  go_enter Tryd.func46, Tryd.ntmps46
  go_wp2_with (first | (go_at_call 51; ((with_reducible refine (HW.out _ (by (repeat (first | exact hB | refine bl_al ?_ _ | refine Below.setCell ?_ (by first | exact hgs | exact Nat.le_succ_of_le hgs | exact hgs2 | exact hgs3) _ | refine Below.drew ?_ | refine bl_drewN ?_ _)))).mono ?_); rintro e w1 ⟨rfl, hb⟩; have hB : Below w.heap.size w w1 := (by refine bl_then ?_ hb; (repeat (first | exact hB | refine bl_al ?_ _ | refine Below.setCell ?_ (by first | exact hgs | exact Nat.le_succ_of_le hgs | exact hgs2 | exact hgs3) _ | refine Below.drew ?_ | refine bl_drewN ?_ _))); (first | with_reducible have hM2 := Mem.later hb (hM.out) | with_reducible have hM2 := Mem.later hb (Mem.al (hM.out) _ _) | with_reducible have hM2 := Mem.later hb (Mem.al (Mem.al (hM.out) _ _) _ _) | with_reducible have hM2 := Mem.later hb (Mem.al (Mem.al (Mem.al (hM.out) _ _) _ _) _ _) | with_reducible have hM2 := Mem.later hb (Mem.al (Mem.al (Mem.al (Mem.al (hM.out) _ _) _ _) _ _) _ _) | with_reducible have hM2 := Mem.later hb (Mem.drew (hM.out)) | with_reducible have hM2 := Mem.later hb (Mem.drew (Mem.al (hM.out) _ _)) | with_reducible have hM2 := Mem.later hb (Mem.al (Mem.drew (hM.out)) _ _) | with_reducible have hM2 := Mem.later hb (Mem.al (Mem.drew (Mem.al (hM.out) _ _)) _ _) | with_reducible have hM2 := Mem.later hb (Mem.drew (Mem.al (Mem.al (hM.out) _ _) _ _)) | with_reducible have hM2 := Mem.later hb (Mem.al (Mem.al (Mem.drew (hM.out)) _ _) _ _) | with_reducible have hM2 := Mem.later hb (Mem.drew (Mem.drew (hM.out))) | with_reducible have hM2 := Mem.later hb (Mem.drew (Mem.al (Mem.drew (hM.out)) _ _)) | with_reducible have hM2 := Mem.later hb (Mem.drew (Mem.al (Mem.al (Mem.al (hM.out) _ _) _ _) _ _)) | with_reducible have hM2 := Mem.later hb (Mem.al (Mem.al (Mem.drew (Mem.al (hM.out) _ _)) _ _) _ _) | with_reducible have hM2 := Mem.later hb (Mem.drew (Mem.al (Mem.drew (Mem.al (hM.out) _ _)) _ _)) | with_reducible have hM2 := Mem.later hb (Mem.al (Mem.al (Mem.al (Mem.al (Mem.al (hM.out) _ _) _ _) _ _) _ _) _ _) | with_reducible have hM2 := Mem.later hb (Mem.al (Mem.al (Mem.al (Mem.al (Mem.al (Mem.al (hM.out) _ _) _ _) _ _) _ _) _ _) _ _) | with_reducible have hM2 := Mem.later hb (Mem.al (Mem.al (Mem.al (Mem.al (Mem.al (Mem.al (Mem.al (hM.out) _ _) _ _) _ _) _ _) _ _) _ _) _ _) | with_reducible have hM2 := Mem.later hb (Mem.al (Mem.al (Mem.al (Mem.al (Mem.al (Mem.al (Mem.al (Mem.al (hM.out) _ _) _ _) _ _) _ _) _ _) _ _) _ _) _ _)); (try simp only [World.size_alloc, size_drew] at hM2); clear hM; have hM := Lib.hid hM2; clear hF; have hF := hM2; (try simp only [Mem, cellsAt, World.size_alloc, Nat.zero_add, Nat.reduceAdd, and_true] at hF); clear hM2; clear hb)) | (refine wpList_store_newV rfl (.tmp 5) (.tmp 26) 100 rfl _ (u32l W 64) _ Tryd.underlying100 rfl (by rw [u32l_len]; kernel_rfl) (by rw [u32l_len]; rfl) (u32l_one W 64) rfl rfl hM.out ?_; intro W2 hMW hbW; have hBW := bl_then hB hbW; clear hM hF hB; have hM := Lib.hid hMW; have hB := hBW; clear hMW hbW hBW))
  obtain ⟨gw, hgw⟩ : ∃ g, w1.heap.size = g := ⟨_, rfl⟩
  rw [hgw] at hM
  simp only [hgw]
  clear hgw
  have hS8 : Hid (Mem W2 [(w.heap.size, [.int .u32 a0, .int .u32 b0, .int .u32 c0, .int .u32 d0, .int .u32 e0, .int .u32 f0, .int .u32 g0, .int .u32 h0])]) := ⟨hM.out.2.2.1, trivial⟩
  refine wp_plan (fun x => Mem x [(w.heap.size, [.int .u32 a0, .int .u32 b0, .int .u32 c0, .int .u32 d0, .int .u32 e0, .int .u32 f0, .int .u32 g0, .int .u32 h0])]) [] [0, 1, 2, 3, 4, 5, 6, 7, 8, 9, 10, 11] (by kernel_rfl) (by kernel_rfl) (Mem.drew hS8.out) (fun hHeld => ?_)
  iterate 12 (refine wpT_take rfl (by rfl) (by rfl) (by intro w' hSw; (try dsimp only [Mem, cellsAt] at hSw); go_simp; (try with_reducible rfl)) (by assumption) ?_; (try simp only [Act.put, List.setIfInBounds_toArray, List.set_cons_zero, List.set_cons_succ]))
  (refine wpT_nil ?_)
  go_wp2
  refine wp_plan (fun x => Mem x [(w.heap.size, [.int .u32 a0, .int .u32 b0, .int .u32 c0, .int .u32 d0, .int .u32 e0, .int .u32 f0, .int .u32 g0, .int .u32 h0])]) [] [0, 1, 2, 3, 4, 5, 6, 7, 8, 9, 10, 11] (by kernel_rfl) (by kernel_rfl) (Mem.drew (Mem.drew hS8.out)) (fun hHeld => ?_)
  iterate 12 (refine wpT_take rfl (by rfl) (by rfl) (by intro w' hSw; (try dsimp only [Mem, cellsAt] at hSw); go_simp; (try with_reducible rfl)) (by assumption) ?_; (try simp only [Act.put, List.setIfInBounds_toArray, List.set_cons_zero, List.set_cons_succ]))
  (refine wpT_nil ?_)
  go_wp2
  go_loopw [6, 7, 8, 9, 10, 11, 12, 13, 43] (fun a b c d e f g h i wr => BlkRel w ⟨a0, b0, c0, d0, e0, f0, g0, h0⟩ W gw a b c d e f g h i wr) (fun _ _ _ _ _ _ _ _ i _ => 64 - (intOf i).toNat)
  case atStart =>
    refine ⟨0, ⟨a0, b0, c0, d0, e0, f0, g0, h0⟩, Nat.zero_le _, rfl, rfl, rfl, rfl, rfl, rfl, rfl, rfl, rfl, rfl, by (repeat (first | exact hB | refine bl_al ?_ _ | refine Below.setCell ?_ (by first | exact hgs | exact Nat.le_succ_of_le hgs | exact hgs2 | exact hgs3) _ | refine Below.drew ?_ | refine bl_drewN ?_ _)), ?_⟩
    exact Mem.drew (Mem.drew hM.out)
  case round =>
    clear hM hS8 hB
    obtain ⟨j, t, hj, ht, rfl, rfl, rfl, rfl, rfl, rfl, rfl, rfl, rfl, hB, hm⟩ := hrel
    have HM3 := Lib.hid hm
    by_cases hlt : j < 64
    · obtain ⟨x, hx⟩ : ∃ x, W j = x := ⟨_, rfl⟩
      obtain ⟨κ, hκ⟩ : ∃ k, kF j = k := ⟨_, rfl⟩
      have hst : rnds W ⟨a0, b0, c0, d0, e0, f0, g0, h0⟩ (j + 1) = rnd κ x t := by
        rw [← hx, ← hκ, ht]
        rfl
      have cx := cellsAt_get hm.1.2.2 (u32l_get W 64 j hlt)
      rw [hx] at cx
      have ck := (HT.out.later hB).1.2 j hlt
      rw [hκ] at ck
      have hj64 : (j : Int) < 64 := by omega
      have hsg : IntKind.u32.signed = false := rfl
      have HC := Lib.hid (And.intro ck cx)
      have HS := Lib.hid hst
      obtain ⟨a, b, c, d, e, f', g, h⟩ := t
      dsimp only
      clear hm hst hx hκ cx ck ht
      go_wp2_with (go_at_call 52; first | ((with_reducible refine (turned_lit _ 6 6 rfl (by decide) _).mono ?_); rintro e w1 ⟨rfl, rfl⟩) | ((with_reducible refine (turned_lit _ 11 11 rfl (by decide) _).mono ?_); rintro e w1 ⟨rfl, rfl⟩) | ((with_reducible refine (turned_lit _ 25 25 rfl (by decide) _).mono ?_); rintro e w1 ⟨rfl, rfl⟩))
      refine wp_plan (fun q => q.cell? ⟨0, j, none⟩ = some (.int .u32 κ) ∧ q.cell? ⟨gw, j, none⟩ = some (.int .u32 x)) [] [0, 1, 2, 3, 4, 5, 6, 7, 8, 9, 10, 11, 12, 13] (by kernel_rfl) (by kernel_rfl) HC.out (fun hHeld => ?_)
      iterate 14 (refine wpT_take rfl (by rfl) (by rfl) (by intro w' hSw; (try dsimp only [Mem, cellsAt] at hSw); go_simp; (try with_reducible rfl)) (by assumption) ?_; (try simp only [Act.put, List.setIfInBounds_toArray, List.set_cons_zero, List.set_cons_succ]))
      (refine wpT_nil ?_)
      go_wp2_with (go_at_call 52; first | ((with_reducible refine (turned_lit _ 2 2 rfl (by decide) _).mono ?_); rintro e w1 ⟨rfl, rfl⟩) | ((with_reducible refine (turned_lit _ 13 13 rfl (by decide) _).mono ?_); rintro e w1 ⟨rfl, rfl⟩) | ((with_reducible refine (turned_lit _ 22 22 rfl (by decide) _).mono ?_); rintro e w1 ⟨rfl, rfl⟩))
      refine ⟨⟨j + 1, _, by omega, HS.out.symm, rfl, rfl, rfl, rfl, rfl, rfl, rfl, rfl, by go_num, by (repeat (first | exact hB | refine bl_al ?_ _ | refine Below.setCell ?_ (by first | exact hgs | exact Nat.le_succ_of_le hgs | exact hgs2 | exact hgs3) _ | refine Below.drew ?_ | refine bl_drewN ?_ _)), Mem.drew HM3.out⟩, by simp [intOf]; omega⟩
    · have hje : j = 64 := by omega
      subst hje
      have h64 : ¬ ((64 : Nat) : Int) < 64 := by omega
      rw [HE.out.symm] at ht
      obtain ⟨a, b, c, d, e, f', g, h⟩ := t
      have HTt := Lib.hid ht
      clear ht
      have hF : Mem wr [(w.heap.size + 1, [.int .u32 0, .int .u32 0, .int .u32 0, .int .u32 0, .int .u32 0, .int .u32 0, .int .u32 0, .int .u32 0]), (w.heap.size, [.int .u32 a0, .int .u32 b0, .int .u32 c0, .int .u32 d0, .int .u32 e0, .int .u32 f0, .int .u32 g0, .int .u32 h0])] := hm.2
      simp only [Mem, cellsAt, Nat.zero_add, Nat.reduceAdd, and_true] at hF
      have HMe : Hid (Mem wr [(w.heap.size + 1, [.int .u32 0, .int .u32 0, .int .u32 0, .int .u32 0, .int .u32 0, .int .u32 0, .int .u32 0, .int .u32 0]), (w.heap.size, [.int .u32 a0, .int .u32 b0, .int .u32 c0, .int .u32 d0, .int .u32 e0, .int .u32 f0, .int .u32 g0, .int .u32 h0])]) := hm.2
      have hgs : w.heap.size ≤ w.heap.size + 1 := Nat.le_succ _
      dsimp only
      obtain ⟨za, hza⟩ : ∃ z, IntKind.u32.wrap (a0 + a) = z := ⟨_, rfl⟩
      obtain ⟨zb, hzb⟩ : ∃ z, IntKind.u32.wrap (b0 + b) = z := ⟨_, rfl⟩
      obtain ⟨zc, hzc⟩ : ∃ z, IntKind.u32.wrap (c0 + c) = z := ⟨_, rfl⟩
      obtain ⟨zd, hzd⟩ : ∃ z, IntKind.u32.wrap (d0 + d) = z := ⟨_, rfl⟩
      obtain ⟨ze, hze⟩ : ∃ z, IntKind.u32.wrap (e0 + e) = z := ⟨_, rfl⟩
      obtain ⟨zf, hzf⟩ : ∃ z, IntKind.u32.wrap (f0 + f') = z := ⟨_, rfl⟩
      obtain ⟨zg, hzg⟩ : ∃ z, IntKind.u32.wrap (g0 + g) = z := ⟨_, rfl⟩
      obtain ⟨zh, hzh⟩ : ∃ z, IntKind.u32.wrap (h0 + h) = z := ⟨_, rfl⟩
      have HZ := Lib.hid (And.intro hza (And.intro hzb (And.intro hzc (And.intro hzd (And.intro hze (And.intro hzf (And.intro hzg (hzh))))))))
      clear hm HM3 HW HT
      go_wp2
      have hR := Mem.set8 za zb zc zd ze zf zg zh (by intro p hp; simp at hp; subst hp; simp) HMe.out
      have hBl := bl_set8 za zb zc zd ze zf zg zh hgs hB
      have hRr := rangeAt_of hR.1.2.2
      clear hF hR
      change bodyPost _ _ _ _ _ (wset8 wr (w.heap.size + 1) za zb zc zd ze zf zg zh)
      generalize wset8 wr (w.heap.size + 1) za zb zc zd ze zf zg zh = wf at *
      have hl := Go.run_loadVar_mid (P := Tryd.prog) wf (w.heap.size + 1) 0 84 [.int .u32 za, .int .u32 zb, .int .u32 zc, .int .u32 zd, .int .u32 ze, .int .u32 zf, .int .u32 zg, .int .u32 zh] _ hRr Tryd.underlying84 rfl (by kernel_rfl)
      refine bodyPost_ret (v := .agg #[.int .u32 za, .int .u32 zb, .int .u32 zc, .int .u32 zd, .int .u32 ze, .int .u32 zf, .int .u32 zg, .int .u32 zh]) (by simp [results, Tryd.results46, asAddr, hl, Act.put]) rfl ?_
      refine ⟨?_, hBl⟩
      have hb : blk ⟨a0, b0, c0, d0, e0, f0, g0, h0⟩ f = ⟨add32 a0 a, add32 b0 b, add32 c0 c, add32 d0 d, add32 e0 e, add32 f0 f', add32 g0 g, add32 h0 h⟩ := by
        unfold blk
        dsimp only
        rw [← HTt.out]
      rw [hb]
      obtain ⟨ka, kb, kc, kd, ke, kf, kg, kh⟩ := HZ.out
      simp only [add32, ka, kb, kc, kd, ke, kf, kg, kh]
end Go.Proofs.YtfbhpkhpkaeagaaDoor

/- SHA-256: Pad. (hM) -/
namespace Go.Proofs.YtfbhpkhpkaeagaaDoor
set_option linter.unusedVariables false
set_option linter.unusedSimpArgs false
open Go.RowKit

/-- make([]byte, n) of an unsigned n -/
theorem wpList_makeBu {P : Program} {T E : TypeId} (he : Elt P T E (.int .u8 0) 1 1) (w : World) {ops : Array Oper} {rest : List Oper} {o : Oper} {a : Act} {Q : Exit → Act → World → Prop} (hgd : o.guard = none) (l : Operand) (hop : o.op = Op.makeSlice T l l)
    (n : Nat) (hl : a.eval l = .int .u64 (n : Int)) (hn : n ≤ 281474976710656)
    (h : ∀ w', Own w' w.heap.size E w.heap.size n n (fun _ => 0) → w.grownBy w' none → wpList P ops Q rest (a.put o.dst (.slice (some ⟨w.heap.size, 0, none⟩) n n)) w') : wpList P ops Q (o :: rest) a w := by
  obtain ⟨i, hi, hz0, hz1, hz2⟩ := info_parts he.hi
  exact wpList_make_full w hgd l l T hop w.heap.size E i (.int .u8 0) 1 he.ht hi hz0 hz1 .u64 .u64 n n n hl hl rfl rfl (by rw [hz2]; omega) (by unfold maxLen; omega) (Nat.le_refl _) fun w' h1 h2 => h w' (own_made h1) h2

/-- i bytes of the length laid -/
def padP (D : Int) (k i j : Nat) : Int := if j = 0 then 128 else if k - i ≤ j then IntKind.u8.wrap (D / 2 ^ (8 * (k - 1 - j))) else 0
def PadRel (w : World) (D : Int) (k : Nat) (i : Value) (wr : World) : Prop :=
  ∃ j : Nat, j ≤ 8 ∧ i = .int .i64 j ∧ Own wr w.heap.size 5 w.heap.size k k (padP D k j) ∧ Below w.heap.size w wr
theorem padP_set (D : Int) (k i : Nat) (hk : 9 ≤ k) (hi : i < 8) : ∀ j, j < k → setF (padP D k i) (k - 1 - i) (IntKind.u8.wrap (D / 2 ^ (8 * i))) j = padP D k (i + 1) j := by
  intro j hj
  unfold setF padP
  by_cases h : j = k - 1 - i
  · rw [if_pos h, if_neg (by omega), if_pos (by omega)]
    rw [show k - 1 - j = i by omega]
  · rw [if_neg h]
    by_cases h0 : j = 0
    · rw [if_pos h0, if_pos h0]
    · rw [if_neg h0, if_neg h0]
      by_cases h1 : k - i ≤ j
      · rw [if_pos h1, if_pos (by omega)]
      · rw [if_neg h1, if_neg (by omega)]

set_option maxRecDepth 100000 in
set_option maxHeartbeats 4000000 in
theorem pad_any (n : Nat) (hn : n < 18446744073709551616) (w : World) :
    Calls Tryd.prog 44 #[.int .u64 n] w fun e w' => e = .returned (.slice (some ⟨w.heap.size, 0, none⟩) (padN n) (padN n)) ∧ Own w' w.heap.size 5 w.heap.size (padN n) (padN n) (padF n (padN n)) ∧ Below w.heap.size w w' := by
  obtain ⟨r, hr⟩ : ∃ r, n % 64 = r := ⟨_, rfl⟩
  obtain ⟨z, hz⟩ : ∃ z, (119 - r) % 64 = z := ⟨_, rfl⟩
  obtain ⟨k, hk⟩ : ∃ k, padN n = k := ⟨_, rfl⟩
  have hkz : k = 9 + z := by rw [← hk, padN, hr, hz]
  have hk9 : 9 ≤ k ∧ k ≤ 72 := by omega
  obtain ⟨D, hD⟩ : ∃ D, IntKind.u64.wrap ((n : Int) * 8) = D := ⟨_, rfl⟩
  have hpf : ∀ j, j < k → padP D k 8 j = padF n k j := fun j hj => by unfold padP padF; rw [hD]
  rw [hk]
  have f1 : (n : Int) % 64 = (r : Int) := by omega
  have f1' : (n : Int).tmod 64 = (r : Int) := by rw [Int.tmod_eq_emod_of_nonneg (by omega)]; exact f1
  have f2 : IntKind.u64.wrap (119 - (r : Int)) = 119 - (r : Int) := by rw [IntKind.wrap_u64]; omega
  have f3 : (119 - (r : Int)) % 64 = (z : Int) := by omega
  have f3' : (119 - (r : Int)).tmod 64 = (z : Int) := by rw [Int.tmod_eq_emod_of_nonneg (by omega)]; exact f3
  have f4 : IntKind.u64.wrap (1 + (z : Int)) = 1 + (z : Int) := by rw [IntKind.wrap_u64]; omega
  have f5 : IntKind.u64.wrap (1 + (z : Int) + 8) = (k : Int) := by rw [IntKind.wrap_u64]; omega
  have HP := Lib.hid (And.intro hk9 hpf)
  have hk0 : 0 < k := by omega
  have hn0 : (0 : Int) ≤ (n : Int) := by omega
  clear hr hz hkz hk hpf hn hk9
  go_enter Tryd.func44, Tryd.ntmps44
  go_wp2_with (refine wpList_makeBu eltU8 _ rfl (.tmp 13) rfl k rfl (by have := HP.out.1; omega) ?_; intro w2 hown2 hgrow2; have hc0 := hown2.cell 0 (by have := HP.out.1; omega); have hz0 := hown2.frozen 0)
  have HO := Lib.hid (hown2.set 0 128)
  have hB : Below w.heap.size w (w2.setCell ⟨w.heap.size, 0, none⟩ (.int .u8 128)) := ((Below.refl _ _).grown hgrow2 (Nat.le_refl _) (fun _ h => by cases h)).setCell (Nat.le_refl _) _
  clear hown2 hgrow2 hc0 hz0
  go_loopw [19] (fun i wr => PadRel w D k i wr) (fun i _ => 8 - (intOf i).toNat)
  case atStart =>
    refine ⟨0, Nat.zero_le _, rfl, HO.out.congr fun j hj => ?_, hB⟩
    unfold setF padP
    by_cases h : j = 0
    · rw [if_pos h, if_pos h]
    · rw [if_neg h, if_neg h, if_neg (by omega)]
  case round =>
    obtain ⟨j, hj, rfl, hown, hB⟩ := hrel
    clear HO
    by_cases hlt : j < 8
    · have hk9 := HP.out.1
      obtain ⟨s, hs⟩ : ∃ s, 8 * j = s := ⟨_, rfl⟩
      obtain ⟨t, ht⟩ : ∃ t, k - 1 - j = t := ⟨_, rfl⟩
      have hst := padP_set D k j hk9.1 hlt
      rw [ht, hs] at hst
      have hc := hown.cell t (by omega)
      have hz := hown.frozen t
      have g1 : IntKind.i64.wrap ((k : Int) - 1) = (k : Int) - 1 := by rw [IntKind.wrap_i64]; omega
      have g2 : (k : Int) - 1 - (j : Int) = (t : Int) := by omega
      have g2' : IntKind.i64.wrap (t : Int) = (t : Int) := by rw [IntKind.wrap_i64]; omega
      have g3 : IntKind.i64.wrap (8 * (j : Int)) = (s : Int) := by rw [IntKind.wrap_i64]; omega
      have hs64 : (s : Int) ≤ 64 := by omega
      have htk : (t : Int) < (k : Int) := by omega
      have HO := Lib.hid hown
      have HS := Lib.hid hst
      clear hs ht hst hown hk9 f1 f1' f2 f3 f3' f4 f5
      have hj8 : (j : Int) < 8 := by omega
      go_wp2
      refine ⟨⟨j + 1, by omega, by go_num, ((HO.out.set t _).congr HS.out), hB.setCell (Nat.le_refl _) _⟩, by simp [intOf]; omega⟩
    · have hje : j = 8 := by omega
      subst hje
      have h8 : ¬ ((8 : Nat) : Int) < 8 := by omega
      have HO := Lib.hid (hown.congr HP.out.2)
      clear hown
      go_wp2
      go_ret
      exact ⟨rfl, HO.out, hB⟩
end Go.Proofs.YtfbhpkhpkaeagaaDoor
