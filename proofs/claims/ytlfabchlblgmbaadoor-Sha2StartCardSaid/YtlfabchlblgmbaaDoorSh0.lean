/- SHA-256, the plain functions. -/
import Derived.Test.YtlfabchlblgmbaaDoorCat
namespace Go.Proofs.YtlfabchlblgmbaaDoor
set_option linter.unusedVariables false
set_option linter.unusedSimpArgs false
open Go.RowKit

/-- words as cells -/
def u32l (f : Nat → Int) (n : Nat) : List Value := (List.range n).map fun i => .int .u32 (f i)
theorem u32l_len (f : Nat → Int) (n : Nat) : (u32l f n).length = n := by simp [u32l]
theorem u32l_get (f : Nat → Int) (n i : Nat) (h : i < n) : (u32l f n)[i]? = some (.int .u32 (f i)) := by simp [u32l, h]
theorem u32l_one (f : Nat → Int) (n : Nat) : ∀ u ∈ u32l f n, u.oneCell' = true := by
  intro u hu
  simp only [u32l, List.mem_map] at hu
  obtain ⟨x, _, rfl⟩ := hu
  rfl
theorem u32l_congr {f g : Nat → Int} {n : Nat} (h : ∀ i, i < n → f i = g i) : u32l f n = u32l g n := by
  unfold u32l
  refine List.map_congr_left fun i hi => ?_
  rw [h i (List.mem_range.1 hi)]
theorem u32l_set (f : Nat → Int) (n q : Nat) (v : Int) : (u32l f n).set q (.int .u32 v) = u32l (setF f q v) n := by
  apply List.ext_getElem
  · simp [u32l]
  · intro i h1 h2
    simp only [u32l, List.length_set, List.length_map, List.length_range] at h1
    rw [List.getElem_set]
    simp only [u32l, List.getElem_map, List.getElem_range, setF]
    by_cases h : q = i
    · rw [if_pos h, if_pos h.symm]
    · rw [if_neg h, if_neg (fun e => h e.symm)]

/-- eight words written one by one -/
def wset8 (w : World) (b : Nat) (x0 x1 x2 x3 x4 x5 x6 x7 : Int) : World := ((((((((w.setCell ⟨b, 0, none⟩ (.int .u32 x0)).setCell ⟨b, 1, none⟩ (.int .u32 x1)).setCell ⟨b, 2, none⟩ (.int .u32 x2)).setCell ⟨b, 3, none⟩ (.int .u32 x3)).setCell ⟨b, 4, none⟩ (.int .u32 x4)).setCell ⟨b, 5, none⟩ (.int .u32 x5)).setCell ⟨b, 6, none⟩ (.int .u32 x6)).setCell ⟨b, 7, none⟩ (.int .u32 x7))
theorem Mem.set8 {w : World} {b : Nat} {y0 y1 y2 y3 y4 y5 y6 y7 : Value} (x0 x1 x2 x3 x4 x5 x6 x7 : Int) {l : List (Nat × List Value)} (hd : ∀ p ∈ l, p.1 ≠ b) (h : Mem w ((b, [y0, y1, y2, y3, y4, y5, y6, y7]) :: l)) :
    Mem (wset8 w b x0 x1 x2 x3 x4 x5 x6 x7) ((b, [.int .u32 x0, .int .u32 x1, .int .u32 x2, .int .u32 x3, .int .u32 x4, .int .u32 x5, .int .u32 x6, .int .u32 x7]) :: l) := ((((((((h.setN (k := 0) (v := .int .u32 x0) hd).setN (k := 1) (v := .int .u32 x1) hd).setN (k := 2) (v := .int .u32 x2) hd).setN (k := 3) (v := .int .u32 x3) hd).setN (k := 4) (v := .int .u32 x4) hd).setN (k := 5) (v := .int .u32 x5) hd).setN (k := 6) (v := .int .u32 x6) hd).setN (k := 7) (v := .int .u32 x7) hd)
theorem bl_set8 {a w : World} {b : Nat} (x0 x1 x2 x3 x4 x5 x6 x7 : Int) (hb : a.heap.size ≤ b) (h : Below a.heap.size a w) : Below a.heap.size a (wset8 w b x0 x1 x2 x3 x4 x5 x6 x7) :=
  ((((((((h.setCell (p := ⟨b, 0, none⟩) hb _).setCell (p := ⟨b, 1, none⟩) hb _).setCell (p := ⟨b, 2, none⟩) hb _).setCell (p := ⟨b, 3, none⟩) hb _).setCell (p := ⟨b, 4, none⟩) hb _).setCell (p := ⟨b, 5, none⟩) hb _).setCell (p := ⟨b, 6, none⟩) hb _).setCell (p := ⟨b, 7, none⟩) hb _)

def add32 (a b : Int) : Int := IntKind.u32.wrap (a + b)
/-- turned down by n -/
def rotR (x : Int) (n : Nat) : Int := bits .or .u32 (IntKind.u32.wrap (x * 2 ^ (32 - n))) (x / 2 ^ n)
def xor3 (a b c : Int) : Int := bits .xor .u32 (bits .xor .u32 a b) c
def sg0 (x : Int) : Int := xor3 (rotR x 7) (rotR x 18) (x / 2 ^ 3)
def sg1 (x : Int) : Int := xor3 (rotR x 17) (rotR x 19) (x / 2 ^ 10)
/-- four bytes as a word -/
def be4 (f : Nat → Int) (i : Nat) : Int := bits .or .u32 (bits .or .u32 (bits .or .u32 (IntKind.u32.wrap (f (4 * i) * 2 ^ 24)) (IntKind.u32.wrap (f (4 * i + 1) * 2 ^ 16))) (IntKind.u32.wrap (f (4 * i + 2) * 2 ^ 8))) (f (4 * i + 3))
/-- the first j words of a block -/
def wd0 (f : Nat → Int) (j k : Nat) : Int := if k < j then be4 f k else 0
/-- t words more -/
def wds (f : Nat → Int) : Nat → Nat → Int
  | 0 => wd0 f 16
  | t + 1 => setF (wds f t) (16 + t) (add32 (add32 (add32 (sg1 (wds f t (16 + t - 2))) (wds f t (16 + t - 7))) (sg0 (wds f t (16 + t - 15)))) (wds f t (16 + t - 16)))
structure S8 where
  a : Int
  b : Int
  c : Int
  d : Int
  e : Int
  f : Int
  g : Int
  h : Int
def rnd (k w : Int) (s : S8) : S8 :=
  let t1 := add32 (add32 (add32 (add32 s.h (xor3 (rotR s.e 6) (rotR s.e 11) (rotR s.e 25))) (bits .xor .u32 (bits .and .u32 s.e s.f) (bits .and .u32 (bits .xor .u32 IntKind.u32.max s.e) s.g))) k) w
  let t2 := add32 (xor3 (rotR s.a 2) (rotR s.a 13) (rotR s.a 22)) (xor3 (bits .and .u32 s.a s.b) (bits .and .u32 s.a s.c) (bits .and .u32 s.b s.c))
  ⟨add32 t1 t2, s.a, s.b, s.c, add32 s.d t1, s.e, s.f, s.g⟩
def KK : List Int := [0x428a2f98, 0x71374491, 0xb5c0fbcf, 0xe9b5dba5, 0x3956c25b, 0x59f111f1, 0x923f82a4, 0xab1c5ed5,
  0xd807aa98, 0x12835b01, 0x243185be, 0x550c7dc3, 0x72be5d74, 0x80deb1fe, 0x9bdc06a7, 0xc19bf174,
  0xe49b69c1, 0xefbe4786, 0x0fc19dc6, 0x240ca1cc, 0x2de92c6f, 0x4a7484aa, 0x5cb0a9dc, 0x76f988da,
  0x983e5152, 0xa831c66d, 0xb00327c8, 0xbf597fc7, 0xc6e00bf3, 0xd5a79147, 0x06ca6351, 0x14292967,
  0x27b70a85, 0x2e1b2138, 0x4d2c6dfc, 0x53380d13, 0x650a7354, 0x766a0abb, 0x81c2c92e, 0x92722c85,
  0xa2bfe8a1, 0xa81a664b, 0xc24b8b70, 0xc76c51a3, 0xd192e819, 0xd6990624, 0xf40e3585, 0x106aa070,
  0x19a4c116, 0x1e376c08, 0x2748774c, 0x34b0bcb5, 0x391c0cb3, 0x4ed8aa4a, 0x5b9cca4f, 0x682e6ff3,
  0x748f82ee, 0x78a5636f, 0x84c87814, 0x8cc70208, 0x90befffa, 0xa4506ceb, 0xbef9a3f7, 0xc67178f2]
def HH : List Int := [0x6a09e667, 0xbb67ae85, 0x3c6ef372, 0xa54ff53a, 0x510e527f, 0x9b05688c, 0x1f83d9ab, 0x5be0cd19]
def kF (i : Nat) : Int := KK.getD i 0
def hF0 (i : Nat) : Int := HH.getD i 0
def rnds (w : Nat → Int) (s : S8) : Nat → S8
  | 0 => s
  | i + 1 => rnd (kF i) (w i) (rnds w s i)
def S8.at (s : S8) (i : Nat) : Int := match i with | 0 => s.a | 1 => s.b | 2 => s.c | 3 => s.d | 4 => s.e | 5 => s.f | 6 => s.g | _ => s.h
def S8.l (s : S8) : List Value := [.int .u32 s.a, .int .u32 s.b, .int .u32 s.c, .int .u32 s.d, .int .u32 s.e, .int .u32 s.f, .int .u32 s.g, .int .u32 s.h]
/-- a block summed -/
def blk (s : S8) (f : Nat → Int) : S8 :=
  let t := rnds (wds f 48) s 64
  ⟨add32 s.a t.a, add32 s.b t.b, add32 s.c t.c, add32 s.d t.d, add32 s.e t.e, add32 s.f t.f, add32 s.g t.g, add32 s.h t.h⟩
def s0H : S8 := ⟨0x6a09e667, 0xbb67ae85, 0x3c6ef372, 0xa54ff53a, 0x510e527f, 0x9b05688c, 0x1f83d9ab, 0x5be0cd19⟩
/-- k blocks of f, from the o-th byte on -/
def blks (s : S8) (f : Nat → Int) : Nat → S8
  | 0 => s
  | k + 1 => blk (blks s f k) (fun i => f (64 * k + i))
/-- the bytes that stand behind n, the j-th -/
def padF (n : Int) (k j : Nat) : Int := if j = 0 then 128 else if k - 8 ≤ j then IntKind.u8.wrap (IntKind.u64.wrap (n * 8) / 2 ^ (8 * (k - 1 - j))) else 0
/-- a state's words as bytes -/
def outF (s : S8) (j : Nat) : Int := IntKind.u8.wrap (s.at (j / 4) / 2 ^ (24 - 8 * (j % 4)))
/-- how many bytes are put behind n -/
def padN (n : Nat) : Nat := 9 + (119 - n % 64) % 64
/-- the sum of n bytes -/
def shaF (f : Nat → Int) (n : Nat) : Nat → Int := outF (blks s0H (catF f n (padF n (padN n))) ((n + padN n) / 64))
end Go.Proofs.YtlfabchlblgmbaaDoor
