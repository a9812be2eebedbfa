/- Package u256: Bytes. (hM) -/
import Derived.Test.YtlfabchlblgmbaaMm
namespace Go.Proofs.Ytlfabchlblgmbaa
set_option linter.unusedVariables false
set_option linter.unusedSimpArgs false
open Go.RowKit

/-- a number's byte -/
def byteN (N : Int) (i : Nat) : Int := N / 256 ^ i % 256
/-- bytes as cells -/
def b8l (f : Nat → Int) (n : Nat) : List Value := (List.range n).map fun i => .int .u8 (f i)
theorem b8l_len (f : Nat → Int) (n : Nat) : (b8l f n).length = n := by simp [b8l]
theorem b8l_get (f : Nat → Int) (n i : Nat) (h : i < n) : (b8l f n)[i]? = some (.int .u8 (f i)) := by simp [b8l, h]
theorem b8l_one (f : Nat → Int) (n : Nat) : ∀ u ∈ b8l f n, u.oneCell' = true := by
  intro u hu
  simp only [b8l, List.mem_map] at hu
  obtain ⟨x, _, rfl⟩ := hu
  rfl
theorem b8l_congr {f g : Nat → Int} {n : Nat} (h : ∀ i, i < n → f i = g i) : b8l f n = b8l g n := by
  unfold b8l
  refine List.map_congr_left fun i hi => ?_
  rw [h i (List.mem_range.1 hi)]
theorem b8l_set (f : Nat → Int) (n j : Nat) (v : Int) : (b8l f n).set j (.int .u8 v) = b8l (setF f j v) n := bcells_set f n j v
/-- 32 bytes as a value -/
abbrev arr32 (f : Nat → Int) : Value := .agg (b8l f 32).toArray
theorem byte_of {a0 a1 a2 a3 : Int} (ha : B4 a0 a1 a2 a3) (j : Nat) (hj : j < 32) : IntKind.u8.wrap (limbN a0 a1 a2 a3 (j / 8) / 2 ^ (j % 8 * 8)) = byteN (N4 a0 a1 a2 a3) j := by
  obtain ⟨rest, hrest, he⟩ := limb_split ha (j / 8) (by omega)
  obtain ⟨q, hq⟩ : ∃ q, j / 8 = q := ⟨_, rfl⟩
  obtain ⟨r, hr⟩ : ∃ r, j % 8 = r := ⟨_, rfl⟩
  have hr8 : r < 8 := by omega
  have hjr : j = 8 * q + r := by omega
  rw [hq, hr]
  rw [hq] at he
  unfold byteN
  have e1 : (256 : Int) ^ j = 2 ^ (64 * q) * 2 ^ (r * 8) := by
    rw [show (256 : Int) = 2 ^ 8 by decide, ← Int.pow_mul, ← Int.pow_add]
    congr 1
    omega
  have hp := two_pow_pos (r * 8)
  rw [e1, ← Int.ediv_ediv_of_nonneg (Int.le_of_lt (two_pow_pos _)), he]
  obtain ⟨m, hm⟩ : ∃ m, 8 = r + 1 + m := ⟨7 - r, by omega⟩
  have e2 : WI * rest = 2 ^ (r * 8) * (256 * (2 ^ (m * 8) * rest)) := by
    rw [WI_eq, show (18446744073709551616 : Int) = 2 ^ (r * 8) * (256 * 2 ^ (m * 8)) by
      rw [show (256 : Int) = 2 ^ 8 by decide, ← Int.pow_add, ← Int.pow_add]
      rw [show r * 8 + (8 + m * 8) = 64 by omega]
      decide]
    simp only [Int.mul_assoc]
  rw [e2, Int.add_mul_ediv_left _ _ (Int.ne_of_gt hp)]
  show (limbN a0 a1 a2 a3 q / 2 ^ (r * 8)) % 256 = _
  omega

theorem bl_setCells {a : World} {b : Nat} (hb : a.heap.size ≤ b) : ∀ (vs : List Value) (o : Nat) (w : World), Below a.heap.size a w → Below a.heap.size a (w.setCells b o vs)
  | [], _, _, h => h
  | v :: r, o, w, h => by
    rw [World.setCells]
    exact bl_setCells hb r (o + 1) _ (h.setCell (p := ⟨b, o, none⟩) hb _)
/-- the relation of Bytes' loop -/
def ByteRel (w : World) (a0 a1 a2 a3 : Int) (i : Value) (wr : World) : Prop :=
  ∃ (j : Nat) (f : Nat → Int), j ≤ 32 ∧ i = .int .i64 j ∧ (∀ k, k < j → f (31 - k) = byteN (N4 a0 a1 a2 a3) k) ∧ Below w.heap.size w wr ∧
    Mem wr [(w.heap.size + 1 + 1, b8l f 32), (w.heap.size + 1, b8l (fun _ => 0) 32), (w.heap.size, [.int .u64 a0, .int .u64 a1, .int .u64 a2, .int .u64 a3])]

set_option maxRecDepth 100000 in
set_option maxHeartbeats 1000000 in
theorem bytes_any {a0 a1 a2 a3 : Int} (ha : B4 a0 a1 a2 a3) (w : World) :
    Calls Try.prog 34 #[U4 a0 a1 a2 a3] w fun e w' => e = .returned (arr32 fun k => byteN (N4 a0 a1 a2 a3) (31 - k)) ∧ Below w.heap.size w w' := by
  have HA := Lib.hid ha
  clear ha
  obtain ⟨g, hg⟩ : ∃ g : Nat → Int, g = fun k => byteN (N4 a0 a1 a2 a3) (31 - k) := ⟨_, rfl⟩
  rw [← hg]
  have HG := Lib.hid hg
  clear hg
  go_enter Try.func34, Try.ntmps34
  go_wp2
  go_loopw [5] (fun i wr => ByteRel w a0 a1 a2 a3 i wr) (fun i _ => 32 - (intOf i).toNat)
  case atStart =>
    refine ⟨0, fun _ => 0, by omega, rfl, fun k hk => by omega, by (repeat (first | exact Below.refl _ _ | refine Below.drew ?_ | refine bl_drewN ?_ _ | (refine Below.alloc ?_ (by first | exact Nat.le_refl _ | (simp; done) | (simp; omega)) _))), ?_⟩
    have h := Mem.al (Mem.al (Mem.al (mem_nil w) [.int .u64 a0, .int .u64 a1, .int .u64 a2, .int .u64 a3] 26) (b8l (fun _ => 0) 32) 61) (b8l (fun _ => 0) 32) 61
    simp only [World.size_alloc] at h
    exact h
  case round =>
    obtain ⟨j, f, hj, rfl, hf, hB, hm⟩ := hrel
    have HFn := Lib.hid hf
    have hMm := Lib.hid hm
    by_cases hlt : j < 32
    · have hq : (j : Int) / 8 = ((j / 8 : Nat) : Int) := by omega
      have hr : (j : Int) % 8 = ((j % 8 : Nat) : Int) := by omega
      have hq4 : j / 8 < 4 := by omega
      have hr4 : j % 8 < 8 := by omega
      have hbv := byte_of HA.out j hlt
      have hcq : wr.cell? ⟨w.heap.size, j / 8, none⟩ = some (.int .u64 (limbN a0 a1 a2 a3 (j / 8))) := by
        have hc := hm.2.2.1.2.2
        obtain ⟨c0, c1, c2, c3, _⟩ := hc
        have : j / 8 = 0 ∨ j / 8 = 1 ∨ j / 8 = 2 ∨ j / 8 = 3 := by omega
        rcases this with e | e | e | e <;> rw [e] <;> first | exact c0 | exact c1 | exact c2 | exact c3
      obtain ⟨t, ht⟩ : ∃ t, 31 - j = t := ⟨_, rfl⟩
      have ht32 : t < 32 := by omega
      have htj : (31 : Int) - (j : Int) = (t : Int) := by omega
      have hct : wr.cell? ⟨w.heap.size + 1 + 1, t, none⟩ = some (.int .u8 (f t)) := cellsAt_get hm.1.2.2 (b8l_get f 32 t ht32)
      have hfz := hm.1.2.1 t
      have hwt : IntKind.i64.wrap (t : Int) = (t : Int) := wrap_small _ (by omega) (by omega)
      clear hm hf
      have HT := Lib.hid ht
      clear ht
      generalize hqq : j / 8 = q at *
      generalize hrr : j % 8 = r at *
      clear hqq hrr
      go_wp2
      refine ⟨⟨j + 1, setF f t (byteN (N4 a0 a1 a2 a3) j), by omega, by go_num, fun k hk => ?_, hB.setCell (by show w.heap.size ≤ w.heap.size + 1 + 1; omega) _, ?_⟩, by simp [intOf]; omega⟩
      · have ht := HT.out
        by_cases hkj : k = j
        · subst hkj
          rw [setF, if_pos ht]
        · rw [setF, if_neg (by omega)]
          exact HFn.out k (by omega)
      · have h := Mem.setN (k := t) (v := .int .u8 (byteN (N4 a0 a1 a2 a3) j)) (by intro p hp; simp at hp; rcases hp with rfl | rfl <;> (simp; try omega)) hMm.out
        rw [b8l_set] at h
        exact h
    · have hj32 : j = 32 := by omega
      subst hj32
      have hfe : b8l f 32 = b8l g 32 := b8l_congr fun k hk => by
        have := hf (31 - k) (by omega)
        rw [HG.out]
        rwa [show 31 - (31 - k) = k by omega] at this
      rw [hfe] at hm
      clear hf HFn hMm hfe
      have HM3 := Lib.hid hm
      have hth : wr.there (w.heap.size + 1) 0 (b8l g 32).length := fun k hk => by
        rw [b8l_len] at hk
        rw [Nat.zero_add]
        exact ⟨by rw [cellsAt_get hm.2.1.2.2 (b8l_get (fun _ => 0) 32 k hk)]; rfl, hm.2.1.2.1 k⟩
      have HTh := Lib.hid hth
      clear hth hm
      go_wp2_with (first | (refine Go.wpList_load_mid rfl 61 (.tmp 3) rfl (w.heap.size + 1 + 1) 0 rfl (b8l g 32) _ (rangeAt_of HM3.out.1.2.2) Try.underlying61 rfl (by rw [b8l_len]; kernel_rfl) ?_) | (refine Go.wpList_store_mid rfl 61 (.tmp 2) (.tmp 21) rfl (w.heap.size + 1) 0 (b8l g 32).toArray rfl rfl (by simpa using HTh.out) (by simp only [List.size_toArray, b8l_len]; kernel_rfl) (Go.all_oneCell_toArray (b8l_one g 32)) ?_))
      have hl := Go.run_loadVar_mid (P := Try.prog) (wr.setCells (w.heap.size + 1) 0 (b8l g 32)) (w.heap.size + 1) 0 61 (b8l g 32) _ (World.rangeAt_setCells_same wr (w.heap.size + 1) 0 (b8l g 32) HTh.out) Try.underlying61 rfl (by rw [b8l_len]; kernel_rfl)
      refine bodyPost_ret (v := arr32 g) (by simp [results, Try.results34, asAddr, hl, arr32, Act.put]) rfl ⟨rfl, bl_setCells (Nat.le_succ _) _ _ _ hB⟩
end Go.Proofs.Ytlfabchlblgmbaa
