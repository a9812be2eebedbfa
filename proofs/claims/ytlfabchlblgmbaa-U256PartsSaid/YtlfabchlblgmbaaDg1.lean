/- florinref01: digits. (hM) -/
import Derived.Test.YtlfabchlblgmbaaBy1
namespace Go.Proofs.Ytlfabchlblgmbaa
set_option linter.unusedVariables false
set_option linter.unusedSimpArgs false
open Go.RowKit

/-- a number's digit of two -/
def digN (N : Int) (i : Nat) : Int := N / 2 ^ i % 2
/-- ints as cells -/
def il (f : Nat → Int) (n : Nat) : List Value := (List.range n).map fun i => .int .i64 (f i)
theorem il_len (f : Nat → Int) (n : Nat) : (il f n).length = n := by simp [il]
theorem il_get (f : Nat → Int) (n i : Nat) (h : i < n) : (il f n)[i]? = some (.int .i64 (f i)) := by simp [il, h]
theorem il_one (f : Nat → Int) (n : Nat) : ∀ u ∈ il f n, u.oneCell' = true := by
  intro u hu
  simp only [il, List.mem_map] at hu
  obtain ⟨x, _, rfl⟩ := hu
  rfl
theorem il_congr {f g : Nat → Int} {n : Nat} (h : ∀ i, i < n → f i = g i) : il f n = il g n := by
  unfold il
  refine List.map_congr_left fun i hi => ?_
  rw [h i (List.mem_range.1 hi)]
theorem il_set (f : Nat → Int) (n q : Nat) (v : Int) : (il f n).set q (.int .i64 v) = il (setF f q v) n := by
  apply List.ext_getElem
  · simp [il]
  · intro i h1 h2
    by_cases hq : i = q
    · subst hq; simp [il, setF]
    · have : ¬ q = i := fun h => hq h.symm
      simp [il, setF, List.getElem_set, this, hq]
/-- 256 digits as a value -/
abbrev arrD (f : Nat → Int) : Value := .agg (il f 256).toArray
theorem u64_and1 (x : Int) (h : 0 ≤ x ∧ x < WI) : bits .and .u64 x 1 = x % 2 := by
  obtain ⟨X, rfl⟩ := Int.eq_ofNat_of_zero_le h.1
  have e := u64_and_nat X 1 (by unfold WI at h; omega) (by decide)
  rw [Nat.and_one_is_mod] at e
  exact e
theorem dig_of {a0 a1 a2 a3 : Int} (ha : B4 a0 a1 a2 a3) (j : Nat) (hj : j < 256) : limbN a0 a1 a2 a3 (j / 64) / 2 ^ (j % 64) % 2 = digN (N4 a0 a1 a2 a3) j := by
  obtain ⟨rest, hrest, he⟩ := limb_split ha (j / 64) (by omega)
  obtain ⟨q, hq⟩ : ∃ q, j / 64 = q := ⟨_, rfl⟩
  obtain ⟨r, hr⟩ : ∃ r, j % 64 = r := ⟨_, rfl⟩
  have hr8 : r < 64 := by omega
  have hjr : j = 64 * q + r := by omega
  rw [hq, hr]
  rw [hq] at he
  unfold digN
  have hp := two_pow_pos r
  rw [hjr, Int.pow_add, ← Int.ediv_ediv_of_nonneg (Int.le_of_lt (two_pow_pos _)), he]
  obtain ⟨m, hm⟩ : ∃ m, 64 = r + 1 + m := ⟨63 - r, by omega⟩
  have e2 : WI * rest = 2 ^ r * (2 * (2 ^ m * rest)) := by
    rw [WI_eq, show (18446744073709551616 : Int) = 2 ^ r * (2 * 2 ^ m) by
      rw [show (2 : Int) * 2 ^ m = 2 ^ (m + 1) by rw [Int.pow_succ, Int.mul_comm], ← Int.pow_add]
      rw [show r + (m + 1) = 64 by omega]
      decide]
    simp only [Int.mul_assoc]
  rw [e2, Int.add_mul_ediv_left _ _ (Int.ne_of_gt hp)]
  omega

/-- no digit set, as a great zero value -/
def zDA : Array Value := (il (fun _ => 0) 256).toArray
theorem zeroD (w : World) : (zeroValue 77).run Try.prog w = .ok (.agg zDA) w := by kernel_rfl
/-- the relation of the loop -/
def DigRel (w : World) (a0 a1 a2 a3 : Int) (i : Value) (wr : World) : Prop :=
  ∃ (j : Nat) (f : Nat → Int), j ≤ 256 ∧ i = .int .i64 j ∧ (∀ k, k < j → f k = digN (N4 a0 a1 a2 a3) k) ∧ Below w.heap.size w wr ∧
    Mem wr [(w.heap.size + 1 + 1, il f 256), (w.heap.size + 1, il (fun _ => 0) 256), (w.heap.size, [.int .u64 a0, .int .u64 a1, .int .u64 a2, .int .u64 a3])]

set_option maxRecDepth 100000 in
set_option maxHeartbeats 1000000 in
theorem digits_any {a0 a1 a2 a3 : Int} (ha : B4 a0 a1 a2 a3) (w : World) :
    Calls Try.prog 45 #[U4 a0 a1 a2 a3] w fun e w' => e = .returned (arrD (digN (N4 a0 a1 a2 a3))) ∧ Below w.heap.size w w' := by
  have HA := Lib.hid ha
  clear ha
  obtain ⟨g, hg⟩ : ∃ g : Nat → Int, g = digN (N4 a0 a1 a2 a3) := ⟨_, rfl⟩
  rw [← hg]
  have HG := Lib.hid hg
  clear hg
  have hZD := zeroD
  go_enter Try.func45, Try.ntmps45
  go_wp2
  go_loopw [4] (fun i wr => DigRel w a0 a1 a2 a3 i wr) (fun i _ => 256 - (intOf i).toNat)
  case atStart =>
    refine ⟨0, fun _ => 0, by omega, rfl, fun k hk => by omega, by (repeat (first | exact Below.refl _ _ | refine Below.drew ?_ | refine bl_drewN ?_ _ | (refine Below.alloc ?_ (by first | exact Nat.le_refl _ | (simp; done) | (simp; omega)) _))), ?_⟩
    have h := Mem.al (Mem.al (Mem.al (mem_nil w) [.int .u64 a0, .int .u64 a1, .int .u64 a2, .int .u64 a3] 24) (il (fun _ => 0) 256) 77) (il (fun _ => 0) 256) 77
    simp only [World.size_alloc] at h
    exact h
  case round =>
    obtain ⟨j, f, hj, rfl, hf, hB, hm⟩ := hrel
    have HFn := Lib.hid hf
    have hMm := Lib.hid hm
    by_cases hlt : j < 256
    · have hq : (j : Int) / 64 = ((j / 64 : Nat) : Int) := by omega
      have hr : (j : Int) % 64 = ((j % 64 : Nat) : Int) := by omega
      have htm : (j : Int).tmod 64 = ((j % 64 : Nat) : Int) := by rw [Int.tmod_eq_emod_of_nonneg (by omega)]; omega
      have htd : (j : Int).tdiv 64 = ((j / 64 : Nat) : Int) := by rw [Int.tdiv_eq_ediv_of_nonneg (by omega)]; omega
      have hq4 : j / 64 < 4 := by omega
      have hr4 : j % 64 < 64 := by omega
      have hdv := dig_of HA.out j hlt
      have hlb : 0 ≤ limbN a0 a1 a2 a3 (j / 64) ∧ limbN a0 a1 a2 a3 (j / 64) < WI := by
        have : j / 64 = 0 ∨ j / 64 = 1 ∨ j / 64 = 2 ∨ j / 64 = 3 := by omega
        rcases this with e | e | e | e <;> rw [e] <;> first | exact HA.out.h0 | exact HA.out.h1 | exact HA.out.h2 | exact HA.out.h3
      have hand := u64_and1 (limbN a0 a1 a2 a3 (j / 64) / 2 ^ (j % 64)) ⟨Int.ediv_nonneg hlb.1 (Int.le_of_lt (two_pow_pos _)), Int.lt_of_le_of_lt (Int.ediv_le_self _ hlb.1) hlb.2⟩
      rw [hdv] at hand
      have hdb : 0 ≤ digN (N4 a0 a1 a2 a3) j ∧ digN (N4 a0 a1 a2 a3) j < 2 := ⟨Int.emod_nonneg _ (by decide), Int.emod_lt_of_pos _ (by decide)⟩
      have hwd : IntKind.i64.wrap (digN (N4 a0 a1 a2 a3) j) = digN (N4 a0 a1 a2 a3) j := by rw [IntKind.wrap_i64]; omega
      have hcq : wr.cell? ⟨w.heap.size, j / 64, none⟩ = some (.int .u64 (limbN a0 a1 a2 a3 (j / 64))) := by
        have hc := hm.2.2.1.2.2
        obtain ⟨c0, c1, c2, c3, _⟩ := hc
        have : j / 64 = 0 ∨ j / 64 = 1 ∨ j / 64 = 2 ∨ j / 64 = 3 := by omega
        rcases this with e | e | e | e <;> rw [e] <;> first | exact c0 | exact c1 | exact c2 | exact c3
      have hct : wr.cell? ⟨w.heap.size + 1 + 1, j, none⟩ = some (.int .i64 (f j)) := cellsAt_get hm.1.2.2 (il_get f 256 j hlt)
      have hfz := hm.1.2.1 j
      clear hm hf hdv hlb hdb
      obtain ⟨dj, hdj⟩ : ∃ z, digN (N4 a0 a1 a2 a3) j = z := ⟨_, rfl⟩
      rw [hdj] at hand hwd
      have HDj := Lib.hid hdj
      clear hdj
      generalize hqq : j / 64 = q at *
      generalize hrr : j % 64 = r at *
      clear hqq hrr
      have hwr : IntKind.u64.wrap (r : Int) = (r : Int) := by rw [IntKind.wrap_u64]; omega
      go_wp2
      refine ⟨⟨j + 1, setF f j dj, by omega, by go_num, fun k hk => ?_, hB.setCell (by show w.heap.size ≤ w.heap.size + 1 + 1; omega) _, ?_⟩, by simp [intOf]; omega⟩
      · by_cases hkj : k = j
        · subst hkj
          rw [setF, if_pos rfl]
          exact HDj.out.symm
        · rw [setF, if_neg hkj]
          exact HFn.out k (by omega)
      · have h := Mem.setN (k := j) (v := .int .i64 dj) (by intro p hp; simp at hp; rcases hp with rfl | rfl <;> (simp; try omega)) hMm.out
        rw [il_set] at h
        exact h
    · have hj32 : j = 256 := by omega
      subst hj32
      have hfe : il f 256 = il g 256 := il_congr fun k hk => by
        have := hf k (by omega)
        rw [HG.out]
        exact this
      rw [hfe] at hm
      clear hf HFn hMm hfe
      have HM3 := Lib.hid hm
      have hth : wr.there (w.heap.size + 1) 0 (il g 256).length := fun k hk => by
        rw [il_len] at hk
        rw [Nat.zero_add]
        exact ⟨by rw [cellsAt_get hm.2.1.2.2 (il_get (fun _ => 0) 256 k hk)]; rfl, hm.2.1.2.1 k⟩
      have HTh := Lib.hid hth
      clear hth hm
      go_wp2_with (first | (refine Go.wpList_load_mid rfl 77 (.tmp 3) rfl (w.heap.size + 1 + 1) 0 rfl (il g 256) _ (rangeAt_of HM3.out.1.2.2) Try.underlying77 rfl (by rw [il_len]; kernel_rfl) ?_) | (refine Go.wpList_store_mid rfl 77 (.tmp 2) (.tmp 21) rfl (w.heap.size + 1) 0 (il g 256).toArray rfl rfl (by simpa using HTh.out) (by simp only [List.size_toArray, il_len]; kernel_rfl) (Go.all_oneCell_toArray (il_one g 256)) ?_))
      have hl := Go.run_loadVar_mid (P := Try.prog) (wr.setCells (w.heap.size + 1) 0 (il g 256)) (w.heap.size + 1) 0 77 (il g 256) _ (World.rangeAt_setCells_same wr (w.heap.size + 1) 0 (il g 256) HTh.out) Try.underlying77 rfl (by rw [il_len]; kernel_rfl)
      refine bodyPost_ret (v := arrD g) (by simp [results, Try.results45, asAddr, hl, arrD, Act.put]) rfl ⟨rfl, bl_setCells (Nat.le_succ _) _ _ _ hB⟩
end Go.Proofs.Ytlfabchlblgmbaa
