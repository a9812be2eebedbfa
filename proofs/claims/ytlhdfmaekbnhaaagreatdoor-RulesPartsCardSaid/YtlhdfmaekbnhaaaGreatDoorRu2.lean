/- Package rules: rules as an argument with their checkpoints; Point. (hM) -/
import Derived.Test.YtlhdfmaekbnhaaaGreatDoorHd4
import Derived.Test.YtlhdfmaekbnhaaaGreatDoorRt9
import Derived.Test.YtlhdfmaekbnhaaaGreatDoorRu1
import Derived.Test.YtlhdfmaekbnhaaaGreatDoorLyes
namespace Go.Proofs.YtlhdfmaekbnhaaaGreatDoor
set_option linter.unusedVariables false
set_option linter.unusedSimpArgs false
open Go.RowKit

theorem hA_size (f : Nat → Int) : (b8l f 32).toArray.size = 32 := by rw [List.size_toArray, b8l_len]
/-- rules as cells -/
def PL (lim iv sp fu ix orp : Int) (ao : Option Addr) (n cp : Nat) : List Value := [.int .u32 lim, .int .i64 iv, .int .i64 sp, .int .i64 fu, .int .i64 ix, .int .i64 orp, .slice ao n cp]
theorem PL_len (lim iv sp fu ix orp : Int) (ao : Option Addr) (n cp : Nat) : (PL lim iv sp fu ix orp ao n cp).length = 7 := rfl
theorem PL_one (lim iv sp fu ix orp : Int) (ao : Option Addr) (n cp : Nat) : ∀ u ∈ PL lim iv sp fu ix orp ao n cp, u.oneCell' = true := by
  intro u hu
  simp only [PL, List.mem_cons, List.not_mem_nil, or_false] at hu
  rcases hu with rfl | rfl | rfl | rfl | rfl | rfl | rfl <;> rfl
/-- a checkpoint as cells -/
def ckL (h : Int) (f : Nat → Int) : List Value := .int .i64 h :: b8l f 32
theorem ckL_len (h : Int) (f : Nat → Int) : (ckL h f).length = 33 := by simp [ckL, b8l_len]
theorem ckL_one (h : Int) (f : Nat → Int) : ∀ u ∈ ckL h f, u.oneCell' = true := by
  intro u hu
  simp only [ckL, List.mem_cons] at hu
  rcases hu with rfl | hu
  · rfl
  · exact b8l_one _ _ _ hu
theorem rdc_check {w : World} {cs : List Value} (hc : RdC Tryz.prog w 69 cs) : ∃ (h : Int) (f : Nat → Int), cs = ckL h f ∧ ∀ i, 0 ≤ f i ∧ f i < 256 := by
  obtain ⟨hl, hf⟩ := hc.struct Tryz.underlying69
  have cI : Tryz.prog.cellsOf 3 = 1 := by kernel_rfl
  have cH : Tryz.prog.cellsOf 28 = 32 := by kernel_rfl
  have cX : Tryz.prog.cellsOf 69 = 33 := by kernel_rfl
  rw [cX] at hl
  have f0 : RdC Tryz.prog w 3 ((cs.drop 0).take (Tryz.prog.cellsOf 3)) := hf 0 _ rfl
  have f1 : RdC Tryz.prog w 28 ((cs.drop 1).take (Tryz.prog.cellsOf 28)) := hf 1 _ rfl
  rw [cI] at f0
  rw [cH] at f1
  obtain ⟨v, e0, w0⟩ := f0.int Tryz.underlying3
  obtain ⟨p, e1, w1⟩ := rdc_hash f1
  refine ⟨v, p, ?_, w1⟩
  have s (i k : Nat) : cs.drop i = (cs.drop i).take k ++ cs.drop (i + k) := by
    rw [← List.drop_drop]
    exact (List.take_append_drop k _).symm
  have h0 : cs = cs.drop 0 := rfl
  rw [h0, s 0 1, e0, s (0 + 1) 32, e1, List.drop_of_length_le (by omega)]
  simp [ckL]
/-- rules as an argument -/
theorem rd_params2 {w : World} {v : Value} (k : Rd Tryz.prog w 25 v) :
    ∃ (lim iv sp fu ix orp : Int) (ao : Option Addr) (n cp : Nat) (ht : Nat → Int) (ch : Nat → Nat → Int), v = PV lim iv sp fu ix orp ao n cp ∧ (0 ≤ lim ∧ lim < 4294967296) ∧ SRow w ao n cp 33 (fun i => ckL (ht i) (ch i)) ∧ (∀ i j, 0 ≤ ch i j ∧ ch i j < 256) ∧ n ≤ maxLen := by
  obtain ⟨lim, iv, sp, fu, ix, orp, ao, n, cp, rfl, hl⟩ := rd_params k
  obtain ⟨cs, he, hsz, hc⟩ := k.agg (.inl ⟨_, Tryz.underlying25⟩)
  have hcs : cs = #[.int .u32 lim, .int .i64 iv, .int .i64 sp, .int .i64 fu, .int .i64 ix, .int .i64 orp, .slice ao n cp] := by
    have := he
    simp only [Value.agg.injEq] at this
    exact this.symm
  subst hcs
  obtain ⟨_, hf⟩ := hc.struct Tryz.underlying25
  have cC : Tryz.prog.cellsOf 23 = 1 := by kernel_rfl
  have f6 : RdC Tryz.prog w 23 ((#[Value.int .u32 lim, .int .i64 iv, .int .i64 sp, .int .i64 fu, .int .i64 ix, .int .i64 orp, .slice ao n cp].toList.drop 6).take (Tryz.prog.cellsOf 23)) := hf 6 _ rfl
  rw [cC] at f6
  obtain ⟨ao', n', cp', X, e6, hX, hs, hn⟩ := f6.slice (sz := 33) Tryz.underlying23 (by kernel_rfl) (by decide)
  simp at e6
  obtain ⟨rfl, rfl, rfl⟩ := e6
  have this : ∀ i, ∃ (h : Int) (f : Nat → Int), (i < n → X i = ckL h f) ∧ ∀ j, 0 ≤ f j ∧ f j < 256 := fun i => by
    by_cases hi : i < n
    · obtain ⟨h, f, e, ho⟩ := rdc_check (hX i hi)
      exact ⟨h, f, fun _ => e, ho⟩
    · exact ⟨0, fun _ => 0, fun h => absurd h hi, fun _ => by simp⟩
  refine ⟨lim, iv, sp, fu, ix, orp, ao, n, cp, fun i => (this i).choose, fun i => (this i).choose_spec.choose, rfl, hl, ⟨fun i _ => ckL_len _ _, hs.le, hs.nil, fun ad ha i hi j u hu => hs.cells ad ha i hi j u ?_⟩, fun i => (this i).choose_spec.choose_spec.2, hn⟩
  rw [(this i).choose_spec.choose_spec.1 hi]
  exact hu

/-- the first checkpoint of a height -/
def ptK (ht : Nat → Int) (height : Int) : Nat → Nat
  | 0 => 0
  | n + 1 => if ptK ht height n < n then ptK ht height n else if ht n = height then n else n + 1
theorem ptK_none (ht : Nat → Int) (height : Int) : ∀ n, (∀ i, i < n → ht i ≠ height) → ptK ht height n = n
  | 0, _ => rfl
  | n + 1, h => by
    unfold ptK
    rw [ptK_none ht height n fun i hi => h i (by omega), if_neg (Nat.lt_irrefl _), if_neg (h n (by omega))]
theorem ptK_hit (ht : Nat → Int) (height : Int) (k : Nat) (hno : ∀ i, i < k → ht i ≠ height) (hk : ht k = height) : ∀ n, k < n → ptK ht height n = k
  | 0, h => by omega
  | n + 1, h => by
    unfold ptK
    by_cases hkn : k < n
    · rw [ptK_hit ht height k hno hk n hkn, if_pos hkn]
    · have : n = k := by omega
      subst this
      rw [ptK_none ht height n hno, if_neg (Nat.lt_irrefl _), if_pos hk]
theorem ptK_le (ht : Nat → Int) (height : Int) : ∀ n, ptK ht height n ≤ n
  | 0 => Nat.le_refl _
  | n + 1 => by
    have := ptK_le ht height n
    unfold ptK
    split
    · omega
    split <;> omega
/-- what Point tells: is there one, and its hash -/
def ptB (ht : Nat → Int) (height : Int) (n : Nat) : Bool := decide (ptK ht height n < n)
def ptH (ht : Nat → Int) (ch : Nat → Nat → Int) (height : Int) (n : Nat) : Nat → Int := if ptK ht height n < n then ch (ptK ht height n) else fun _ => 0
theorem range_tail {w : World} {b : Nat} {u : Value} {f : Nat → Int} (hc : cellsAt w b 0 (u :: b8l f 32)) : w.rangeAt b 1 (b8l f 32) := fun j v hj => by
  have hlt : j < 32 := by have := (List.getElem?_eq_some_iff.1 hj).1; rwa [b8l_len] at this
  refine cellsAt_get hc ?_
  rw [Nat.add_comm, List.getElem?_cons_succ]
  exact hj

def PtRel (w : World) (lim iv sp fu ix orp : Int) (ao : Option Addr) (n cp : Nat) (ht : Nat → Int) (height : Int) (i : Value) (wr : World) : Prop :=
  ∃ j : Nat, j ≤ n ∧ i = .int .i64 j ∧ (∀ i, i < j → ht i ≠ height) ∧ Below w.heap.size w wr ∧ Mem wr [(w.heap.size + 1, b8l (fun _ => 0) 32), (w.heap.size, PL lim iv sp fu ix orp ao n cp)]

set_option maxRecDepth 100000 in
set_option maxHeartbeats 4000000 in
theorem point_any (lim iv sp fu ix orp : Int) (ao : Option Addr) (n cp : Nat) (ht : Nat → Int) (ch : Nat → Nat → Int) (height : Int) (w : World) (hr : SRow w ao n cp 33 (fun i => ckL (ht i) (ch i))) (hn : n ≤ 1000000) :
    Calls Tryz.prog 12 #[PV lim iv sp fu ix orp ao n cp, .int .i64 height] w fun e w' => e = .returned (.tuple #[arr32 (ptH ht ch height n), .bool (ptB ht height n)]) ∧ Below w.heap.size w w' := by
  have HR := Lib.hid hr
  have HN := Lib.hid hn
  have hM0 := Mem.al (Mem.al (mem_nil w) (PL lim iv sp fu ix orp ao n cp) 25) (b8l (fun _ => 0) 32) 28
  simp only [World.size_alloc] at hM0
  have HM00 := Lib.hid hM0
  have HB00 := Lib.hid (bl_al (bl_al (Below.refl w.heap.size w) (.cells (PL lim iv sp fu ix orp ao n cp).toArray 25)) (.cells (b8l (fun _ => 0) 32).toArray 28))
  clear hr hn hM0
  go_enter Tryz.func12, Tryz.ntmps12
  go_wp2
  go_loopw [11] (fun i wr => PtRel w lim iv sp fu ix orp ao n cp ht height i wr) (fun i _ => n - (intOf i).toNat)
  case atStart => exact ⟨0, Nat.zero_le _, rfl, fun i hi => by omega, HB00.out, HM00.out⟩
  case round =>
    obtain ⟨j, hj, rfl, hno, hB, hmm⟩ := hrel
    clear HM00 HB00
    have HNO := Lib.hid hno
    have hM := Lib.hid hmm
    clear hno hmm
    by_cases hlt : j < n
    · obtain ⟨b, off, rfl⟩ := HR.out.addr (by decide) (by omega)
      have hblt : b < w.heap.size := HR.out.lt (by decide) (by omega) _ rfl
      have hjn : (j : Int) < (n : Int) := by omega
      have hw1 : IntKind.i64.wrap ((j : Int) + 1) = ((j + 1 : Nat) : Int) := by rw [IntKind.wrap_i64]; have := HN.out; omega
      have HC0 : Hid (wr.rangeAt b (off + j * 33) (ckL (ht j) (ch j))) := fun k v hk => by rw [Nat.add_assoc]; exact (hB.cell (p := ⟨b, off + (j * 33 + k), none⟩) hblt).trans (HR.out.cells _ rfl j hlt k v hk).2
      clear hblt
      by_cases hh : ht j = height
      · have hhb : (ht j == height) = true := by simp [hh]
        have HH := Lib.hid hh
        clear hh
        go_wp2_with (first |
          (refine Go.wpList_load_mid rfl 69 (.tmp 13) rfl b (off + j * 33) rfl (ckL (ht j) (ch j)) _ HC0.out Tryz.underlying69 rfl (by rw [ckL_len]; kernel_rfl) ?_) |
          (refine wpList_store_newV rfl (.tmp 7) (.tmp 14) 69 rfl _ (ckL (ht j) (ch j)) _ Tryz.underlying69 rfl (by rw [ckL_len]; kernel_rfl) (by rw [ckL_len]; rfl) (ckL_one _ _) rfl rfl hM.out ?_; intro W hMW hbW; have HMW := Lib.hid hMW; have hBW := bl_then hB hbW; have hc0 := hMW.1.2.2.1; have HTh := Lib.hid (thereW (n := 32) hMW.2.1 (Nat.le_refl _)); clear hB hMW hbW) |
          (refine Go.wpList_load_mid rfl 28 (.tmp 19) rfl wr.heap.size 1 rfl (b8l (ch j) 32) _ (range_tail HMW.out.1.2.2) Tryz.underlying28 rfl (by rw [b8l_len]; kernel_rfl) ?_) |
          (refine Go.wpList_store_mid rfl 28 (.tmp 4) (.tmp 20) rfl (w.heap.size + 1) 0 (b8l (ch j) 32).toArray rfl rfl (by rw [hA_size]; exact HTh.out) (by rw [hA_size]; kernel_rfl) (Go.all_oneCell_toArray (b8l_one _ 32)) ?_))
        have hl := Go.run_loadVar_mid (P := Tryz.prog) (W.setCells (w.heap.size + 1) 0 (b8l (ch j) 32)) (w.heap.size + 1) 0 28 (b8l (ch j) 32) _ (World.rangeAt_setCells_same W (w.heap.size + 1) 0 _ (by rw [b8l_len]; exact HTh.out)) Tryz.underlying28 rfl (by rw [b8l_len]; kernel_rfl)
        have hp := ptK_hit ht height j HNO.out HH.out n hlt
        refine bodyPost_ret (v := .tuple #[arr32 (ch j), .bool true]) (by simp [results, Tryz.results12, asAddr, hl, Act.put, Result.andThen]) rfl ⟨?_, bl_setCellsW (Nat.le_succ _) _ _ _ hBW⟩
        unfold ptH ptB
        rw [hp, if_pos hlt, decide_eq_true hlt]
      · have hhb : (ht j == height) = false := by simp [hh]
        have HH := Lib.hid hh
        clear hh
        go_wp2_with (first |
          (refine Go.wpList_load_mid rfl 69 (.tmp 13) rfl b (off + j * 33) rfl (ckL (ht j) (ch j)) _ HC0.out Tryz.underlying69 rfl (by rw [ckL_len]; kernel_rfl) ?_) |
          (refine wpList_store_newV rfl (.tmp 7) (.tmp 14) 69 rfl _ (ckL (ht j) (ch j)) _ Tryz.underlying69 rfl (by rw [ckL_len]; kernel_rfl) (by rw [ckL_len]; rfl) (ckL_one _ _) rfl rfl hM.out ?_; intro W hMW hbW; have HMW := Lib.hid hMW; have hBW := bl_then hB hbW; have hc0 := hMW.1.2.2.1; clear hB hMW hbW))
        refine ⟨⟨j + 1, by omega, by go_num, fun i hi => ?_, hBW, HMW.out.2⟩, by simp [intOf]; omega⟩
        by_cases hij : i = j
        · rw [hij]; exact HH.out
        · exact HNO.out i (by omega)
    · have hje : j = n := by omega
      subst hje
      have hjn : ¬ (j : Int) < (j : Int) := by omega
      have HTh := Lib.hid (thereW (n := 32) hM.out.1 (Nat.le_refl _))
      have hp := ptK_none ht height j HNO.out
      have HP := Lib.hid hp
      clear hp
      go_wp2_with (first |
        (refine Go.wpList_store_mid rfl 28 (.tmp 4) (.tmp 22) rfl (w.heap.size + 1) 0 (b8l (fun _ => 0) 32).toArray rfl rfl (by rw [hA_size]; exact HTh.out) (by rw [hA_size]; kernel_rfl) (Go.all_oneCell_toArray (b8l_one _ 32)) ?_))
      have hl := Go.run_loadVar_mid (P := Tryz.prog) (wr.setCells (w.heap.size + 1) 0 (b8l (fun _ => 0) 32)) (w.heap.size + 1) 0 28 (b8l (fun _ => 0) 32) _ (World.rangeAt_setCells_same wr (w.heap.size + 1) 0 _ (by rw [b8l_len]; exact HTh.out)) Tryz.underlying28 rfl (by rw [b8l_len]; kernel_rfl)
      refine bodyPost_ret (v := .tuple #[arr32 (fun _ => 0), .bool false]) (by simp [results, Tryz.results12, asAddr, hl, Act.put, Result.andThen]) rfl ⟨?_, bl_setCellsW (Nat.le_succ _) _ _ _ hB⟩
      unfold ptH ptB
      rw [HP.out, if_neg (Nat.lt_irrefl _)]
      simp
end Go.Proofs.YtlhdfmaekbnhaaaGreatDoor
