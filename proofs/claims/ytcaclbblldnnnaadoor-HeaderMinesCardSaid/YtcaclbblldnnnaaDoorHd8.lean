/- florinlaw07: HeaderMines (made by gen_hd8.py). (hM) -/
import Derived.Test.YtcaclbblldnnnaaDoorHd7
import Derived.Test.YtcaclbblldnnnaaDoorAndI
import Derived.Test.YtcaclbblldnnnaaDoorLyes
namespace Go.Proofs.YtcaclbblldnnnaaDoor
set_option linter.unusedVariables false
set_option linter.unusedSimpArgs false
open Go.RowKit

def MineRes (h : Hd) (lim : Int) (n : Nat) (X : Hd) (b : Bool) : Prop :=
  ∃ k, k ≤ n ∧ (∀ i, i < k → mineB h lim i = false) ∧ ((k < n ∧ mineB h lim k = true ∧ X = tryH h k ∧ b = true) ∨ (k = n ∧ X = h ∧ b = false))
theorem mine_res (h : Hd) (ho : HdOk h) (lim : Int) (hl : 0 ≤ lim ∧ lim < 4294967296) (n : Nat) (hn : n ≤ 4096) (w : World) (hT : Tab w) :
    Calls Tryd.prog 34 #[hdV h, .int .u32 lim, .int .i64 (n : Int)] w fun e w' => ∃ X b, HdOk X ∧ MineRes h lim n X b ∧ e = .returned (.tuple #[hdV X, .bool b]) ∧ Below w.heap.size w w' := by
  refine (hmine_any h ho lim hl (n : Int) n (by rw [if_neg (by omega)]; omega) w hT).mono ?_
  rintro e w2 ⟨⟨k, hk, hno, hor⟩, hb⟩
  rcases hor with ⟨hk2, hyes, rfl⟩ | ⟨hk2, rfl⟩
  · exact ⟨_, _, tryH_ok ho k, ⟨k, hk, hno, .inl ⟨hk2, hyes, rfl, rfl⟩⟩, rfl, hb⟩
  · exact ⟨_, _, ho, ⟨k, hk, hno, .inr ⟨hk2, rfl, rfl⟩⟩, rfl, hb⟩
def HmRel (w : World) (h : Hd) (lim : Int) (n : Nat) (X : Hd) (bm bx : Nat) (fd i : Value) (wr : World) : Prop :=
  ∃ j : Nat, j ≤ n ∧ i = .int .i64 j ∧ Below w.heap.size w wr ∧
    ((fd = .bool false ∧ (∀ k, k < j → mineB h lim k = false) ∧ Mem wr [(bx, hdL (tryH h j)), (bm, hdL X), (w.heap.size, hdL h)]) ∨
     (fd = .bool true ∧ ∃ q, q < n ∧ (∀ k, k < q → mineB h lim k = false) ∧ mineB h lim q = true ∧ Mem wr [(bx, hdL (tryH h q)), (bm, hdL X), (w.heap.size, hdL h)]))

set_option maxRecDepth 100000 in
set_option maxHeartbeats 4000000 in
theorem mines_walk (h : Hd) (ho : HdOk h) (lim : Int) (hl : 0 ≤ lim ∧ lim < 4294967296) (tries : Int) (w : World) (hT : Tab w) :
    Calls Tryd.prog 8 #[hdV h, .int .u32 lim, .int .i64 tries] w fun e w' => e = .returned (.bool true) ∧ Below w.heap.size w w' := by
  obtain ⟨n, hn, hn31⟩ := and_31 tries
  have HA := Lib.hid (fun (x : World) (hb : Below w.heap.size w x) => awake7_any x (hT.later hb))
  have HMi := Lib.hid (fun (x : World) (hb : Below w.heap.size w x) => mine_res h ho lim hl n (by omega) x (hT.later hb))
  have HT := Lib.hid hT
  have HO := Lib.hid (And.intro ho hl)
  have hB := bl_al (Below.refl w.heap.size w) (.cells (hdL h).toArray 54)
  have hM := Lib.hid (Mem.al (mem_nil w) (hdL h) 54)
  have hF : True := trivial
  clear hT ho hl
  go_enter Tryd.func8, Tryd.ntmps8
  go_wp2_with (first |
    (go_at_call 28; (with_reducible refine (HA.out _ (by (repeat (first | exact hB | refine bl_al ?_ _ | refine Below.setCell ?_ (by first | exact hgs | exact Nat.le_succ_of_le hgs | exact hgs2 | exact hgs3) _ | refine Below.drew ?_ | refine bl_drewN ?_ _)))).mono ?_); rintro e w1 ⟨rfl, hb⟩; have hB : Below w.heap.size w w1 := (by refine bl_then ?_ hb; (repeat (first | exact hB | refine bl_al ?_ _ | refine Below.setCell ?_ (by first | exact hgs | exact Nat.le_succ_of_le hgs | exact hgs2 | exact hgs3) _ | refine Below.drew ?_ | refine bl_drewN ?_ _))); (first | with_reducible have hM2 := Mem.later hb (hM.out) | with_reducible have hM2 := Mem.later hb (Mem.al (hM.out) _ _) | with_reducible have hM2 := Mem.later hb (Mem.al (Mem.al (hM.out) _ _) _ _) | with_reducible have hM2 := Mem.later hb (Mem.al (Mem.al (Mem.al (hM.out) _ _) _ _) _ _) | with_reducible have hM2 := Mem.later hb (Mem.al (Mem.al (Mem.al (Mem.al (hM.out) _ _) _ _) _ _) _ _) | with_reducible have hM2 := Mem.later hb (Mem.drew (hM.out)) | with_reducible have hM2 := Mem.later hb (Mem.drew (Mem.al (hM.out) _ _)) | with_reducible have hM2 := Mem.later hb (Mem.al (Mem.drew (hM.out)) _ _) | with_reducible have hM2 := Mem.later hb (Mem.al (Mem.drew (Mem.al (hM.out) _ _)) _ _) | with_reducible have hM2 := Mem.later hb (Mem.drew (Mem.al (Mem.al (hM.out) _ _) _ _)) | with_reducible have hM2 := Mem.later hb (Mem.al (Mem.al (Mem.drew (hM.out)) _ _) _ _) | with_reducible have hM2 := Mem.later hb (Mem.drew (Mem.drew (hM.out))) | with_reducible have hM2 := Mem.later hb (Mem.drew (Mem.al (Mem.drew (hM.out)) _ _)) | with_reducible have hM2 := Mem.later hb (Mem.drew (Mem.al (Mem.al (Mem.al (hM.out) _ _) _ _) _ _)) | with_reducible have hM2 := Mem.later hb (Mem.al (Mem.al (Mem.drew (Mem.al (hM.out) _ _)) _ _) _ _) | with_reducible have hM2 := Mem.later hb (Mem.drew (Mem.al (Mem.drew (Mem.al (hM.out) _ _)) _ _)) | with_reducible have hM2 := Mem.later hb (Mem.al (Mem.al (Mem.al (Mem.al (Mem.al (hM.out) _ _) _ _) _ _) _ _) _ _) | with_reducible have hM2 := Mem.later hb (Mem.al (Mem.al (Mem.al (Mem.al (Mem.al (Mem.al (hM.out) _ _) _ _) _ _) _ _) _ _) _ _) | with_reducible have hM2 := Mem.later hb (Mem.al (Mem.al (Mem.al (Mem.al (Mem.al (Mem.al (Mem.al (hM.out) _ _) _ _) _ _) _ _) _ _) _ _) _ _) | with_reducible have hM2 := Mem.later hb (Mem.al (Mem.al (Mem.al (Mem.al (Mem.al (Mem.al (Mem.al (Mem.al (hM.out) _ _) _ _) _ _) _ _) _ _) _ _) _ _) _ _)); (try simp only [World.size_alloc, size_drew] at hM2); clear hM; have hM := Lib.hid hM2; clear hF; have hF := hM2; (try simp only [Mem, cellsAt, World.size_alloc, Nat.zero_add, Nat.reduceAdd, and_true] at hF); clear hM2; clear hb; clear hF; have hF : True := trivial) |
    (refine Go.wpList_load_mid rfl 54 (.tmp 3) rfl w.heap.size 0 rfl (hdL h) _ (rangeAt_of (Mem.get hM.out (by simp))) Tryd.underlying54 rfl (by rw [hdL_len]; kernel_rfl) ?_) |
    (go_at_call 34; (with_reducible refine (HMi.out _ (by (repeat (first | exact hB | refine bl_al ?_ _ | refine Below.setCell ?_ (by first | exact hgs | exact Nat.le_succ_of_le hgs | exact hgs2 | exact hgs3) _ | refine Below.drew ?_ | refine bl_drewN ?_ _)))).mono ?_); rintro e w2 ⟨X, ok, hxo, hres, rfl, hb⟩; have HRes := Lib.hid hres; have HXo := Lib.hid hxo; clear hres hxo; have hB : Below w.heap.size w w2 := (by refine bl_then ?_ hb; (repeat (first | exact hB | refine bl_al ?_ _ | refine Below.setCell ?_ (by first | exact hgs | exact Nat.le_succ_of_le hgs | exact hgs2 | exact hgs3) _ | refine Below.drew ?_ | refine bl_drewN ?_ _))); (first | with_reducible have hM2 := Mem.later hb (hM.out) | with_reducible have hM2 := Mem.later hb (Mem.al (hM.out) _ _) | with_reducible have hM2 := Mem.later hb (Mem.al (Mem.al (hM.out) _ _) _ _) | with_reducible have hM2 := Mem.later hb (Mem.al (Mem.al (Mem.al (hM.out) _ _) _ _) _ _) | with_reducible have hM2 := Mem.later hb (Mem.al (Mem.al (Mem.al (Mem.al (hM.out) _ _) _ _) _ _) _ _) | with_reducible have hM2 := Mem.later hb (Mem.drew (hM.out)) | with_reducible have hM2 := Mem.later hb (Mem.drew (Mem.al (hM.out) _ _)) | with_reducible have hM2 := Mem.later hb (Mem.al (Mem.drew (hM.out)) _ _) | with_reducible have hM2 := Mem.later hb (Mem.al (Mem.drew (Mem.al (hM.out) _ _)) _ _) | with_reducible have hM2 := Mem.later hb (Mem.drew (Mem.al (Mem.al (hM.out) _ _) _ _)) | with_reducible have hM2 := Mem.later hb (Mem.al (Mem.al (Mem.drew (hM.out)) _ _) _ _) | with_reducible have hM2 := Mem.later hb (Mem.drew (Mem.drew (hM.out))) | with_reducible have hM2 := Mem.later hb (Mem.drew (Mem.al (Mem.drew (hM.out)) _ _)) | with_reducible have hM2 := Mem.later hb (Mem.drew (Mem.al (Mem.al (Mem.al (hM.out) _ _) _ _) _ _)) | with_reducible have hM2 := Mem.later hb (Mem.al (Mem.al (Mem.drew (Mem.al (hM.out) _ _)) _ _) _ _) | with_reducible have hM2 := Mem.later hb (Mem.drew (Mem.al (Mem.drew (Mem.al (hM.out) _ _)) _ _)) | with_reducible have hM2 := Mem.later hb (Mem.al (Mem.al (Mem.al (Mem.al (Mem.al (hM.out) _ _) _ _) _ _) _ _) _ _) | with_reducible have hM2 := Mem.later hb (Mem.al (Mem.al (Mem.al (Mem.al (Mem.al (Mem.al (hM.out) _ _) _ _) _ _) _ _) _ _) _ _) | with_reducible have hM2 := Mem.later hb (Mem.al (Mem.al (Mem.al (Mem.al (Mem.al (Mem.al (Mem.al (hM.out) _ _) _ _) _ _) _ _) _ _) _ _) _ _) | with_reducible have hM2 := Mem.later hb (Mem.al (Mem.al (Mem.al (Mem.al (Mem.al (Mem.al (Mem.al (Mem.al (hM.out) _ _) _ _) _ _) _ _) _ _) _ _) _ _) _ _)); (try simp only [World.size_alloc, size_drew] at hM2); clear hM; have hM := Lib.hid hM2; clear hF; have hF := hM2; (try simp only [Mem, cellsAt, World.size_alloc, Nat.zero_add, Nat.reduceAdd, and_true] at hF); clear hM2; clear hb; clear hF; have hF : True := trivial) |
    (refine wpList_store_newV rfl (.tmp 9) (.tmp 22) 54 rfl _ (hdL X) _ Tryd.underlying54 rfl (by rw [hdL_len]; kernel_rfl) (by rw [hdL_len]; rfl) (hdL_one _) rfl rfl hM.out ?_; intro W hMW hbW; have hBW := bl_then hB hbW; obtain ⟨bm, hbm⟩ : ∃ b, w2.heap.size = b := ⟨_, rfl⟩; rw [hbm] at hMW; simp only [hbm]; clear hbm; clear hM hF hB; have hM := Lib.hid hMW; have hB := hBW; have hF : True := trivial; clear hMW hbW hBW) |
    (refine wpList_store_newV rfl (.tmp 11) (.tmp 24) 54 rfl _ (hdL h) _ Tryd.underlying54 rfl (by rw [hdL_len]; kernel_rfl) (by rw [hdL_len]; rfl) (hdL_one _) rfl rfl hM.out ?_; intro W2 hMW hbW; have hlt := Lib.hid (Mem.lt hM.out); have hgs := Lib.hid hB.size; have hBW := bl_then hB hbW; obtain ⟨bx, hbx⟩ : ∃ b, W.heap.size = b := ⟨_, rfl⟩; rw [hbx] at hMW hlt hgs; simp only [hbx]; clear hbx; clear hM hF hB; have hM := Lib.hid hMW; have hB := hBW; have hF : True := trivial; clear hMW hbW hBW))
  have HNE : Hid (∀ p ∈ [(bm, hdL X), (w.heap.size, hdL h)], p.1 ≠ bx) := fun p hp => Nat.ne_of_lt (hlt.out p hp)
  have HM0 := hM
  have HB0 := Lib.hid hB
  clear hM hF hB hlt
  go_loopw [12, 13] (fun fd i wr => HmRel w h lim n X bm bx fd i wr) (fun _ i _ => n - (intOf i).toNat)
  case atStart => exact ⟨0, Nat.zero_le _, rfl, HB0.out, .inl ⟨rfl, fun k hk => by omega, by rw [tryH_zero HO.out.1]; exact HM0.out⟩⟩
  case round =>
    obtain ⟨j, hj, rfl, hB, hor⟩ := hrel
    clear HM0 HB0
    rcases hor with ⟨rfl, hno, hmm⟩ | ⟨rfl, q, hq, hno, hyes, hmm⟩
    · have HNO := Lib.hid hno
      have hM := Lib.hid hmm
      have hF : True := trivial
      clear hno
      by_cases hlt : j < n
      · have hjn : (j : Int) < (n : Int) := by omega
        have HId := Lib.hid (fun (x : World) (hb : Below w.heap.size w x) => hid_any (tryH h j) (tryH_ok HO.out.1 j) x (HT.out.later hb))
        have HMe0 := fun (x : World) => meets_any (idF (tryH h j)) (idF_b _) h.b lim HO.out.1.b HO.out.2 x
        have hmi : mineB h lim j = decide (meetsV (hashN (idF (tryH h j))) h.b lim = 0) := rfl
        obtain ⟨I, hI⟩ : ∃ I, idF (tryH h j) = I := ⟨_, rfl⟩
        rw [hI] at HId HMe0 hmi
        obtain ⟨mv, hmv⟩ : ∃ mv, meetsV (hashN I) h.b lim = mv := ⟨_, rfl⟩
        rw [hmv] at HMe0 hmi
        have HMe := Lib.hid HMe0
        clear HMe0 hI hmv hmm
        by_cases hz : mv = 0
        · subst hz
          have HMI : Hid (mineB h lim j = true) := by show mineB h lim j = true; rw [hmi]; rfl
          clear hmi
          go_wp2
          refine wp_plan (fun x => Mem x _ ∧ x.cell? ⟨w.heap.size, 66, none⟩ = some (.int .u32 h.b)) [1, 5] [0, 2, 3, 4, 1, 5, 6, 7] (by kernel_rfl) (by kernel_rfl) (⟨Mem.drew hM.out, cellsAt_get (Mem.get (Mem.drew hM.out) (by simp)) (hdL_b h)⟩) (fun hHeld => ?_)
          (refine wpT_yield rfl (by rfl) (Go.yieldsIf_load_mid (by rfl) 54 (.tmp 11) rfl bx 0 rfl (hdL (tryH h j)) _ (fun w' h => rangeAt_of (Mem.get h.1 (by simp))) Tryd.underlying54 rfl (by rw [hdL_len]; kernel_rfl)) (by assumption) ?_; (try simp only [Act.put, List.setIfInBounds_toArray, List.set_cons_zero, List.set_cons_succ]))
          iterate 3 (refine wpT_take rfl (by rfl) (by rfl) (by intro w' hSw; (try dsimp only [Mem, cellsAt] at hSw); go_simp; (try with_reducible rfl)) (by assumption) ?_; (try simp only [Act.put, List.setIfInBounds_toArray, List.set_cons_zero, List.set_cons_succ]))
          (refine wpT_step rfl (by rfl) (fun K hK => ?_); go_simp)
          (refine (HId.out _ (by (repeat (first | exact hB | refine bl_al ?_ _ | refine Below.setCell ?_ (by first | exact hgs | exact Nat.le_succ_of_le hgs | exact hgs2 | exact hgs3) _ | refine Below.drew ?_ | refine bl_drewN ?_ _)))).mono ?_; rintro e w1 ⟨rfl, hb⟩; have hB : Below w.heap.size w w1 := (by refine bl_then ?_ hb; (repeat (first | exact hB | refine bl_al ?_ _ | refine Below.setCell ?_ (by first | exact hgs | exact Nat.le_succ_of_le hgs | exact hgs2 | exact hgs3) _ | refine Below.drew ?_ | refine bl_drewN ?_ _))); (first | with_reducible have hM2 := Mem.later hb (hM.out) | with_reducible have hM2 := Mem.later hb (Mem.al (hM.out) _ _) | with_reducible have hM2 := Mem.later hb (Mem.al (Mem.al (hM.out) _ _) _ _) | with_reducible have hM2 := Mem.later hb (Mem.al (Mem.al (Mem.al (hM.out) _ _) _ _) _ _) | with_reducible have hM2 := Mem.later hb (Mem.al (Mem.al (Mem.al (Mem.al (hM.out) _ _) _ _) _ _) _ _) | with_reducible have hM2 := Mem.later hb (Mem.drew (hM.out)) | with_reducible have hM2 := Mem.later hb (Mem.drew (Mem.al (hM.out) _ _)) | with_reducible have hM2 := Mem.later hb (Mem.al (Mem.drew (hM.out)) _ _) | with_reducible have hM2 := Mem.later hb (Mem.al (Mem.drew (Mem.al (hM.out) _ _)) _ _) | with_reducible have hM2 := Mem.later hb (Mem.drew (Mem.al (Mem.al (hM.out) _ _) _ _)) | with_reducible have hM2 := Mem.later hb (Mem.al (Mem.al (Mem.drew (hM.out)) _ _) _ _) | with_reducible have hM2 := Mem.later hb (Mem.drew (Mem.drew (hM.out))) | with_reducible have hM2 := Mem.later hb (Mem.drew (Mem.al (Mem.drew (hM.out)) _ _)) | with_reducible have hM2 := Mem.later hb (Mem.drew (Mem.al (Mem.al (Mem.al (hM.out) _ _) _ _) _ _)) | with_reducible have hM2 := Mem.later hb (Mem.al (Mem.al (Mem.drew (Mem.al (hM.out) _ _)) _ _) _ _) | with_reducible have hM2 := Mem.later hb (Mem.drew (Mem.al (Mem.drew (Mem.al (hM.out) _ _)) _ _)) | with_reducible have hM2 := Mem.later hb (Mem.al (Mem.al (Mem.al (Mem.al (Mem.al (hM.out) _ _) _ _) _ _) _ _) _ _) | with_reducible have hM2 := Mem.later hb (Mem.al (Mem.al (Mem.al (Mem.al (Mem.al (Mem.al (hM.out) _ _) _ _) _ _) _ _) _ _) _ _) | with_reducible have hM2 := Mem.later hb (Mem.al (Mem.al (Mem.al (Mem.al (Mem.al (Mem.al (Mem.al (hM.out) _ _) _ _) _ _) _ _) _ _) _ _) _ _) | with_reducible have hM2 := Mem.later hb (Mem.al (Mem.al (Mem.al (Mem.al (Mem.al (Mem.al (Mem.al (Mem.al (hM.out) _ _) _ _) _ _) _ _) _ _) _ _) _ _) _ _)); (try simp only [World.size_alloc, size_drew] at hM2); clear hM; have hM := Lib.hid hM2; clear hF; have hF := hM2; (try simp only [Mem, cellsAt, World.size_alloc, Nat.zero_add, Nat.reduceAdd, and_true] at hF); clear hM2; clear hb; clear hF; have hF : True := trivial; (refine hK.out _ _ _ (fun _ h => h) (⟨hM.out, cellsAt_get (Mem.get hM.out (by simp)) (hdL_b h)⟩) (fun hHeld => ?_); clear hK; clear K; (try simp only [Act.put, List.setIfInBounds_toArray, List.set_cons_zero, List.set_cons_succ])))
          (refine wpT_step rfl (by rfl) (fun K hK => ?_); go_simp)
          (refine (HMe.out _).mono ?_; rintro e w1 ⟨rfl, hb⟩; have hB : Below w.heap.size w w1 := (by refine bl_then ?_ hb; (repeat (first | exact hB | refine bl_al ?_ _ | refine Below.setCell ?_ (by first | exact hgs | exact Nat.le_succ_of_le hgs | exact hgs2 | exact hgs3) _ | refine Below.drew ?_ | refine bl_drewN ?_ _))); (first | with_reducible have hM2 := Mem.later hb (hM.out) | with_reducible have hM2 := Mem.later hb (Mem.al (hM.out) _ _) | with_reducible have hM2 := Mem.later hb (Mem.al (Mem.al (hM.out) _ _) _ _) | with_reducible have hM2 := Mem.later hb (Mem.al (Mem.al (Mem.al (hM.out) _ _) _ _) _ _) | with_reducible have hM2 := Mem.later hb (Mem.al (Mem.al (Mem.al (Mem.al (hM.out) _ _) _ _) _ _) _ _) | with_reducible have hM2 := Mem.later hb (Mem.drew (hM.out)) | with_reducible have hM2 := Mem.later hb (Mem.drew (Mem.al (hM.out) _ _)) | with_reducible have hM2 := Mem.later hb (Mem.al (Mem.drew (hM.out)) _ _) | with_reducible have hM2 := Mem.later hb (Mem.al (Mem.drew (Mem.al (hM.out) _ _)) _ _) | with_reducible have hM2 := Mem.later hb (Mem.drew (Mem.al (Mem.al (hM.out) _ _) _ _)) | with_reducible have hM2 := Mem.later hb (Mem.al (Mem.al (Mem.drew (hM.out)) _ _) _ _) | with_reducible have hM2 := Mem.later hb (Mem.drew (Mem.drew (hM.out))) | with_reducible have hM2 := Mem.later hb (Mem.drew (Mem.al (Mem.drew (hM.out)) _ _)) | with_reducible have hM2 := Mem.later hb (Mem.drew (Mem.al (Mem.al (Mem.al (hM.out) _ _) _ _) _ _)) | with_reducible have hM2 := Mem.later hb (Mem.al (Mem.al (Mem.drew (Mem.al (hM.out) _ _)) _ _) _ _) | with_reducible have hM2 := Mem.later hb (Mem.drew (Mem.al (Mem.drew (Mem.al (hM.out) _ _)) _ _)) | with_reducible have hM2 := Mem.later hb (Mem.al (Mem.al (Mem.al (Mem.al (Mem.al (hM.out) _ _) _ _) _ _) _ _) _ _) | with_reducible have hM2 := Mem.later hb (Mem.al (Mem.al (Mem.al (Mem.al (Mem.al (Mem.al (hM.out) _ _) _ _) _ _) _ _) _ _) _ _) | with_reducible have hM2 := Mem.later hb (Mem.al (Mem.al (Mem.al (Mem.al (Mem.al (Mem.al (Mem.al (hM.out) _ _) _ _) _ _) _ _) _ _) _ _) _ _) | with_reducible have hM2 := Mem.later hb (Mem.al (Mem.al (Mem.al (Mem.al (Mem.al (Mem.al (Mem.al (Mem.al (hM.out) _ _) _ _) _ _) _ _) _ _) _ _) _ _) _ _)); (try simp only [World.size_alloc, size_drew] at hM2); clear hM; have hM := Lib.hid hM2; clear hF; have hF := hM2; (try simp only [Mem, cellsAt, World.size_alloc, Nat.zero_add, Nat.reduceAdd, and_true] at hF); clear hM2; clear hb; clear hF; have hF : True := trivial; (refine hK.out _ _ _ (fun _ h => h) (⟨hM.out, cellsAt_get (Mem.get hM.out (by simp)) (hdL_b h)⟩) (fun hHeld => ?_); clear hK; clear K; (try simp only [Act.put, List.setIfInBounds_toArray, List.set_cons_zero, List.set_cons_succ])))
          iterate 2 (refine wpT_take rfl (by rfl) (by rfl) (by intro w' hSw; (try dsimp only [Mem, cellsAt] at hSw); go_simp; (try with_reducible rfl)) (by assumption) ?_; (try simp only [Act.put, List.setIfInBounds_toArray, List.set_cons_zero, List.set_cons_succ]))
          (refine wpT_nil ?_)
          go_wp2
          refine ⟨⟨j + 1, by omega, by go_num, hB, .inr ⟨rfl, j, hlt, HNO.out, HMI.out, hM.out⟩⟩, by simp [intOf]; omega⟩
        · have HMI : Hid (mineB h lim j = false) := by show mineB h lim j = false; rw [hmi]; simp [hz]
          have hzb : (mv == 0) = false := by simpa using hz
          clear hmi
          go_wp2
          refine wp_plan (fun x => Mem x _ ∧ x.cell? ⟨w.heap.size, 66, none⟩ = some (.int .u32 h.b)) [1, 5] [0, 2, 3, 4, 1, 5, 6, 7] (by kernel_rfl) (by kernel_rfl) (⟨Mem.drew hM.out, cellsAt_get (Mem.get (Mem.drew hM.out) (by simp)) (hdL_b h)⟩) (fun hHeld => ?_)
          (refine wpT_yield rfl (by rfl) (Go.yieldsIf_load_mid (by rfl) 54 (.tmp 11) rfl bx 0 rfl (hdL (tryH h j)) _ (fun w' h => rangeAt_of (Mem.get h.1 (by simp))) Tryd.underlying54 rfl (by rw [hdL_len]; kernel_rfl)) (by assumption) ?_; (try simp only [Act.put, List.setIfInBounds_toArray, List.set_cons_zero, List.set_cons_succ]))
          iterate 3 (refine wpT_take rfl (by rfl) (by rfl) (by intro w' hSw; (try dsimp only [Mem, cellsAt] at hSw); go_simp; (try with_reducible rfl)) (by assumption) ?_; (try simp only [Act.put, List.setIfInBounds_toArray, List.set_cons_zero, List.set_cons_succ]))
          (refine wpT_step rfl (by rfl) (fun K hK => ?_); go_simp)
          (refine (HId.out _ (by (repeat (first | exact hB | refine bl_al ?_ _ | refine Below.setCell ?_ (by first | exact hgs | exact Nat.le_succ_of_le hgs | exact hgs2 | exact hgs3) _ | refine Below.drew ?_ | refine bl_drewN ?_ _)))).mono ?_; rintro e w1 ⟨rfl, hb⟩; have hB : Below w.heap.size w w1 := (by refine bl_then ?_ hb; (repeat (first | exact hB | refine bl_al ?_ _ | refine Below.setCell ?_ (by first | exact hgs | exact Nat.le_succ_of_le hgs | exact hgs2 | exact hgs3) _ | refine Below.drew ?_ | refine bl_drewN ?_ _))); (first | with_reducible have hM2 := Mem.later hb (hM.out) | with_reducible have hM2 := Mem.later hb (Mem.al (hM.out) _ _) | with_reducible have hM2 := Mem.later hb (Mem.al (Mem.al (hM.out) _ _) _ _) | with_reducible have hM2 := Mem.later hb (Mem.al (Mem.al (Mem.al (hM.out) _ _) _ _) _ _) | with_reducible have hM2 := Mem.later hb (Mem.al (Mem.al (Mem.al (Mem.al (hM.out) _ _) _ _) _ _) _ _) | with_reducible have hM2 := Mem.later hb (Mem.drew (hM.out)) | with_reducible have hM2 := Mem.later hb (Mem.drew (Mem.al (hM.out) _ _)) | with_reducible have hM2 := Mem.later hb (Mem.al (Mem.drew (hM.out)) _ _) | with_reducible have hM2 := Mem.later hb (Mem.al (Mem.drew (Mem.al (hM.out) _ _)) _ _) | with_reducible have hM2 := Mem.later hb (Mem.drew (Mem.al (Mem.al (hM.out) _ _) _ _)) | with_reducible have hM2 := Mem.later hb (Mem.al (Mem.al (Mem.drew (hM.out)) _ _) _ _) | with_reducible have hM2 := Mem.later hb (Mem.drew (Mem.drew (hM.out))) | with_reducible have hM2 := Mem.later hb (Mem.drew (Mem.al (Mem.drew (hM.out)) _ _)) | with_reducible have hM2 := Mem.later hb (Mem.drew (Mem.al (Mem.al (Mem.al (hM.out) _ _) _ _) _ _)) | with_reducible have hM2 := Mem.later hb (Mem.al (Mem.al (Mem.drew (Mem.al (hM.out) _ _)) _ _) _ _) | with_reducible have hM2 := Mem.later hb (Mem.drew (Mem.al (Mem.drew (Mem.al (hM.out) _ _)) _ _)) | with_reducible have hM2 := Mem.later hb (Mem.al (Mem.al (Mem.al (Mem.al (Mem.al (hM.out) _ _) _ _) _ _) _ _) _ _) | with_reducible have hM2 := Mem.later hb (Mem.al (Mem.al (Mem.al (Mem.al (Mem.al (Mem.al (hM.out) _ _) _ _) _ _) _ _) _ _) _ _) | with_reducible have hM2 := Mem.later hb (Mem.al (Mem.al (Mem.al (Mem.al (Mem.al (Mem.al (Mem.al (hM.out) _ _) _ _) _ _) _ _) _ _) _ _) _ _) | with_reducible have hM2 := Mem.later hb (Mem.al (Mem.al (Mem.al (Mem.al (Mem.al (Mem.al (Mem.al (Mem.al (hM.out) _ _) _ _) _ _) _ _) _ _) _ _) _ _) _ _)); (try simp only [World.size_alloc, size_drew] at hM2); clear hM; have hM := Lib.hid hM2; clear hF; have hF := hM2; (try simp only [Mem, cellsAt, World.size_alloc, Nat.zero_add, Nat.reduceAdd, and_true] at hF); clear hM2; clear hb; clear hF; have hF : True := trivial; (refine hK.out _ _ _ (fun _ h => h) (⟨hM.out, cellsAt_get (Mem.get hM.out (by simp)) (hdL_b h)⟩) (fun hHeld => ?_); clear hK; clear K; (try simp only [Act.put, List.setIfInBounds_toArray, List.set_cons_zero, List.set_cons_succ])))
          (refine wpT_step rfl (by rfl) (fun K hK => ?_); go_simp)
          (refine (HMe.out _).mono ?_; rintro e w1 ⟨rfl, hb⟩; have hB : Below w.heap.size w w1 := (by refine bl_then ?_ hb; (repeat (first | exact hB | refine bl_al ?_ _ | refine Below.setCell ?_ (by first | exact hgs | exact Nat.le_succ_of_le hgs | exact hgs2 | exact hgs3) _ | refine Below.drew ?_ | refine bl_drewN ?_ _))); (first | with_reducible have hM2 := Mem.later hb (hM.out) | with_reducible have hM2 := Mem.later hb (Mem.al (hM.out) _ _) | with_reducible have hM2 := Mem.later hb (Mem.al (Mem.al (hM.out) _ _) _ _) | with_reducible have hM2 := Mem.later hb (Mem.al (Mem.al (Mem.al (hM.out) _ _) _ _) _ _) | with_reducible have hM2 := Mem.later hb (Mem.al (Mem.al (Mem.al (Mem.al (hM.out) _ _) _ _) _ _) _ _) | with_reducible have hM2 := Mem.later hb (Mem.drew (hM.out)) | with_reducible have hM2 := Mem.later hb (Mem.drew (Mem.al (hM.out) _ _)) | with_reducible have hM2 := Mem.later hb (Mem.al (Mem.drew (hM.out)) _ _) | with_reducible have hM2 := Mem.later hb (Mem.al (Mem.drew (Mem.al (hM.out) _ _)) _ _) | with_reducible have hM2 := Mem.later hb (Mem.drew (Mem.al (Mem.al (hM.out) _ _) _ _)) | with_reducible have hM2 := Mem.later hb (Mem.al (Mem.al (Mem.drew (hM.out)) _ _) _ _) | with_reducible have hM2 := Mem.later hb (Mem.drew (Mem.drew (hM.out))) | with_reducible have hM2 := Mem.later hb (Mem.drew (Mem.al (Mem.drew (hM.out)) _ _)) | with_reducible have hM2 := Mem.later hb (Mem.drew (Mem.al (Mem.al (Mem.al (hM.out) _ _) _ _) _ _)) | with_reducible have hM2 := Mem.later hb (Mem.al (Mem.al (Mem.drew (Mem.al (hM.out) _ _)) _ _) _ _) | with_reducible have hM2 := Mem.later hb (Mem.drew (Mem.al (Mem.drew (Mem.al (hM.out) _ _)) _ _)) | with_reducible have hM2 := Mem.later hb (Mem.al (Mem.al (Mem.al (Mem.al (Mem.al (hM.out) _ _) _ _) _ _) _ _) _ _) | with_reducible have hM2 := Mem.later hb (Mem.al (Mem.al (Mem.al (Mem.al (Mem.al (Mem.al (hM.out) _ _) _ _) _ _) _ _) _ _) _ _) | with_reducible have hM2 := Mem.later hb (Mem.al (Mem.al (Mem.al (Mem.al (Mem.al (Mem.al (Mem.al (hM.out) _ _) _ _) _ _) _ _) _ _) _ _) _ _) | with_reducible have hM2 := Mem.later hb (Mem.al (Mem.al (Mem.al (Mem.al (Mem.al (Mem.al (Mem.al (Mem.al (hM.out) _ _) _ _) _ _) _ _) _ _) _ _) _ _) _ _)); (try simp only [World.size_alloc, size_drew] at hM2); clear hM; have hM := Lib.hid hM2; clear hF; have hF := hM2; (try simp only [Mem, cellsAt, World.size_alloc, Nat.zero_add, Nat.reduceAdd, and_true] at hF); clear hM2; clear hb; clear hF; have hF : True := trivial; (refine hK.out _ _ _ (fun _ h => h) (⟨hM.out, cellsAt_get (Mem.get hM.out (by simp)) (hdL_b h)⟩) (fun hHeld => ?_); clear hK; clear K; (try simp only [Act.put, List.setIfInBounds_toArray, List.set_cons_zero, List.set_cons_succ])))
          iterate 2 (refine wpT_take rfl (by rfl) (by rfl) (by intro w' hSw; (try dsimp only [Mem, cellsAt] at hSw); go_simp; (try with_reducible rfl)) (by assumption) ?_; (try simp only [Act.put, List.setIfInBounds_toArray, List.set_cons_zero, List.set_cons_succ]))
          (refine wpT_nil ?_)
          have hc := cellsAt_get (Mem.get hM.out (List.mem_cons_self)) (hdL_n (tryH h j))
          have hfz := hM.out.1.2.1 67
          go_wp2
          refine ⟨⟨j + 1, by omega, by go_num, hB.setCell hgs.out _, .inl ⟨rfl, fun k hk => ?_, ?_⟩⟩, by simp [intOf]; omega⟩
          · by_cases hkj : k = j
            · rw [hkj]; exact HMI.out
            · exact HNO.out k (by omega)
          · have h1 := Mem.setN (k := 67) (v := .int .u32 (((h.n + (j : Int)) % 4294967296 + 1) % 4294967296)) HNE.out hM.out
            rw [hdL_next] at h1
            exact h1
      · have hje : j = n := by omega
        subst hje
        have hjj : ¬ (j : Int) < (j : Int) := by omega
        obtain ⟨k, hk, hno2, hres⟩ := HRes.out
        rcases hres with ⟨hk2, hy, _, _⟩ | ⟨_, hXh, hok⟩
        · exact absurd (HNO.out k hk2) (by rw [hy]; simp)
        · subst hok
          have hE : ∀ x : World, (binOp .eql 54 (hdV X) (hdV h)).run Tryd.prog x = .ok (.bool true) x := fun x => eql_hdr X h true (by rw [hXh]; exact hdEq_self h) x
          clear hmm hXh hno2 hk
          go_wp2_with (first | (refine wpList_load_yes (by rfl) 54 (.tmp 9) rfl bm 0 rfl (hdL X) _ (rangeAt_of (Mem.get hM.out (by simp))) Tryd.underlying54 rfl (by rw [hdL_len]; kernel_rfl) ?_) | (refine wpList_load_yes (by rfl) 54 (.tmp 11) rfl bx 0 rfl (hdL (tryH h j)) _ (rangeAt_of (Mem.get hM.out (by simp))) Tryd.underlying54 rfl (by rw [hdL_len]; kernel_rfl) ?_) | (refine wpList_load_yes (by rfl) 54 (.tmp 3) rfl w.heap.size 0 rfl (hdL h) _ (rangeAt_of (Mem.get hM.out (by simp))) Tryd.underlying54 rfl (by rw [hdL_len]; kernel_rfl) ?_))
          go_ret
          exact ⟨rfl, hB⟩
    · have HNO := Lib.hid hno
      have hM := Lib.hid hmm
      obtain ⟨k, hk, hno2, hres⟩ := HRes.out
      have hqk : k = q := by
        rcases Nat.lt_trichotomy k q with h1 | h1 | h1
        · rcases hres with ⟨hk2, hy, _, _⟩ | ⟨hk2, _, _⟩
          · exact absurd (hno k h1) (by rw [hy]; simp)
          · omega
        · exact h1
        · exact absurd (hno2 q h1) (by rw [hyes]; simp)
      subst hqk
      rcases hres with ⟨hk2, hy, hXh, hok⟩ | ⟨hk2, _, _⟩
      case inr => omega
      subst hok
      have hE : ∀ x : World, (binOp .eql 54 (hdV X) (hdV (tryH h k))).run Tryd.prog x = .ok (.bool true) x := fun x => eql_hdr X (tryH h k) true (by rw [hXh]; exact hdEq_self _) x
      clear hmm hXh hno2 hno hyes hy
      by_cases hlt : j < n
      · have hjn : (j : Int) < (n : Int) := by omega
        go_wp2_with (first | (refine wpList_load_yes (by rfl) 54 (.tmp 9) rfl bm 0 rfl (hdL X) _ (rangeAt_of (Mem.get hM.out (by simp))) Tryd.underlying54 rfl (by rw [hdL_len]; kernel_rfl) ?_) | (refine wpList_load_yes (by rfl) 54 (.tmp 11) rfl bx 0 rfl (hdL (tryH h k)) _ (rangeAt_of (Mem.get hM.out (by simp))) Tryd.underlying54 rfl (by rw [hdL_len]; kernel_rfl) ?_) | (refine wpList_load_yes (by rfl) 54 (.tmp 3) rfl w.heap.size 0 rfl (hdL h) _ (rangeAt_of (Mem.get hM.out (by simp))) Tryd.underlying54 rfl (by rw [hdL_len]; kernel_rfl) ?_))
        go_ret
        exact ⟨rfl, hB⟩
      · have hjn : ¬ (j : Int) < (n : Int) := by omega
        go_wp2_with (first | (refine wpList_load_yes (by rfl) 54 (.tmp 9) rfl bm 0 rfl (hdL X) _ (rangeAt_of (Mem.get hM.out (by simp))) Tryd.underlying54 rfl (by rw [hdL_len]; kernel_rfl) ?_) | (refine wpList_load_yes (by rfl) 54 (.tmp 11) rfl bx 0 rfl (hdL (tryH h k)) _ (rangeAt_of (Mem.get hM.out (by simp))) Tryd.underlying54 rfl (by rw [hdL_len]; kernel_rfl) ?_) | (refine wpList_load_yes (by rfl) 54 (.tmp 3) rfl w.heap.size 0 rfl (hdL h) _ (rangeAt_of (Mem.get hM.out (by simp))) Tryd.underlying54 rfl (by rw [hdL_len]; kernel_rfl) ?_))
        go_ret
        exact ⟨rfl, hB⟩
end Go.Proofs.YtcaclbblldnnnaaDoor
