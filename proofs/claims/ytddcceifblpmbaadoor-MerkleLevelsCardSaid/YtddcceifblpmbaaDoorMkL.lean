/- florinlaw10: MerkleAlike (made by gen_mkl.py). (hM) -/
import Derived.Test.YtddcceifblpmbaaDoorMkO
import Derived.Test.YtddcceifblpmbaaDoorAndI
import Derived.Laws.IdiomCopy
namespace Go.Proofs.YtddcceifblpmbaaDoor
set_option linter.unusedVariables false
set_option linter.unusedSimpArgs false
open Go.RowKit

theorem hs_range0 {w : World} {g n c : Nat} {L : List HF} (h : Row w (some ⟨g, 0, none⟩) n c 32 (hsL L)) {i : Nat} {f : HF} (hi : L[i]? = some f) : w.rangeAt g (i * 32) (b8l f 32) := by
  have := hs_range h hi
  rwa [Nat.zero_add] at this
theorem hs_range00 {w : World} {g off n c : Nat} {L : List HF} (h : Row w (some ⟨g, off, none⟩) n c 32 (hsL L)) {f : HF} (hi : L[0]? = some f) : w.rangeAt g off (b8l f 32) := by
  have := hs_range h hi
  rwa [Nat.zero_mul, Nat.add_zero] at this
theorem hs_range01 {w : World} {g off n c : Nat} {L : List HF} (h : Row w (some ⟨g, off, none⟩) n c 32 (hsL L)) {f : HF} (hi : L[1]? = some f) : w.rangeAt g (off + 32) (b8l f 32) := by
  have := hs_range h hi
  rwa [Nat.one_mul] at this
theorem hs_at {L : List HF} {k : Nat} {u : Value} (h : (hsL L)[k]? = some u) : ∃ q r f, r < 32 ∧ k = q * 32 + r ∧ L[q]? = some f ∧ u = .int .u8 (f r) := by
  have hk : k < L.length * 32 := by have := (List.getElem?_eq_some_iff.1 h).1; rwa [hsL_len] at this
  have hj : k % 32 < 32 := Nat.mod_lt _ (by omega)
  have e : k = k / 32 * 32 + k % 32 := by omega
  have hg : L[k / 32]? = some (L[k / 32]'(by omega)) := List.getElem?_eq_getElem (by omega)
  have h2 := hsL_get (k % 32) hg hj
  rw [← e, h] at h2
  exact ⟨_, _, _, hj, e, hg, by simpa using h2⟩
theorem row_set {w : World} {g n c i : Nat} {L : List HF} {f : HF} (h : Row w (some ⟨g, 0, none⟩) n c 32 (hsL L)) (hi : i < L.length) : Row (w.setCells g (i * 32) (b8l f 32)) (some ⟨g, 0, none⟩) n c 32 (hsL (L.set i f)) := by
  refine ⟨by rw [hsL_len, List.length_set]; have := h.len; rw [hsL_len] at this; exact this, h.le, h.nil, ?_, hsL_one _⟩
  intro ad ha k u hu
  cases ha
  refine ⟨rfl, ?_⟩
  obtain ⟨q, r, f', hr, rfl, hq, rfl⟩ := hs_at hu
  rw [List.getElem?_set] at hq
  by_cases hqi : i = q
  · rw [if_pos hqi, if_pos (by omega)] at hq
    subst hqi
    cases hq
    have := World.cell?_setCells_in g (b8l f 32) (i * 32) w (fun j hj => by
      rw [b8l_len] at hj
      obtain ⟨fi, hfi⟩ : ∃ fi, L[i]? = some fi := ⟨_, List.getElem?_eq_getElem hi⟩
      have := (h.cells _ rfl (i * 32 + j) _ (hsL_get j hfi hj)).2
      rw [Nat.zero_add] at this
      rw [this]; rfl) r (by rw [b8l_len]; exact hr)
    show (w.setCells g (i * 32) (b8l f 32)).cell? ⟨g, 0 + (i * 32 + r), none⟩ = _
    rw [Nat.zero_add, this]
    have hb := b8l_get f 32 r hr
    rw [List.getElem?_eq_getElem (by rw [b8l_len]; exact hr)] at hb
    exact hb
  · rw [if_neg hqi] at hq
    have h2 := (h.cells _ rfl (q * 32 + r) _ (hsL_get r hq hr)).2
    refine (World.cell?_setCells_out g (b8l f 32) (i * 32) w ⟨g, 0 + (q * 32 + r), none⟩ (fun _ _ => ?_)).trans h2
    rw [b8l_len]
    show 0 + (q * 32 + r) < i * 32 ∨ i * 32 + 32 ≤ 0 + (q * 32 + r)
    omega
theorem own_there {w : World} {B g n c i : Nat} {E : TypeId} {L : List HF} (h : w.ownsRow B E 32 (.slice (some ⟨g, 0, none⟩) n c) n (hsL L)) (hi : i < n) : w.there g (i * 32) 32 := fun k hk => by
  have hl : L.length = n := by have := h.1; rw [hsL_len] at this; omega
  obtain ⟨fi, hfi⟩ : ∃ fi, L[i]? = some fi := ⟨_, List.getElem?_eq_getElem (by omega)⟩
  refine ⟨?_, World.ownsRow.frozenAt h _⟩
  have := ((row_own h (hsL_one _)).cells _ rfl (i * 32 + k) _ (hsL_get k hfi hk)).2
  rw [Nat.zero_add] at this
  rw [this]; rfl
theorem wpList_setH {w : World} {ops : Array Oper} {rest : List Oper} {o : Oper} {a : Act} {Q : Exit → Act → World → Prop} (hgd : o.guard = none) (x y : Operand) (ho : o.op = .store 23 x y) (g i : Nat) (f : HF)
    (hx : a.eval x = .pointer (some ⟨g, i * 32, none⟩)) (hy : a.eval y = arr32 f) {w0 : World} {n c : Nat} {L : List HF} (hb : Below w0.heap.size w0 w) (h : w.ownsRow w0.heap.size 23 32 (.slice (some ⟨g, 0, none⟩) n c) n (hsL L)) (hi : i < n)
    (hk : ∀ W, Row W (some ⟨g, 0, none⟩) n c 32 (hsL (L.set i f)) → Below w0.heap.size w0 W → wpList Tryd.prog ops Q rest (a.put o.dst undef) W) : wpList Tryd.prog ops Q (o :: rest) a w := by
  have hl : L.length = n := by have := h.1; rw [hsL_len] at this; omega
  refine Go.wpList_store_mid hgd 23 x y ho g (i * 32) (b8l f 32).toArray hx hy (by rw [hA_sizeM]; exact own_there h hi) (by rw [hA_sizeM]; kernel_rfl) (Go.all_oneCell_toArray (b8l_one f 32)) ?_
  exact hk _ (row_set (row_own h (hsL_one _)) (by omega)) (bl_setCellsW (h.lt g rfl).1 _ _ _ hb)
theorem tw_small {L : List HF} (h : L.length < 2) : twB L = false := by
  refine tw_false ?_
  rintro ⟨i, hi, j, hj, _⟩
  rw [lev_len] at hj
  by_cases h0 : L.length = 0
  · rw [h0] at hi; simp [levN] at hi
  · have := wid_le L.length (by omega) i
    omega
theorem tw_two {f g : HF} : twB [f, g] = (hl f == hl g) := by
  have e : levN [f, g].length = 2 := by rw [show [f, g].length = 2 from rfl]; unfold levN; rw [if_neg (by omega), hgt_gt (by omega), hgt_le (by omega)]
  by_cases h : hl f = hl g
  · rw [tw_true (L := [f, g]) (by rw [e]; exact ⟨0, by omega, 0, by simp [lev], by simpa [lev] using h⟩)]
    simp [h]
  · rw [tw_false (L := [f, g]) (by
      rw [e]
      rintro ⟨i, hi, j, hj, hh⟩
      rw [lev_len] at hj
      have : i = 0 ∨ i = 1 := by omega
      rcases this with rfl | rfl
      · simp [wid] at hj
        obtain rfl : j = 0 := by omega
        exact h (by simpa [lev] using hh)
      · simp [wid] at hj)]
    simp [h]

set_option maxRecDepth 100000 in
set_option maxHeartbeats 8000000 in
theorem alike_early (ao : Option Addr) (n c : Nat) (L : List HF) (i : Int) (w : World) (hT : Tab w) (hr : Row w ao n c 32 (hsL L)) (hL : ∀ f ∈ L, HB f) (h : 60 < n ∨ n < 2) :
    Calls Tryd.prog 10 #[.slice ao n c, .int .i64 i] w fun e w' => e = .returned (.bool true) ∧ Below w.heap.size w w' := by
  have hln := hs_len hr
  obtain ⟨R, hR⟩ : ∃ R, rootF L = R := ⟨_, rfl⟩
  obtain ⟨t, ht⟩ : ∃ t, twB L = t := ⟨_, rfl⟩
  have HA := Lib.hid (fun (x : World) (hb : Below w.heap.size w x) => awake10_any x (hT.later hb))
  have HR1 := Lib.hid (fun (x : World) (hb : Below w.heap.size w x) => (hR ▸ ht ▸ root_det ao n c L x (hT.later hb) (hr.later hb) hL : Calls Tryd.prog 44 #[.slice ao n c] x fun e w' => e = .returned (.tuple #[arr32 R, .bool t]) ∧ Below x.heap.size x w'))
  have hB := Below.refl w.heap.size w
  have hM := Lib.hid (mem_nil w)
  have hF : True := trivial
  by_cases h1 : 60 < n
  · have h1i : (60 : Int) < (n : Int) := by omega
    clear hT hr hL h h1 hR ht hln
    go_enter Tryd.func10, Tryd.ntmps10
    go_wp2_with (first |
    (go_at_call 43; (with_reducible refine (HA.out _ hB).mono ?_); rintro e w1 ⟨rfl, hb⟩; have hB : Below w.heap.size w w1 := (by refine bl_then ?_ hb; (repeat (first | exact hB | refine bl_al ?_ _ | refine Below.setCell ?_ (by first | exact hgs | exact Nat.le_succ_of_le hgs | exact hgs2 | exact hgs3) _ | refine Below.drew ?_ | refine bl_drewN ?_ _))); (first | with_reducible have hM2 := Mem.later hb (hM.out) | with_reducible have hM2 := Mem.later hb (Mem.al (hM.out) _ _) | with_reducible have hM2 := Mem.later hb (Mem.al (Mem.al (hM.out) _ _) _ _) | with_reducible have hM2 := Mem.later hb (Mem.al (Mem.al (Mem.al (hM.out) _ _) _ _) _ _) | with_reducible have hM2 := Mem.later hb (Mem.al (Mem.al (Mem.al (Mem.al (hM.out) _ _) _ _) _ _) _ _) | with_reducible have hM2 := Mem.later hb (Mem.drew (hM.out)) | with_reducible have hM2 := Mem.later hb (Mem.drew (Mem.al (hM.out) _ _)) | with_reducible have hM2 := Mem.later hb (Mem.al (Mem.drew (hM.out)) _ _) | with_reducible have hM2 := Mem.later hb (Mem.al (Mem.drew (Mem.al (hM.out) _ _)) _ _) | with_reducible have hM2 := Mem.later hb (Mem.drew (Mem.al (Mem.al (hM.out) _ _) _ _)) | with_reducible have hM2 := Mem.later hb (Mem.al (Mem.al (Mem.drew (hM.out)) _ _) _ _) | with_reducible have hM2 := Mem.later hb (Mem.drew (Mem.drew (hM.out))) | with_reducible have hM2 := Mem.later hb (Mem.drew (Mem.al (Mem.drew (hM.out)) _ _)) | with_reducible have hM2 := Mem.later hb (Mem.drew (Mem.al (Mem.al (Mem.al (hM.out) _ _) _ _) _ _)) | with_reducible have hM2 := Mem.later hb (Mem.al (Mem.al (Mem.drew (Mem.al (hM.out) _ _)) _ _) _ _) | with_reducible have hM2 := Mem.later hb (Mem.drew (Mem.al (Mem.drew (Mem.al (hM.out) _ _)) _ _)) | with_reducible have hM2 := Mem.later hb (Mem.al (Mem.al (Mem.al (Mem.al (Mem.al (hM.out) _ _) _ _) _ _) _ _) _ _) | with_reducible have hM2 := Mem.later hb (Mem.al (Mem.al (Mem.al (Mem.al (Mem.al (Mem.al (hM.out) _ _) _ _) _ _) _ _) _ _) _ _) | with_reducible have hM2 := Mem.later hb (Mem.al (Mem.al (Mem.al (Mem.al (Mem.al (Mem.al (Mem.al (hM.out) _ _) _ _) _ _) _ _) _ _) _ _) _ _) | with_reducible have hM2 := Mem.later hb (Mem.al (Mem.al (Mem.al (Mem.al (Mem.al (Mem.al (Mem.al (Mem.al (hM.out) _ _) _ _) _ _) _ _) _ _) _ _) _ _) _ _)); (try simp only [World.size_alloc, size_drew] at hM2); clear hM; have hM := Lib.hid hM2; clear hF; have hF := hM2; (try simp only [Mem, cellsAt, World.size_alloc, Nat.zero_add, Nat.reduceAdd, and_true] at hF); clear hM2; clear hb) |
    (go_at_call 44; (with_reducible refine (HR1.out _ hB).mono ?_); rintro e w2 ⟨rfl, hb⟩; have hB : Below w.heap.size w w2 := (by refine bl_then ?_ hb; (repeat (first | exact hB | refine bl_al ?_ _ | refine Below.setCell ?_ (by first | exact hgs | exact Nat.le_succ_of_le hgs | exact hgs2 | exact hgs3) _ | refine Below.drew ?_ | refine bl_drewN ?_ _))); (first | with_reducible have hM2 := Mem.later hb (hM.out) | with_reducible have hM2 := Mem.later hb (Mem.al (hM.out) _ _) | with_reducible have hM2 := Mem.later hb (Mem.al (Mem.al (hM.out) _ _) _ _) | with_reducible have hM2 := Mem.later hb (Mem.al (Mem.al (Mem.al (hM.out) _ _) _ _) _ _) | with_reducible have hM2 := Mem.later hb (Mem.al (Mem.al (Mem.al (Mem.al (hM.out) _ _) _ _) _ _) _ _) | with_reducible have hM2 := Mem.later hb (Mem.drew (hM.out)) | with_reducible have hM2 := Mem.later hb (Mem.drew (Mem.al (hM.out) _ _)) | with_reducible have hM2 := Mem.later hb (Mem.al (Mem.drew (hM.out)) _ _) | with_reducible have hM2 := Mem.later hb (Mem.al (Mem.drew (Mem.al (hM.out) _ _)) _ _) | with_reducible have hM2 := Mem.later hb (Mem.drew (Mem.al (Mem.al (hM.out) _ _) _ _)) | with_reducible have hM2 := Mem.later hb (Mem.al (Mem.al (Mem.drew (hM.out)) _ _) _ _) | with_reducible have hM2 := Mem.later hb (Mem.drew (Mem.drew (hM.out))) | with_reducible have hM2 := Mem.later hb (Mem.drew (Mem.al (Mem.drew (hM.out)) _ _)) | with_reducible have hM2 := Mem.later hb (Mem.drew (Mem.al (Mem.al (Mem.al (hM.out) _ _) _ _) _ _)) | with_reducible have hM2 := Mem.later hb (Mem.al (Mem.al (Mem.drew (Mem.al (hM.out) _ _)) _ _) _ _) | with_reducible have hM2 := Mem.later hb (Mem.drew (Mem.al (Mem.drew (Mem.al (hM.out) _ _)) _ _)) | with_reducible have hM2 := Mem.later hb (Mem.al (Mem.al (Mem.al (Mem.al (Mem.al (hM.out) _ _) _ _) _ _) _ _) _ _) | with_reducible have hM2 := Mem.later hb (Mem.al (Mem.al (Mem.al (Mem.al (Mem.al (Mem.al (hM.out) _ _) _ _) _ _) _ _) _ _) _ _) | with_reducible have hM2 := Mem.later hb (Mem.al (Mem.al (Mem.al (Mem.al (Mem.al (Mem.al (Mem.al (hM.out) _ _) _ _) _ _) _ _) _ _) _ _) _ _) | with_reducible have hM2 := Mem.later hb (Mem.al (Mem.al (Mem.al (Mem.al (Mem.al (Mem.al (Mem.al (Mem.al (hM.out) _ _) _ _) _ _) _ _) _ _) _ _) _ _) _ _)); (try simp only [World.size_alloc, size_drew] at hM2); clear hM; have hM := Lib.hid hM2; clear hF; have hF := hM2; (try simp only [Mem, cellsAt, World.size_alloc, Nat.zero_add, Nat.reduceAdd, and_true] at hF); clear hM2; clear hb) |
    (with_reducible_and_instances refine at_store 6 ?_; refine wpList_store_newV rfl (.tmp 6) (.tmp 26) 23 rfl _ (b8l R 32) _ Tryd.underlying23 rfl (by rw [b8l_len]; kernel_rfl) (by rw [b8l_len]; rfl) (b8l_one R 32) rfl (rfl) hM.out ?_; intro W3 hMW hbW; have hBW := bl_then hB hbW; obtain ⟨g3, hg3⟩ : ∃ b, w2.heap.size = b := ⟨_, rfl⟩; rw [hg3] at hMW; simp only [hg3]; clear hg3; clear hM hF hB; have hM := Lib.hid hMW; have hB := hBW; have hF : True := trivial; clear hMW hbW hBW))
    go_ret
    exact ⟨rfl, hB⟩
  · have h1i : ¬ (60 : Int) < (n : Int) := by omega
    have h2i : (n : Int) < 2 := by omega
    have htf : t = false := by rw [← ht]; exact tw_small (by omega)
    clear hT hr hL h h1 hR ht hln
    subst htf
    go_enter Tryd.func10, Tryd.ntmps10
    go_wp2_with (first |
    (go_at_call 43; (with_reducible refine (HA.out _ hB).mono ?_); rintro e w1 ⟨rfl, hb⟩; have hB : Below w.heap.size w w1 := (by refine bl_then ?_ hb; (repeat (first | exact hB | refine bl_al ?_ _ | refine Below.setCell ?_ (by first | exact hgs | exact Nat.le_succ_of_le hgs | exact hgs2 | exact hgs3) _ | refine Below.drew ?_ | refine bl_drewN ?_ _))); (first | with_reducible have hM2 := Mem.later hb (hM.out) | with_reducible have hM2 := Mem.later hb (Mem.al (hM.out) _ _) | with_reducible have hM2 := Mem.later hb (Mem.al (Mem.al (hM.out) _ _) _ _) | with_reducible have hM2 := Mem.later hb (Mem.al (Mem.al (Mem.al (hM.out) _ _) _ _) _ _) | with_reducible have hM2 := Mem.later hb (Mem.al (Mem.al (Mem.al (Mem.al (hM.out) _ _) _ _) _ _) _ _) | with_reducible have hM2 := Mem.later hb (Mem.drew (hM.out)) | with_reducible have hM2 := Mem.later hb (Mem.drew (Mem.al (hM.out) _ _)) | with_reducible have hM2 := Mem.later hb (Mem.al (Mem.drew (hM.out)) _ _) | with_reducible have hM2 := Mem.later hb (Mem.al (Mem.drew (Mem.al (hM.out) _ _)) _ _) | with_reducible have hM2 := Mem.later hb (Mem.drew (Mem.al (Mem.al (hM.out) _ _) _ _)) | with_reducible have hM2 := Mem.later hb (Mem.al (Mem.al (Mem.drew (hM.out)) _ _) _ _) | with_reducible have hM2 := Mem.later hb (Mem.drew (Mem.drew (hM.out))) | with_reducible have hM2 := Mem.later hb (Mem.drew (Mem.al (Mem.drew (hM.out)) _ _)) | with_reducible have hM2 := Mem.later hb (Mem.drew (Mem.al (Mem.al (Mem.al (hM.out) _ _) _ _) _ _)) | with_reducible have hM2 := Mem.later hb (Mem.al (Mem.al (Mem.drew (Mem.al (hM.out) _ _)) _ _) _ _) | with_reducible have hM2 := Mem.later hb (Mem.drew (Mem.al (Mem.drew (Mem.al (hM.out) _ _)) _ _)) | with_reducible have hM2 := Mem.later hb (Mem.al (Mem.al (Mem.al (Mem.al (Mem.al (hM.out) _ _) _ _) _ _) _ _) _ _) | with_reducible have hM2 := Mem.later hb (Mem.al (Mem.al (Mem.al (Mem.al (Mem.al (Mem.al (hM.out) _ _) _ _) _ _) _ _) _ _) _ _) | with_reducible have hM2 := Mem.later hb (Mem.al (Mem.al (Mem.al (Mem.al (Mem.al (Mem.al (Mem.al (hM.out) _ _) _ _) _ _) _ _) _ _) _ _) _ _) | with_reducible have hM2 := Mem.later hb (Mem.al (Mem.al (Mem.al (Mem.al (Mem.al (Mem.al (Mem.al (Mem.al (hM.out) _ _) _ _) _ _) _ _) _ _) _ _) _ _) _ _)); (try simp only [World.size_alloc, size_drew] at hM2); clear hM; have hM := Lib.hid hM2; clear hF; have hF := hM2; (try simp only [Mem, cellsAt, World.size_alloc, Nat.zero_add, Nat.reduceAdd, and_true] at hF); clear hM2; clear hb) |
    (go_at_call 44; (with_reducible refine (HR1.out _ hB).mono ?_); rintro e w2 ⟨rfl, hb⟩; have hB : Below w.heap.size w w2 := (by refine bl_then ?_ hb; (repeat (first | exact hB | refine bl_al ?_ _ | refine Below.setCell ?_ (by first | exact hgs | exact Nat.le_succ_of_le hgs | exact hgs2 | exact hgs3) _ | refine Below.drew ?_ | refine bl_drewN ?_ _))); (first | with_reducible have hM2 := Mem.later hb (hM.out) | with_reducible have hM2 := Mem.later hb (Mem.al (hM.out) _ _) | with_reducible have hM2 := Mem.later hb (Mem.al (Mem.al (hM.out) _ _) _ _) | with_reducible have hM2 := Mem.later hb (Mem.al (Mem.al (Mem.al (hM.out) _ _) _ _) _ _) | with_reducible have hM2 := Mem.later hb (Mem.al (Mem.al (Mem.al (Mem.al (hM.out) _ _) _ _) _ _) _ _) | with_reducible have hM2 := Mem.later hb (Mem.drew (hM.out)) | with_reducible have hM2 := Mem.later hb (Mem.drew (Mem.al (hM.out) _ _)) | with_reducible have hM2 := Mem.later hb (Mem.al (Mem.drew (hM.out)) _ _) | with_reducible have hM2 := Mem.later hb (Mem.al (Mem.drew (Mem.al (hM.out) _ _)) _ _) | with_reducible have hM2 := Mem.later hb (Mem.drew (Mem.al (Mem.al (hM.out) _ _) _ _)) | with_reducible have hM2 := Mem.later hb (Mem.al (Mem.al (Mem.drew (hM.out)) _ _) _ _) | with_reducible have hM2 := Mem.later hb (Mem.drew (Mem.drew (hM.out))) | with_reducible have hM2 := Mem.later hb (Mem.drew (Mem.al (Mem.drew (hM.out)) _ _)) | with_reducible have hM2 := Mem.later hb (Mem.drew (Mem.al (Mem.al (Mem.al (hM.out) _ _) _ _) _ _)) | with_reducible have hM2 := Mem.later hb (Mem.al (Mem.al (Mem.drew (Mem.al (hM.out) _ _)) _ _) _ _) | with_reducible have hM2 := Mem.later hb (Mem.drew (Mem.al (Mem.drew (Mem.al (hM.out) _ _)) _ _)) | with_reducible have hM2 := Mem.later hb (Mem.al (Mem.al (Mem.al (Mem.al (Mem.al (hM.out) _ _) _ _) _ _) _ _) _ _) | with_reducible have hM2 := Mem.later hb (Mem.al (Mem.al (Mem.al (Mem.al (Mem.al (Mem.al (hM.out) _ _) _ _) _ _) _ _) _ _) _ _) | with_reducible have hM2 := Mem.later hb (Mem.al (Mem.al (Mem.al (Mem.al (Mem.al (Mem.al (Mem.al (hM.out) _ _) _ _) _ _) _ _) _ _) _ _) _ _) | with_reducible have hM2 := Mem.later hb (Mem.al (Mem.al (Mem.al (Mem.al (Mem.al (Mem.al (Mem.al (Mem.al (hM.out) _ _) _ _) _ _) _ _) _ _) _ _) _ _) _ _)); (try simp only [World.size_alloc, size_drew] at hM2); clear hM; have hM := Lib.hid hM2; clear hF; have hF := hM2; (try simp only [Mem, cellsAt, World.size_alloc, Nat.zero_add, Nat.reduceAdd, and_true] at hF); clear hM2; clear hb) |
    (with_reducible_and_instances refine at_store 6 ?_; refine wpList_store_newV rfl (.tmp 6) (.tmp 26) 23 rfl _ (b8l R 32) _ Tryd.underlying23 rfl (by rw [b8l_len]; kernel_rfl) (by rw [b8l_len]; rfl) (b8l_one R 32) rfl (rfl) hM.out ?_; intro W3 hMW hbW; have hBW := bl_then hB hbW; obtain ⟨g3, hg3⟩ : ∃ b, w2.heap.size = b := ⟨_, rfl⟩; rw [hg3] at hMW; simp only [hg3]; clear hg3; clear hM hF hB; have hM := Lib.hid hMW; have hB := hBW; have hF : True := trivial; clear hMW hbW hBW))
    go_ret
    exact ⟨rfl, hB⟩

set_option maxRecDepth 100000 in
set_option maxHeartbeats 8000000 in
theorem alike_walk (ao : Option Addr) (n c : Nat) (L : List HF) (i : Int) (w : World) (hT : Tab w) (hr : Row w ao n c 32 (hsL L)) (hL : ∀ f ∈ L, HB f) (h1 : n ≤ 60) (h2 : 2 ≤ n) :
    Calls Tryd.prog 10 #[.slice ao n c, .int .i64 i] w fun e w' => e = .returned (.bool true) ∧ Below w.heap.size w w' := by
  have hln := hs_len hr
  obtain ⟨bb, off, rfl⟩ := row_addr hr (by intro e; have := congrArg List.length e; rw [hsL_len, hln] at this; simp at this; omega)
  obtain ⟨K, hK, _⟩ := and_64k i
  obtain ⟨h, hh⟩ : ∃ h, n / 2 = h := ⟨_, rfl⟩
  obtain ⟨k, hk⟩ : ∃ k, K % h = k := ⟨_, rfl⟩
  have hkh : k < h := by rw [← hk]; exact Nat.mod_lt _ (by omega)
  obtain ⟨a, ha⟩ : ∃ a, 2 * k = a := ⟨_, rfl⟩
  obtain ⟨d, hd⟩ : ∃ d, a + 1 = d := ⟨_, rfl⟩
  obtain ⟨fa, hfa⟩ : ∃ f, L[a]? = some f := ⟨_, List.getElem?_eq_getElem (by omega)⟩
  obtain ⟨f0, hf0⟩ : ∃ f, L[0]? = some f := ⟨_, List.getElem?_eq_getElem (by omega)⟩
  obtain ⟨f1, hf1⟩ : ∃ f, L[1]? = some f := ⟨_, List.getElem?_eq_getElem (by omega)⟩
  have hLm : ∀ f ∈ L.set d fa, HB f := by
    intro f hf
    rcases List.mem_or_eq_of_mem_set hf with h | h
    · exact hL f h
    · rw [h]; exact hL fa (List.mem_of_getElem? hfa)
  have htm : twB (L.set d fa) = true := tw_true (like_in ⟨k, by rw [List.length_set]; omega, by
      rw [ha, hd, List.getD_eq_getElem?_getD, List.getD_eq_getElem?_getD, List.getElem?_set_ne (by omega), List.getElem?_set_self (by omega), hfa]⟩ (by rw [List.length_set]; unfold levN; rw [if_neg (by omega)]; omega))
  have htk : L.take 2 = [f0, f1] := by
    rcases L with _ | ⟨x, _ | ⟨y, L⟩⟩
    · simp at hf0
    · simp at hf1
    · simp at hf0 hf1; subst hf0; subst hf1; rfl
  have hr2 := hr.pre 2 h2
  have ht2 : (hsL L).take (2 * 32) = hsL [f0, f1] := by
    rw [← htk]
    conv => lhs; rw [← List.take_append_drop 2 L, hsL_app]
    rw [List.take_append_of_le_length (by rw [hsL_len, htk]; simp), List.take_of_length_le (by rw [hsL_len, htk]; simp)]
  rw [ht2] at hr2
  have hL2 : ∀ f ∈ [f0, f1], HB f := by rw [← htk]; intro f hf; exact hL f (List.mem_of_mem_take hf)
  obtain ⟨t, ht⟩ : ∃ t, (hl f0 == hl f1) = t := ⟨_, rfl⟩
  have ht2 := (tw_two (f := f0) (g := f1)).trans ht
  obtain ⟨Rm, hRm⟩ : ∃ R, rootF (L.set d fa) = R := ⟨_, rfl⟩
  obtain ⟨R2, hR2⟩ : ∃ R, rootF [f0, f1] = R := ⟨_, rfl⟩
  have HA := Lib.hid (fun (x : World) (hb : Below w.heap.size w x) => awake10_any x (hT.later hb))
  have HR2 := Lib.hid (fun (x : World) (hb : Below w.heap.size w x) => (hR2 ▸ ht2 ▸ root_det (some ⟨bb, off, none⟩) 2 c [f0, f1] x (hT.later hb) (hr2.later hb) hL2 : Calls Tryd.prog 44 #[.slice (some ⟨bb, off, none⟩) 2 c] x fun e w' => e = .returned (.tuple #[arr32 R2, .bool t]) ∧ Below x.heap.size x w'))
  have HRm := Lib.hid (fun (x : World) (g cp : Nat) (hb : Below w.heap.size w x) (h : Row x (some ⟨g, 0, none⟩) n cp 32 (hsL (L.set d fa))) => (hRm ▸ htm ▸ root_det (some ⟨g, 0, none⟩) n cp (L.set d fa) x (hT.later hb) h hLm : Calls Tryd.prog 44 #[.slice (some ⟨g, 0, none⟩) n cp] x fun e w' => e = .returned (.tuple #[arr32 Rm, .bool true]) ∧ Below x.heap.size x w'))
  have HRw := Lib.hid (fun (x : World) (hb : Below w.heap.size w x) => hr.later hb)
  have HLa := Lib.hid hfa
  have HL0 := Lib.hid hf0
  have HL1 := Lib.hid hf1
  have HN := Lib.hid h1
  have HDn := Lib.hid (show d < n by omega)
  have hEq := eq_h f0 f1 t ht
  have hcn := hr.le
  have k1 : ¬ (60 : Int) < (n : Int) := by omega
  have k2 : ¬ (n : Int) < 2 := by omega
  have k3 : (n : Int).tdiv 2 = (h : Int) := by rw [Int.tdiv_eq_ediv_of_nonneg (by omega)]; omega
  have k3' : (n : Int) / 2 = (h : Int) := by omega
  have k4 : (K : Int).tmod (h : Int) = (k : Int) := by rw [Int.tmod_eq_emod_of_nonneg (by omega), ← hk]; rfl
  have k5 : ¬ (h : Int) = 0 := by omega
  have k6 : IntKind.i64.wrap (2 * (k : Int)) = (a : Int) := by rw [IntKind.wrap_i64]; omega
  have k7 : IntKind.i64.wrap ((a : Int) + 1) = (d : Int) := by rw [IntKind.wrap_i64]; omega
  have k8 : (a : Int) < (n : Int) := by omega
  have k9 : 0 ≤ (a : Int) := by omega
  have k10 : (d : Int) < (n : Int) := by omega
  have k11 : 0 ≤ (d : Int) := by omega
  have k12 : IntKind.i64.wrap (h : Int) = (h : Int) := by rw [IntKind.wrap_i64]; omega
  have k13 : IntKind.i64.wrap (k : Int) = (k : Int) := by rw [IntKind.wrap_i64]; omega
  have k14 : (2 : Int) ≤ (c : Int) := by omega
  have k15 : (1 : Int) < (n : Int) := by omega
  have k16 : (0 : Int) < (n : Int) := by omega
  have k17 : 0 < n := by omega
  have k18 : 1 < n := by omega
  have hB := Below.refl w.heap.size w
  have hM := Lib.hid (mem_nil w)
  have hF : True := trivial
  clear hT hr hL h1 h2 hln hh hk hkh ha hd hfa hf0 hf1 hLm htm htk hr2 hL2 ht ht2 hRm hR2 hcn
  go_enter Tryd.func10, Tryd.ntmps10
  go_wp2_with (first |
    (go_at_call 43; (with_reducible refine (HA.out _ hB).mono ?_); rintro e w1 ⟨rfl, hb⟩; have hB : Below w.heap.size w w1 := (by refine bl_then ?_ hb; (repeat (first | exact hB | refine bl_al ?_ _ | refine Below.setCell ?_ (by first | exact hgs | exact Nat.le_succ_of_le hgs | exact hgs2 | exact hgs3) _ | refine Below.drew ?_ | refine bl_drewN ?_ _))); (first | with_reducible have hM2 := Mem.later hb (hM.out) | with_reducible have hM2 := Mem.later hb (Mem.al (hM.out) _ _) | with_reducible have hM2 := Mem.later hb (Mem.al (Mem.al (hM.out) _ _) _ _) | with_reducible have hM2 := Mem.later hb (Mem.al (Mem.al (Mem.al (hM.out) _ _) _ _) _ _) | with_reducible have hM2 := Mem.later hb (Mem.al (Mem.al (Mem.al (Mem.al (hM.out) _ _) _ _) _ _) _ _) | with_reducible have hM2 := Mem.later hb (Mem.drew (hM.out)) | with_reducible have hM2 := Mem.later hb (Mem.drew (Mem.al (hM.out) _ _)) | with_reducible have hM2 := Mem.later hb (Mem.al (Mem.drew (hM.out)) _ _) | with_reducible have hM2 := Mem.later hb (Mem.al (Mem.drew (Mem.al (hM.out) _ _)) _ _) | with_reducible have hM2 := Mem.later hb (Mem.drew (Mem.al (Mem.al (hM.out) _ _) _ _)) | with_reducible have hM2 := Mem.later hb (Mem.al (Mem.al (Mem.drew (hM.out)) _ _) _ _) | with_reducible have hM2 := Mem.later hb (Mem.drew (Mem.drew (hM.out))) | with_reducible have hM2 := Mem.later hb (Mem.drew (Mem.al (Mem.drew (hM.out)) _ _)) | with_reducible have hM2 := Mem.later hb (Mem.drew (Mem.al (Mem.al (Mem.al (hM.out) _ _) _ _) _ _)) | with_reducible have hM2 := Mem.later hb (Mem.al (Mem.al (Mem.drew (Mem.al (hM.out) _ _)) _ _) _ _) | with_reducible have hM2 := Mem.later hb (Mem.drew (Mem.al (Mem.drew (Mem.al (hM.out) _ _)) _ _)) | with_reducible have hM2 := Mem.later hb (Mem.al (Mem.al (Mem.al (Mem.al (Mem.al (hM.out) _ _) _ _) _ _) _ _) _ _) | with_reducible have hM2 := Mem.later hb (Mem.al (Mem.al (Mem.al (Mem.al (Mem.al (Mem.al (hM.out) _ _) _ _) _ _) _ _) _ _) _ _) | with_reducible have hM2 := Mem.later hb (Mem.al (Mem.al (Mem.al (Mem.al (Mem.al (Mem.al (Mem.al (hM.out) _ _) _ _) _ _) _ _) _ _) _ _) _ _) | with_reducible have hM2 := Mem.later hb (Mem.al (Mem.al (Mem.al (Mem.al (Mem.al (Mem.al (Mem.al (Mem.al (hM.out) _ _) _ _) _ _) _ _) _ _) _ _) _ _) _ _)); (try simp only [World.size_alloc, size_drew] at hM2); clear hM; have hM := Lib.hid hM2; clear hF; have hF := hM2; (try simp only [Mem, cellsAt, World.size_alloc, Nat.zero_add, Nat.reduceAdd, and_true] at hF); clear hM2; clear hb) |
    (with_reducible_and_instances refine at_app 44 ?_; refine wpList_appN eltHash w1 _ (below_alloc w1 _) rfl (.tmp 44) (.tmp 45) rfl (some ⟨w1.heap.size, 0, none⟩) 0 0 [] rfl (ownN_lit0 _ _ _ _ (Nat.le_refl _)) (some ⟨bb, off, none⟩) n c (hsL L) rfl ((HRw.out _ hB).alloc _) (fun h => by cases h) (by have := HN.out; omega) ?_; intro g4 cp4 w4 hown4 hb; have HB1 := Lib.hid hB; have HB4 := Lib.hid hb; simp only [Nat.zero_add, List.nil_append] at hown4; have HO4 := Lib.hid hown4; have HRo4 := Lib.hid (row_own hown4 (hsL_one _)); clear hown4; have hB : Below w.heap.size w w4 := (by refine bl_then ?_ hb; (repeat (first | exact hB | refine bl_al ?_ _ | refine Below.setCell ?_ (by first | exact hgs | exact Nat.le_succ_of_le hgs | exact hgs2 | exact hgs3) _ | refine Below.drew ?_ | refine bl_drewN ?_ _))); (first | with_reducible have hM2 := Mem.later hb (hM.out) | with_reducible have hM2 := Mem.later hb (Mem.al (hM.out) _ _) | with_reducible have hM2 := Mem.later hb (Mem.al (Mem.al (hM.out) _ _) _ _) | with_reducible have hM2 := Mem.later hb (Mem.al (Mem.al (Mem.al (hM.out) _ _) _ _) _ _) | with_reducible have hM2 := Mem.later hb (Mem.al (Mem.al (Mem.al (Mem.al (hM.out) _ _) _ _) _ _) _ _) | with_reducible have hM2 := Mem.later hb (Mem.drew (hM.out)) | with_reducible have hM2 := Mem.later hb (Mem.drew (Mem.al (hM.out) _ _)) | with_reducible have hM2 := Mem.later hb (Mem.al (Mem.drew (hM.out)) _ _) | with_reducible have hM2 := Mem.later hb (Mem.al (Mem.drew (Mem.al (hM.out) _ _)) _ _) | with_reducible have hM2 := Mem.later hb (Mem.drew (Mem.al (Mem.al (hM.out) _ _) _ _)) | with_reducible have hM2 := Mem.later hb (Mem.al (Mem.al (Mem.drew (hM.out)) _ _) _ _) | with_reducible have hM2 := Mem.later hb (Mem.drew (Mem.drew (hM.out))) | with_reducible have hM2 := Mem.later hb (Mem.drew (Mem.al (Mem.drew (hM.out)) _ _)) | with_reducible have hM2 := Mem.later hb (Mem.drew (Mem.al (Mem.al (Mem.al (hM.out) _ _) _ _) _ _)) | with_reducible have hM2 := Mem.later hb (Mem.al (Mem.al (Mem.drew (Mem.al (hM.out) _ _)) _ _) _ _) | with_reducible have hM2 := Mem.later hb (Mem.drew (Mem.al (Mem.drew (Mem.al (hM.out) _ _)) _ _)) | with_reducible have hM2 := Mem.later hb (Mem.al (Mem.al (Mem.al (Mem.al (Mem.al (hM.out) _ _) _ _) _ _) _ _) _ _) | with_reducible have hM2 := Mem.later hb (Mem.al (Mem.al (Mem.al (Mem.al (Mem.al (Mem.al (hM.out) _ _) _ _) _ _) _ _) _ _) _ _) | with_reducible have hM2 := Mem.later hb (Mem.al (Mem.al (Mem.al (Mem.al (Mem.al (Mem.al (Mem.al (hM.out) _ _) _ _) _ _) _ _) _ _) _ _) _ _) | with_reducible have hM2 := Mem.later hb (Mem.al (Mem.al (Mem.al (Mem.al (Mem.al (Mem.al (Mem.al (Mem.al (hM.out) _ _) _ _) _ _) _ _) _ _) _ _) _ _) _ _)); (try simp only [World.size_alloc, size_drew] at hM2); clear hM; have hM := Lib.hid hM2; clear hF; have hF := hM2; (try simp only [Mem, cellsAt, World.size_alloc, Nat.zero_add, Nat.reduceAdd, and_true] at hF); clear hM2; clear hb) |
    (with_reducible_and_instances refine at_load 54 ?_; refine Go.wpList_load_mid rfl 23 (.tmp 54) rfl g4 (a * 32) rfl (b8l fa 32) _ (hs_range0 HRo4.out HLa.out) Tryd.underlying23 rfl (by rw [b8l_len]; kernel_rfl) ?_) |
    (with_reducible_and_instances refine at_store 56 ?_; refine wpList_setH rfl (.tmp 56) (.tmp 55) rfl g4 d fa rfl rfl HB4.out HO4.out HDn.out ?_; intro W5 hr5 hb5; have HR5 := Lib.hid hr5; have hM5 := mem_nil W5; have hB5 := bl_then HB1.out hb5; clear hM hB hF hr5 hb5; have hM := Lib.hid hM5; have hB := hB5; have hF : True := trivial; clear hM5 hB5) |
    (go_at_call 44; (with_reducible refine (HRm.out _ _ _ hB HR5.out).mono ?_); rintro e w6 ⟨rfl, hb⟩; have hB : Below w.heap.size w w6 := (by refine bl_then ?_ hb; (repeat (first | exact hB | refine bl_al ?_ _ | refine Below.setCell ?_ (by first | exact hgs | exact Nat.le_succ_of_le hgs | exact hgs2 | exact hgs3) _ | refine Below.drew ?_ | refine bl_drewN ?_ _))); (first | with_reducible have hM2 := Mem.later hb (hM.out) | with_reducible have hM2 := Mem.later hb (Mem.al (hM.out) _ _) | with_reducible have hM2 := Mem.later hb (Mem.al (Mem.al (hM.out) _ _) _ _) | with_reducible have hM2 := Mem.later hb (Mem.al (Mem.al (Mem.al (hM.out) _ _) _ _) _ _) | with_reducible have hM2 := Mem.later hb (Mem.al (Mem.al (Mem.al (Mem.al (hM.out) _ _) _ _) _ _) _ _) | with_reducible have hM2 := Mem.later hb (Mem.drew (hM.out)) | with_reducible have hM2 := Mem.later hb (Mem.drew (Mem.al (hM.out) _ _)) | with_reducible have hM2 := Mem.later hb (Mem.al (Mem.drew (hM.out)) _ _) | with_reducible have hM2 := Mem.later hb (Mem.al (Mem.drew (Mem.al (hM.out) _ _)) _ _) | with_reducible have hM2 := Mem.later hb (Mem.drew (Mem.al (Mem.al (hM.out) _ _) _ _)) | with_reducible have hM2 := Mem.later hb (Mem.al (Mem.al (Mem.drew (hM.out)) _ _) _ _) | with_reducible have hM2 := Mem.later hb (Mem.drew (Mem.drew (hM.out))) | with_reducible have hM2 := Mem.later hb (Mem.drew (Mem.al (Mem.drew (hM.out)) _ _)) | with_reducible have hM2 := Mem.later hb (Mem.drew (Mem.al (Mem.al (Mem.al (hM.out) _ _) _ _) _ _)) | with_reducible have hM2 := Mem.later hb (Mem.al (Mem.al (Mem.drew (Mem.al (hM.out) _ _)) _ _) _ _) | with_reducible have hM2 := Mem.later hb (Mem.drew (Mem.al (Mem.drew (Mem.al (hM.out) _ _)) _ _)) | with_reducible have hM2 := Mem.later hb (Mem.al (Mem.al (Mem.al (Mem.al (Mem.al (hM.out) _ _) _ _) _ _) _ _) _ _) | with_reducible have hM2 := Mem.later hb (Mem.al (Mem.al (Mem.al (Mem.al (Mem.al (Mem.al (hM.out) _ _) _ _) _ _) _ _) _ _) _ _) | with_reducible have hM2 := Mem.later hb (Mem.al (Mem.al (Mem.al (Mem.al (Mem.al (Mem.al (Mem.al (hM.out) _ _) _ _) _ _) _ _) _ _) _ _) _ _) | with_reducible have hM2 := Mem.later hb (Mem.al (Mem.al (Mem.al (Mem.al (Mem.al (Mem.al (Mem.al (Mem.al (hM.out) _ _) _ _) _ _) _ _) _ _) _ _) _ _) _ _)); (try simp only [World.size_alloc, size_drew] at hM2); clear hM; have hM := Lib.hid hM2; clear hF; have hF := hM2; (try simp only [Mem, cellsAt, World.size_alloc, Nat.zero_add, Nat.reduceAdd, and_true] at hF); clear hM2; clear hb) |
    (with_reducible_and_instances refine at_store 10 ?_; refine wpList_store_newV rfl (.tmp 10) (.tmp 60) 23 rfl _ (b8l Rm 32) _ Tryd.underlying23 rfl (by rw [b8l_len]; kernel_rfl) (by rw [b8l_len]; rfl) (b8l_one Rm 32) rfl (rfl) hM.out ?_; intro W7 hMW hbW; have hBW := bl_then hB hbW; obtain ⟨g7, hg7⟩ : ∃ b, w6.heap.size = b := ⟨_, rfl⟩; rw [hg7] at hMW; simp only [hg7]; clear hg7; clear hM hF hB; have hM := Lib.hid hMW; have hB := hBW; have hF : True := trivial; clear hMW hbW hBW) |
    (go_at_call 44; (with_reducible refine (HR2.out _ hB).mono ?_); rintro e w8 ⟨rfl, hb⟩; have hB : Below w.heap.size w w8 := (by refine bl_then ?_ hb; (repeat (first | exact hB | refine bl_al ?_ _ | refine Below.setCell ?_ (by first | exact hgs | exact Nat.le_succ_of_le hgs | exact hgs2 | exact hgs3) _ | refine Below.drew ?_ | refine bl_drewN ?_ _))); (first | with_reducible have hM2 := Mem.later hb (hM.out) | with_reducible have hM2 := Mem.later hb (Mem.al (hM.out) _ _) | with_reducible have hM2 := Mem.later hb (Mem.al (Mem.al (hM.out) _ _) _ _) | with_reducible have hM2 := Mem.later hb (Mem.al (Mem.al (Mem.al (hM.out) _ _) _ _) _ _) | with_reducible have hM2 := Mem.later hb (Mem.al (Mem.al (Mem.al (Mem.al (hM.out) _ _) _ _) _ _) _ _) | with_reducible have hM2 := Mem.later hb (Mem.drew (hM.out)) | with_reducible have hM2 := Mem.later hb (Mem.drew (Mem.al (hM.out) _ _)) | with_reducible have hM2 := Mem.later hb (Mem.al (Mem.drew (hM.out)) _ _) | with_reducible have hM2 := Mem.later hb (Mem.al (Mem.drew (Mem.al (hM.out) _ _)) _ _) | with_reducible have hM2 := Mem.later hb (Mem.drew (Mem.al (Mem.al (hM.out) _ _) _ _)) | with_reducible have hM2 := Mem.later hb (Mem.al (Mem.al (Mem.drew (hM.out)) _ _) _ _) | with_reducible have hM2 := Mem.later hb (Mem.drew (Mem.drew (hM.out))) | with_reducible have hM2 := Mem.later hb (Mem.drew (Mem.al (Mem.drew (hM.out)) _ _)) | with_reducible have hM2 := Mem.later hb (Mem.drew (Mem.al (Mem.al (Mem.al (hM.out) _ _) _ _) _ _)) | with_reducible have hM2 := Mem.later hb (Mem.al (Mem.al (Mem.drew (Mem.al (hM.out) _ _)) _ _) _ _) | with_reducible have hM2 := Mem.later hb (Mem.drew (Mem.al (Mem.drew (Mem.al (hM.out) _ _)) _ _)) | with_reducible have hM2 := Mem.later hb (Mem.al (Mem.al (Mem.al (Mem.al (Mem.al (hM.out) _ _) _ _) _ _) _ _) _ _) | with_reducible have hM2 := Mem.later hb (Mem.al (Mem.al (Mem.al (Mem.al (Mem.al (Mem.al (hM.out) _ _) _ _) _ _) _ _) _ _) _ _) | with_reducible have hM2 := Mem.later hb (Mem.al (Mem.al (Mem.al (Mem.al (Mem.al (Mem.al (Mem.al (hM.out) _ _) _ _) _ _) _ _) _ _) _ _) _ _) | with_reducible have hM2 := Mem.later hb (Mem.al (Mem.al (Mem.al (Mem.al (Mem.al (Mem.al (Mem.al (Mem.al (hM.out) _ _) _ _) _ _) _ _) _ _) _ _) _ _) _ _)); (try simp only [World.size_alloc, size_drew] at hM2); clear hM; have hM := Lib.hid hM2; clear hF; have hF := hM2; (try simp only [Mem, cellsAt, World.size_alloc, Nat.zero_add, Nat.reduceAdd, and_true] at hF); clear hM2; clear hb) |
    (with_reducible_and_instances refine at_store 12 ?_; refine wpList_store_newV rfl (.tmp 12) (.tmp 66) 23 rfl _ (b8l R2 32) _ Tryd.underlying23 rfl (by rw [b8l_len]; kernel_rfl) (by rw [b8l_len]; rfl) (b8l_one R2 32) rfl (rfl) hM.out ?_; intro W9 hMW hbW; have hBW := bl_then hB hbW; obtain ⟨g9, hg9⟩ : ∃ b, w8.heap.size = b := ⟨_, rfl⟩; rw [hg9] at hMW; simp only [hg9]; clear hg9; clear hM hF hB; have hM := Lib.hid hMW; have hB := hBW; have hF : True := trivial; clear hMW hbW hBW))
  refine wp_plan (fun x => Row x (some ⟨bb, off, none⟩) n c 32 (hsL L)) [] [0, 1, 2, 3, 4, 5, 6, 7, 8, 9, 10, 11, 12, 13, 14, 15] (by kernel_rfl) (by kernel_rfl) ((HRw.out _ hB).drew) (fun hHeld => ?_)
  iterate 8 (refine wpT_take rfl (by rfl) (by rfl) (by intro w' hSw; (try dsimp only [Mem, cellsAt] at hSw); go_simp; (try with_reducible rfl)) (by assumption) ?_; (try simp only [Act.put, List.setIfInBounds_toArray, List.set_cons_zero, List.set_cons_succ]))
  (refine wpT_yield rfl (by rfl) (Go.yieldsIf_load_mid (by rfl) 23 (.tmp 75) rfl bb (off) rfl (b8l f0 32) _ (fun w' h' => hs_range00 h' HL0.out) Tryd.underlying23 rfl (by rw [b8l_len]; kernel_rfl)) (by assumption) ?_; (try simp only [Act.put, List.setIfInBounds_toArray, List.set_cons_zero, List.set_cons_succ]))
  iterate 2 (refine wpT_take rfl (by rfl) (by rfl) (by intro w' hSw; (try dsimp only [Mem, cellsAt] at hSw); go_simp; (try with_reducible rfl)) (by assumption) ?_; (try simp only [Act.put, List.setIfInBounds_toArray, List.set_cons_zero, List.set_cons_succ]))
  (refine wpT_yield rfl (by rfl) (Go.yieldsIf_load_mid (by rfl) 23 (.tmp 78) rfl bb ((off + 32)) rfl (b8l f1 32) _ (fun w' h' => hs_range01 h' HL1.out) Tryd.underlying23 rfl (by rw [b8l_len]; kernel_rfl)) (by assumption) ?_; (try simp only [Act.put, List.setIfInBounds_toArray, List.set_cons_zero, List.set_cons_succ]))
  iterate 4 (refine wpT_take rfl (by rfl) (by rfl) (by intro w' hSw; (try dsimp only [Mem, cellsAt] at hSw); go_simp; (try with_reducible rfl)) (by assumption) ?_; (try simp only [Act.put, List.setIfInBounds_toArray, List.set_cons_zero, List.set_cons_succ]))
  (refine wpT_nil ?_)
  go_wp2
  go_ret
  exact ⟨rfl, hB.drew⟩
end Go.Proofs.YtddcceifblpmbaaDoor
