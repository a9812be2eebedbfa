/- Package script: Put. (hM) -/
import Derived.Test.YtpdgeiflmnhkfaaDoorSp1
namespace Go.Proofs.YtpdgeiflmnhkfaaDoor
set_option linter.unusedVariables false
set_option linter.unusedSimpArgs false
open Go.RowKit

section
variable {P : Program} {T E : TypeId} {z : Value} {sz wd : Nat}
theorem wpList_appG (he : Elt P T E z sz wd) (w : World) {ops : Array Oper} {rest : List Oper} {o : Oper} {a : Act} {Q : Exit → Act → World → Prop} (hgd : o.guard = none) (s x : Operand)
    (ho : o.op = .call { callee := .builtin .append, args := #[s, x], argTypes := #[T, T] })
    (B : Nat) (hB : B ≤ w.heap.size) (ao : Option Addr) (n c : Nat) (xs : List Value) (hs : a.eval s = .slice ao n c) (hr : OwnN B E sz w ao n c xs)
    (ax : Option Addr) (m cx : Nat) (ys : List Value) (hx : a.eval x = .slice ax m cx) (hy : Row w ax m cx sz ys) (hm : ao = none → 0 < m) (hb : (n + m) * wd ≤ 140737488355328)
    (h : ∀ g cap w' row, w'.ownsRow B E sz (.slice (some ⟨g, 0, none⟩) (n + m) cap) (n + m) (xs ++ ys) → w.grownBy w' row → (∀ k, row = some k → ao = some ⟨k, 0, none⟩) →
      wpList P ops Q rest (a.put o.dst (.slice (some ⟨g, 0, none⟩) (n + m) cap)) w') : wpList P ops Q (o :: rest) a w := by
  refine wpList_plain hgd fun K hK => ?_
  obtain ⟨g, cap, w', row, hrun, h1, h2, h3⟩ := run_appN he w o.type B hB ao n c xs hr ax m cx ys hy hm hb
  unfold Oper.wp
  simp [execOp, ho, resolve, invoke, builtin, hs, hx, hrun, Result.andThen]
  exact hK _ _ (h g cap w' row h1 h2 h3)
end
theorem Mem.grown {w w' : World} {row : Option Nat} (h : w.grownBy w' row) : ∀ {l : List (Nat × List Value)}, (∀ p ∈ l, ∀ k, row = some k → p.1 ≠ k) → Mem w l → Mem w' l
  | [], _, _ => trivial
  | (b, vs) :: l, hd, hm => ⟨⟨Nat.lt_of_lt_of_le hm.1.1 h.size, fun i => grown_frozen h hm.1.1 (hm.1.2.1 i) (fun k hk => hd (b, vs) (by simp) k hk),
      cellsAt.map (fun i u hu => grown_cell h hu (fun k hk => hd (b, vs) (by simp) k hk)) vs 0 hm.1.2.2⟩, Mem.grown h (fun p hp => hd p (by simp [hp])) hm.2⟩
theorem OwnN.lt {B : Nat} {E : TypeId} {sz : Nat} {w : World} {n c : Nat} {xs : List Value} {k : Nat} (h : OwnN B E sz w (some ⟨k, 0, none⟩) n c xs) : B ≤ k ∧ k < w.heap.size := by
  rcases h with ⟨h, _⟩ | ⟨g, h1, h2⟩
  · cases h
  · cases h1; exact h2.lt k rfl
theorem own_row_lt {B : Nat} {E : TypeId} {sz : Nat} {w : World} {ao : Option Addr} {n c : Nat} {xs : List Value} {row : Option Nat} (h : OwnN B E sz w ao n c xs) (hr : ∀ k, row = some k → ao = some ⟨k, 0, none⟩) : ∀ k, row = some k → B ≤ k ∧ k < w.heap.size := by
  intro k hk
  have e := hr k hk
  subst e
  exact h.lt
theorem putP_len (l : List PS) : (putP l).length ≤ l.length * 65541 := by
  induction l with
  | nil => simp [putP]
  | cons s l ih =>
    rw [putP_cons, List.length_append, List.length_cons]
    by_cases h : fitsP s = true
    · rw [if_pos h, List.length_append]
      have h4 := ((fitsP_iff s).1 h).2.2.2
      have e : (headP s).length = 6 := rfl
      omega
    · rw [if_neg h, List.length_nil]
      omega
theorem putP_snoc (l : List PS) (s : PS) : putP (l ++ [s]) = putP l ++ (if fitsP s then headP s ++ s.d else []) := by rw [putP_app]; simp [putP]

def PutRel (w : World) (n : Nat) (L : List Stp) (b i : Value) (wr : World) : Prop :=
  ∃ (j : Nat) (bo : Option Addr) (m cap : Nat), j ≤ n ∧ i = .int .i64 j ∧ b = .slice bo m cap ∧ m = (putP ((L.take j).map psOf)).length ∧ OwnN w.heap.size 5 1 wr bo m cap ((putP ((L.take j).map psOf)).map (Value.int .u8)) ∧ Below w.heap.size w wr

set_option maxHeartbeats 2000000 in
theorem put_any (ao : Option Addr) (n c : Nat) (L : List Stp) (w : World) (h : Sts w ao n c L) (hn : n ≤ 1000000) :
    Calls Tryd.prog 95 #[.slice ao n c] w fun e w' => ∃ (bo : Option Addr) (cap : Nat), e = .returned (.slice bo (putP (L.map psOf)).length cap) ∧ OwnN w.heap.size 5 1 w' bo (putP (L.map psOf)).length cap ((putP (L.map psOf)).map (Value.int .u8)) ∧ Below w.heap.size w w' := by
  have hL := h.len
  have H := Lib.hid h
  have HL := Lib.hid hL
  have HN := Lib.hid hn
  have hB0 := Below.refl w.heap.size w
  clear h hL hn
  go_enter Tryd.func95, Tryd.ntmps95
  go_wp2
  go_loopw [3, 9] (fun b i wr => PutRel w n L b i wr) (fun _ i _ => n - (intOf i).toNat)
  case atStart => exact ⟨0, none, 0, 0, Nat.zero_le _, rfl, rfl, by simp [putP], by simpa [putP] using ownN_nil _ _ _ _, hB0⟩
  case round =>
    obtain ⟨j, bo, m, cap, hj, rfl, rfl, hm, hown, hbr⟩ := hrel
    have HO := Lib.hid hown
    have HM := Lib.hid hm
    clear hown hm
    by_cases hlt : j < n
    · obtain ⟨s, hs⟩ : ∃ s, L[j]? = some s := ⟨_, List.getElem?_eq_getElem (by have := HL.out; omega)⟩
      obtain ⟨b, off, rfl⟩ := H.out.addr (by omega)
      have hS := H.out.later hbr
      have hso := H.out.ok s (List.mem_of_getElem? hs)
      obtain ⟨c0, c1, c2, c3⟩ := hS.cells hs
      have hjn : (j : Int) < (n : Int) := by omega
      have HFit := Lib.hid (fun (x : World) (hb : Below w.heap.size w x) => fits_any s x (hso.later hb))
      have HS := Lib.hid hs
      have HSO := Lib.hid hso
      have hB := hbr
      have hM := Lib.hid (mem_nil wr)
      have hF : True := trivial
      have hbl : b < wr.heap.size := World.block_lt_of_cell? wr ⟨b, _, none⟩ c0
      have hnm : b ≠ wr.heap.size := by omega
      clear hs hso hS
      have hsn : (L.take (j + 1)).map psOf = (L.take j).map psOf ++ [psOf s] := by
        rw [List.take_add_one, HS.out]; simp
      have hw3 : IntKind.i64.wrap ((j : Int) + 1) = ((j + 1 : Nat) : Int) := by rw [IntKind.wrap_i64]; have := HN.out; omega
      by_cases hf : fitsP (psOf s) = true
      · rw [hf] at HFit
        have HSN := Lib.hid (show putP ((L.take (j + 1)).map psOf) = putP ((L.take j).map psOf) ++ (headP (psOf s) ++ s.d) by rw [hsn, putP_snoc, if_pos hf]; rfl)
        obtain ⟨h1, h2, h3, h4⟩ := (fitsP_iff _).1 hf
        have hlen := HSO.out.len
        have hh : [Value.int .u8 (s.k % 256), .int .u8 (s.p % 256), .int .u8 (s.n % 256), .int .u8 (s.n / 256 % 256), .int .u8 ((s.m : Int) % 256), .int .u8 ((s.m : Int) / 256 % 256)] = (headP (psOf s)).map (Value.int .u8) := by
          simp only [psOf] at h1 h2 h3 h4
          unfold headP psOf
          simp only [List.map_cons, List.map_nil, hlen]
          rw [show s.k % 256 = s.k by omega, show s.p % 256 = s.p by omega, show s.n / 256 % 256 = s.n / 256 by omega, show (s.m : Int) / 256 % 256 = (s.m : Int) / 256 by omega]
        have hmb : m ≤ 65541000000 := by
          have a := putP_len ((L.take j).map psOf)
          rw [← HM.out] at a
          have : ((L.take j).map psOf).length ≤ 1000000 := by rw [List.length_map, List.length_take]; have := HN.out; omega
          omega
        have HH := Lib.hid hh
        have HMB := Lib.hid hmb
        have HLE := Lib.hid (And.intro hlen h4)
        clear hf hsn h1 h2 h3 h4 hlen hh hmb
        go_wp2_with (first |
          (go_at_call 92; (with_reducible refine (HFit.out _ (by (repeat (first | exact hB | refine bl_al ?_ _ | refine Below.setCell ?_ (by first | exact hgs | exact Nat.le_succ_of_le hgs | exact hgs2 | exact hgs3) _ | refine Below.drew ?_ | refine bl_drewN ?_ _)))).mono ?_); rintro e w1 ⟨rfl, hb⟩; have HB1 := Lib.hid (bl_then (below_alloc wr _) hb); have hB : Below w.heap.size w w1 := (by refine bl_then ?_ hb; (repeat (first | exact hB | refine bl_al ?_ _ | refine Below.setCell ?_ (by first | exact hgs | exact Nat.le_succ_of_le hgs | exact hgs2 | exact hgs3) _ | refine Below.drew ?_ | refine bl_drewN ?_ _))); (first | with_reducible have hM2 := Mem.later hb (hM.out) | with_reducible have hM2 := Mem.later hb (Mem.al (hM.out) _ _) | with_reducible have hM2 := Mem.later hb (Mem.al (Mem.al (hM.out) _ _) _ _) | with_reducible have hM2 := Mem.later hb (Mem.al (Mem.al (Mem.al (hM.out) _ _) _ _) _ _) | with_reducible have hM2 := Mem.later hb (Mem.al (Mem.al (Mem.al (Mem.al (hM.out) _ _) _ _) _ _) _ _) | with_reducible have hM2 := Mem.later hb (Mem.drew (hM.out)) | with_reducible have hM2 := Mem.later hb (Mem.drew (Mem.al (hM.out) _ _)) | with_reducible have hM2 := Mem.later hb (Mem.al (Mem.drew (hM.out)) _ _) | with_reducible have hM2 := Mem.later hb (Mem.al (Mem.drew (Mem.al (hM.out) _ _)) _ _) | with_reducible have hM2 := Mem.later hb (Mem.drew (Mem.al (Mem.al (hM.out) _ _) _ _)) | with_reducible have hM2 := Mem.later hb (Mem.al (Mem.al (Mem.drew (hM.out)) _ _) _ _) | with_reducible have hM2 := Mem.later hb (Mem.drew (Mem.drew (hM.out))) | with_reducible have hM2 := Mem.later hb (Mem.drew (Mem.al (Mem.drew (hM.out)) _ _)) | with_reducible have hM2 := Mem.later hb (Mem.drew (Mem.al (Mem.al (Mem.al (hM.out) _ _) _ _) _ _)) | with_reducible have hM2 := Mem.later hb (Mem.al (Mem.al (Mem.drew (Mem.al (hM.out) _ _)) _ _) _ _) | with_reducible have hM2 := Mem.later hb (Mem.drew (Mem.al (Mem.drew (Mem.al (hM.out) _ _)) _ _)) | with_reducible have hM2 := Mem.later hb (Mem.al (Mem.al (Mem.al (Mem.al (Mem.al (hM.out) _ _) _ _) _ _) _ _) _ _) | with_reducible have hM2 := Mem.later hb (Mem.al (Mem.al (Mem.al (Mem.al (Mem.al (Mem.al (hM.out) _ _) _ _) _ _) _ _) _ _) _ _) | with_reducible have hM2 := Mem.later hb (Mem.al (Mem.al (Mem.al (Mem.al (Mem.al (Mem.al (Mem.al (hM.out) _ _) _ _) _ _) _ _) _ _) _ _) _ _) | with_reducible have hM2 := Mem.later hb (Mem.al (Mem.al (Mem.al (Mem.al (Mem.al (Mem.al (Mem.al (Mem.al (hM.out) _ _) _ _) _ _) _ _) _ _) _ _) _ _) _ _)); (try simp only [World.size_alloc, size_drew] at hM2); clear hM; have hM := Lib.hid hM2; clear hF; have hF := hM2; (try simp only [Mem, cellsAt, World.size_alloc, Nat.zero_add, Nat.reduceAdd, and_true] at hF); clear hM2; clear hb) |
          (refine wpList_appG eltU8 _ rfl (.tmp 18) (.tmp 37) rfl w.heap.size (bl_al hB _).size bo m cap _ rfl (HO.out.later (bl_al HB1.out _)) _ 6 6 ((headP (psOf s)).map (Value.int .u8)) rfl (HH.out ▸ row_new w1 #[Value.int .u8 (s.k % 256), .int .u8 (s.p % 256), .int .u8 (s.n % 256), .int .u8 (s.n / 256 % 256), .int .u8 ((s.m : Int) % 256), .int .u8 ((s.m : Int) / 256 % 256)] 5 6 6 1 rfl (Nat.le_refl _) (by intro u hu; simp at hu; rcases hu with rfl | rfl | rfl | rfl | rfl | rfl <;> rfl)) (fun _ => by decide) (by have := HMB.out; omega) ?_; intro g2 cap2 w3 row3 hown3 hgrow3 hrow3; have hlt3 := own_row_lt HO.out hrow3; have hM3 := Mem.grown hgrow3 (fun p hp k hk => by simp at hp; subst hp; have := (hlt3 k hk).2; simp; omega) (Mem.skip hM.out _); have hB3 := below_grown (bl_al hB _) hgrow3 (fun k hk => (hlt3 k hk).1); have HO3 := Lib.hid hown3; clear hown3 hgrow3 hrow3 hlt3 hM hF hB; have hM := Lib.hid hM3; have hF := hM3; (simp only [Mem, cellsAt, Nat.zero_add, Nat.reduceAdd, and_true] at hF); have hB := hB3; clear hM3 hB3) |
          (refine wpList_appG eltU8 _ rfl (.tmp 39) (.tmp 41) rfl w.heap.size hB.size (some ⟨g2, 0, none⟩) (m + 6) cap2 _ rfl (.inr ⟨g2, rfl, HO3.out⟩) s.ao s.m s.c (s.d.map (Value.int .u8)) rfl (HSO.out.row.later hB) (fun h => by cases h) (by have := HMB.out; have := HLE.out.1; have := HLE.out.2; simp only [psOf] at *; omega) ?_; intro g4 cap4 w4 row4 hown4 hgrow4 hrow4; have hB4 := below_grown hB hgrow4 (fun k hk => (own_row_lt (.inr ⟨g2, rfl, HO3.out⟩) hrow4 k hk).1); have HO4 := Lib.hid hown4; clear hown4 hgrow4 hrow4 hM hF hB))
        have hq : m + 6 + s.m = (putP ((L.take (j + 1)).map psOf)).length := by
          rw [HSN.out, List.length_append, List.length_append, ← HM.out, HLE.out.1, show (headP (psOf s)).length = 6 from rfl]; omega
        have hz : (putP ((L.take (j + 1)).map psOf)).map (Value.int .u8) = (putP ((L.take j).map psOf)).map (Value.int .u8) ++ (headP (psOf s)).map (Value.int .u8) ++ s.d.map (Value.int .u8) := by
          rw [HSN.out, List.map_append, List.map_append, List.append_assoc]
        refine ⟨⟨j + 1, some ⟨g4, 0, none⟩, m + 6 + s.m, cap4, by omega, by first | rfl | go_num, rfl, hq, ?_, hB4⟩, by simp [intOf]; omega⟩
        rw [hz]
        exact .inr ⟨g4, rfl, HO4.out⟩
      · have hff : fitsP (psOf s) = false := by simpa using hf
        rw [hff] at HFit
        have HSN := Lib.hid (show putP ((L.take (j + 1)).map psOf) = putP ((L.take j).map psOf) by rw [hsn, putP_snoc, if_neg hf, List.append_nil])
        clear hf hff hsn
        go_wp2_with (go_at_call 92; (with_reducible refine (HFit.out _ (by (repeat (first | exact hB | refine bl_al ?_ _ | refine Below.setCell ?_ (by first | exact hgs | exact Nat.le_succ_of_le hgs | exact hgs2 | exact hgs3) _ | refine Below.drew ?_ | refine bl_drewN ?_ _)))).mono ?_); rintro e w1 ⟨rfl, hb⟩; have HB1 := Lib.hid (bl_then (below_alloc wr _) hb); have hB : Below w.heap.size w w1 := (by refine bl_then ?_ hb; (repeat (first | exact hB | refine bl_al ?_ _ | refine Below.setCell ?_ (by first | exact hgs | exact Nat.le_succ_of_le hgs | exact hgs2 | exact hgs3) _ | refine Below.drew ?_ | refine bl_drewN ?_ _))); (first | with_reducible have hM2 := Mem.later hb (hM.out) | with_reducible have hM2 := Mem.later hb (Mem.al (hM.out) _ _) | with_reducible have hM2 := Mem.later hb (Mem.al (Mem.al (hM.out) _ _) _ _) | with_reducible have hM2 := Mem.later hb (Mem.al (Mem.al (Mem.al (hM.out) _ _) _ _) _ _) | with_reducible have hM2 := Mem.later hb (Mem.al (Mem.al (Mem.al (Mem.al (hM.out) _ _) _ _) _ _) _ _) | with_reducible have hM2 := Mem.later hb (Mem.drew (hM.out)) | with_reducible have hM2 := Mem.later hb (Mem.drew (Mem.al (hM.out) _ _)) | with_reducible have hM2 := Mem.later hb (Mem.al (Mem.drew (hM.out)) _ _) | with_reducible have hM2 := Mem.later hb (Mem.al (Mem.drew (Mem.al (hM.out) _ _)) _ _) | with_reducible have hM2 := Mem.later hb (Mem.drew (Mem.al (Mem.al (hM.out) _ _) _ _)) | with_reducible have hM2 := Mem.later hb (Mem.al (Mem.al (Mem.drew (hM.out)) _ _) _ _) | with_reducible have hM2 := Mem.later hb (Mem.drew (Mem.drew (hM.out))) | with_reducible have hM2 := Mem.later hb (Mem.drew (Mem.al (Mem.drew (hM.out)) _ _)) | with_reducible have hM2 := Mem.later hb (Mem.drew (Mem.al (Mem.al (Mem.al (hM.out) _ _) _ _) _ _)) | with_reducible have hM2 := Mem.later hb (Mem.al (Mem.al (Mem.drew (Mem.al (hM.out) _ _)) _ _) _ _) | with_reducible have hM2 := Mem.later hb (Mem.drew (Mem.al (Mem.drew (Mem.al (hM.out) _ _)) _ _)) | with_reducible have hM2 := Mem.later hb (Mem.al (Mem.al (Mem.al (Mem.al (Mem.al (hM.out) _ _) _ _) _ _) _ _) _ _) | with_reducible have hM2 := Mem.later hb (Mem.al (Mem.al (Mem.al (Mem.al (Mem.al (Mem.al (hM.out) _ _) _ _) _ _) _ _) _ _) _ _) | with_reducible have hM2 := Mem.later hb (Mem.al (Mem.al (Mem.al (Mem.al (Mem.al (Mem.al (Mem.al (hM.out) _ _) _ _) _ _) _ _) _ _) _ _) _ _) | with_reducible have hM2 := Mem.later hb (Mem.al (Mem.al (Mem.al (Mem.al (Mem.al (Mem.al (Mem.al (Mem.al (hM.out) _ _) _ _) _ _) _ _) _ _) _ _) _ _) _ _)); (try simp only [World.size_alloc, size_drew] at hM2); clear hM; have hM := Lib.hid hM2; clear hF; have hF := hM2; (try simp only [Mem, cellsAt, World.size_alloc, Nat.zero_add, Nat.reduceAdd, and_true] at hF); clear hM2; clear hb)
        refine ⟨⟨j + 1, bo, m, cap, by omega, by first | rfl | go_num, rfl, by rw [HSN.out]; exact HM.out, by rw [HSN.out]; exact HO.out.later HB1.out, hB⟩, by simp [intOf]; omega⟩
    · obtain rfl : j = n := by omega
      have hjj : ¬ (j : Int) < (j : Int) := by omega
      have e : L.take j = L := List.take_of_length_le (by have := HL.out; omega)
      rw [e] at HO HM
      clear e
      go_wp2
      go_ret
      have hm := HM.out
      subst hm
      exact ⟨bo, cap, rfl, HO.out, hbr⟩
end Go.Proofs.YtpdgeiflmnhkfaaDoor
