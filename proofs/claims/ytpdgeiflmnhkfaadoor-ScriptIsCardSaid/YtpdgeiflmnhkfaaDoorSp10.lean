/- florinref23: Fits, Put, at, Name. (hM) -/
import Derived.Test.YtpdgeiflmnhkfaaDoorSp9
namespace Go.Proofs.YtpdgeiflmnhkfaaDoor
set_option linter.unusedVariables false
set_option linter.unusedSimpArgs false
open Go.RowKit

theorem fitsP_false {s : PS} (h : ¬ ((0 ≤ s.k ∧ s.k ≤ 9) ∧ (0 ≤ s.p ∧ s.p ≤ 255) ∧ (0 ≤ s.n ∧ s.n ≤ 65535) ∧ s.d.length ≤ 65535)) : fitsP s = false := by
  cases hf : fitsP s with
  | false => rfl
  | true => exact absurd ((fitsP_iff s).1 hf) h
set_option maxHeartbeats 2000000 in
theorem rfits_any (s : Stp) (w : World) (h : StOk w s) : Calls Tryd.prog 94 #[stV s] w fun e w' => e = .returned (.bool (fitsP (psOf s))) ∧ Below w.heap.size w w' := by
  have hl := h.len
  have hff := @fitsP_false (psOf s)
  have hft := (fitsP_iff (psOf s)).2
  obtain ⟨k, p, n, ao, m, c, d⟩ := s
  simp only [psOf] at hff hft hl ⊢
  rw [hl] at hff hft
  clear h
  have hB := Below.refl w.heap.size w
  by_cases h0 : 0 ≤ k
  · --
    by_cases h1 : k ≤ 9
    · --
      by_cases h2 : 0 ≤ p
      · --
        by_cases h3 : p ≤ 255
        · --
          by_cases h4 : 0 ≤ n
          · --
            by_cases h5 : n ≤ 65535
            · --
              by_cases h6 : (m : Int) ≤ 65535
              · rw [hft (by omega)]
                clear hff hft hl
                go_enter Tryd.func94, Tryd.ntmps94
                go_wp2
                go_ret
                exact ⟨rfl, by (repeat (first | exact hB | refine bl_al ?_ _ | refine Below.setCell ?_ (by first | exact hgs | exact Nat.le_succ_of_le hgs | exact hgs2 | exact hgs3) _ | refine Below.drew ?_ | refine bl_drewN ?_ _))⟩
              · rw [hff (by omega)]
                clear hff hft hl
                go_enter Tryd.func94, Tryd.ntmps94
                go_wp2
                go_ret
                exact ⟨rfl, by (repeat (first | exact hB | refine bl_al ?_ _ | refine Below.setCell ?_ (by first | exact hgs | exact Nat.le_succ_of_le hgs | exact hgs2 | exact hgs3) _ | refine Below.drew ?_ | refine bl_drewN ?_ _))⟩
            · rw [hff (by omega)]
              clear hff hft hl
              go_enter Tryd.func94, Tryd.ntmps94
              go_wp2
              go_ret
              exact ⟨rfl, by (repeat (first | exact hB | refine bl_al ?_ _ | refine Below.setCell ?_ (by first | exact hgs | exact Nat.le_succ_of_le hgs | exact hgs2 | exact hgs3) _ | refine Below.drew ?_ | refine bl_drewN ?_ _))⟩
          · rw [hff (by omega)]
            clear hff hft hl
            go_enter Tryd.func94, Tryd.ntmps94
            go_wp2
            go_ret
            exact ⟨rfl, by (repeat (first | exact hB | refine bl_al ?_ _ | refine Below.setCell ?_ (by first | exact hgs | exact Nat.le_succ_of_le hgs | exact hgs2 | exact hgs3) _ | refine Below.drew ?_ | refine bl_drewN ?_ _))⟩
        · rw [hff (by omega)]
          clear hff hft hl
          go_enter Tryd.func94, Tryd.ntmps94
          go_wp2
          go_ret
          exact ⟨rfl, by (repeat (first | exact hB | refine bl_al ?_ _ | refine Below.setCell ?_ (by first | exact hgs | exact Nat.le_succ_of_le hgs | exact hgs2 | exact hgs3) _ | refine Below.drew ?_ | refine bl_drewN ?_ _))⟩
      · rw [hff (by omega)]
        clear hff hft hl
        go_enter Tryd.func94, Tryd.ntmps94
        go_wp2
        go_ret
        exact ⟨rfl, by (repeat (first | exact hB | refine bl_al ?_ _ | refine Below.setCell ?_ (by first | exact hgs | exact Nat.le_succ_of_le hgs | exact hgs2 | exact hgs3) _ | refine Below.drew ?_ | refine bl_drewN ?_ _))⟩
    · rw [hff (by omega)]
      clear hff hft hl
      go_enter Tryd.func94, Tryd.ntmps94
      go_wp2
      go_ret
      exact ⟨rfl, by (repeat (first | exact hB | refine bl_al ?_ _ | refine Below.setCell ?_ (by first | exact hgs | exact Nat.le_succ_of_le hgs | exact hgs2 | exact hgs3) _ | refine Below.drew ?_ | refine bl_drewN ?_ _))⟩
  · rw [hff (by omega)]
    clear hff hft hl
    go_enter Tryd.func94, Tryd.ntmps94
    go_wp2
    go_ret
    exact ⟨rfl, by (repeat (first | exact hB | refine bl_al ?_ _ | refine Below.setCell ?_ (by first | exact hgs | exact Nat.le_succ_of_le hgs | exact hgs2 | exact hgs3) _ | refine Below.drew ?_ | refine bl_drewN ?_ _))⟩

set_option maxHeartbeats 1000000 in
theorem at23_any (ao : Option Addr) (n c : Nat) (zs : List Int) (w : World) (h : Row w ao n c 1 (zs.map (Value.int .u8))) (hz : bytesP zs) (j : Nat) :
    Calls Tryd.prog 139 #[.slice ao n c, .int .i64 (j : Int)] w fun e w' => e = .returned (.int .i64 (atP zs j)) ∧ w = w' := by
  have hl : zs.length = n := by simpa using h.len
  by_cases hj : j < n
  · have hji : (j : Int) < (n : Int) := by omega
    have hj0 : 0 ≤ (j : Int) := by omega
    have hv : zs[j]? = some (atP zs j) := by
      rw [List.getElem?_eq_getElem (by omega)]
      unfold atP
      rw [List.getD_eq_getElem?_getD, List.getElem?_eq_getElem (by omega)]
      rfl
    obtain ⟨b, off, rfl⟩ := row_addr h (by intro e; have := congrArg List.length e; simp [hl] at this; omega)
    have hb := atP_b hz j
    obtain ⟨x, hx⟩ : ∃ x, atP zs j = x := ⟨_, rfl⟩
    have hc := (h.cells _ rfl j (.int .u8 (atP zs j)) (by rw [List.getElem?_map, hv]; rfl)).2
    rw [hx] at hb hc ⊢
    have hw : IntKind.i64.wrap x = x := by rw [IntKind.wrap_i64]; omega
    clear hx hv h hz hl
    go_enter Tryd.func139, Tryd.ntmps139
    go_wp2
    go_ret
    exact ⟨rfl, rfl⟩
  · have hji : ¬ (j : Int) < (n : Int) := by omega
    have e : atP zs j = 0 := by unfold atP; rw [List.getD_eq_getElem?_getD, List.getElem?_eq_none (by omega)]; rfl
    rw [e]
    clear h hz hl e
    go_enter Tryd.func139, Tryd.ntmps139
    go_wp2
    go_ret
    exact ⟨rfl, rfl⟩
set_option maxRecDepth 100000 in
set_option maxHeartbeats 8000000 in
theorem rname_any (j : Nat) (hj : j < 10) (w : World) : Calls Tryd.prog 102 #[.int .i64 (j : Int)] w fun e w' => e = .returned (.string (nmS j)) ∧ Below w.heap.size w w' := by
  have hB := Below.refl w.heap.size w
  have : j = 0 ∨ j = 1 ∨ j = 2 ∨ j = 3 ∨ j = 4 ∨ j = 5 ∨ j = 6 ∨ j = 7 ∨ j = 8 ∨ j = 9 := by omega
  rcases this with rfl | rfl | rfl | rfl | rfl | rfl | rfl | rfl | rfl | rfl <;> (go_enter Tryd.func102, Tryd.ntmps102; go_wp2; go_ret; exact ⟨rfl, by (repeat (first | exact hB | refine bl_al ?_ _ | refine Below.setCell ?_ (by first | exact hgs | exact Nat.le_succ_of_le hgs | exact hgs2 | exact hgs3) _ | refine Below.drew ?_ | refine bl_drewN ?_ _))⟩)
set_option maxHeartbeats 2000000 in
theorem rname_none (k : Int) (hk : ¬ (0 ≤ k ∧ k ≤ 9)) (w : World) : Calls Tryd.prog 102 #[.int .i64 k] w fun e w' => e = .returned (.string ⟨#[]⟩) ∧ Below w.heap.size w w' := by
  have hB := Below.refl w.heap.size w
  by_cases h0 : k < 0
  · go_enter Tryd.func102, Tryd.ntmps102
    go_wp2
    go_ret
    exact ⟨rfl, by (repeat (first | exact hB | refine bl_al ?_ _ | refine Below.setCell ?_ (by first | exact hgs | exact Nat.le_succ_of_le hgs | exact hgs2 | exact hgs3) _ | refine Below.drew ?_ | refine bl_drewN ?_ _))⟩
  · have h9 : 9 < k := by omega
    go_enter Tryd.func102, Tryd.ntmps102
    go_wp2
    go_ret
    exact ⟨rfl, by (repeat (first | exact hB | refine bl_al ?_ _ | refine Below.setCell ?_ (by first | exact hgs | exact Nat.le_succ_of_le hgs | exact hgs2 | exact hgs3) _ | refine Below.drew ?_ | refine bl_drewN ?_ _))⟩
def RPutRel (w : World) (n : Nat) (L : List Stp) (b i : Value) (wr : World) : Prop :=
  ∃ (j : Nat) (bo : Option Addr) (m cap : Nat), j ≤ n ∧ i = .int .i64 j ∧ b = .slice bo m cap ∧ m = (putP ((L.take j).map psOf)).length ∧ OwnN w.heap.size 5 1 wr bo m cap ((putP ((L.take j).map psOf)).map (Value.int .u8)) ∧ Below w.heap.size w wr

set_option maxRecDepth 100000 in
set_option maxHeartbeats 2000000 in
theorem rput_any (ao : Option Addr) (n c : Nat) (L : List Stp) (w : World) (h : Sts w ao n c L) (hn : n ≤ 1000000) :
    Calls Tryd.prog 96 #[.slice ao n c] w fun e w' => ∃ (bo : Option Addr) (cap : Nat), e = .returned (.slice bo (putP (L.map psOf)).length cap) ∧ OwnN w.heap.size 5 1 w' bo (putP (L.map psOf)).length cap ((putP (L.map psOf)).map (Value.int .u8)) ∧ Below w.heap.size w w' := by
  have hL := h.len
  have H := Lib.hid h
  have HL := Lib.hid hL
  have HN := Lib.hid hn
  have hB0 := Below.refl w.heap.size w
  clear h hL hn
  go_enter Tryd.func96, Tryd.ntmps96
  go_wp2
  go_loopw [3, 4] (fun b i wr => RPutRel w n L b i wr) (fun _ i _ => n - (intOf i).toNat)
  case atStart => exact ⟨0, none, 0, 0, Nat.zero_le _, rfl, rfl, by simp [putP], by simpa [putP] using ownN_nil _ _ _ _, hB0⟩
  case round =>
    obtain ⟨j, bo, m, cap, hj, rfl, rfl, hm, hown, hbr⟩ := hrel
    have HO := Lib.hid hown
    have HM := Lib.hid hm
    clear hown hm
    by_cases hlt : j < n
    · obtain ⟨s, hs⟩ : ∃ s, L[j]? = some s := ⟨_, List.getElem?_eq_getElem (by have := HL.out; omega)⟩
      obtain ⟨b, off, rfl⟩ := H.out.addr (by omega)
      have hS := H.out.later hbr
      have hso := H.out.ok s (List.mem_of_getElem? hs)
      obtain ⟨c0, c1, c2, c3⟩ := hS.cells hs
      have hjn : (j : Int) < (n : Int) := by omega
      have HFit := Lib.hid (fun (x : World) (hb : Below w.heap.size w x) => rfits_any s x (hso.later hb))
      have HS := Lib.hid hs
      have HSO := Lib.hid hso
      have hB := hbr
      have hM := Lib.hid (mem_nil wr)
      have hF : True := trivial
      have hbl : b < wr.heap.size := World.block_lt_of_cell? wr ⟨b, _, none⟩ c0
      have hnm : b ≠ wr.heap.size := by omega
      clear hs hso hS
      have hsn : (L.take (j + 1)).map psOf = (L.take j).map psOf ++ [psOf s] := by
        rw [List.take_add_one, HS.out]; simp
      have hw3 : IntKind.i64.wrap ((j : Int) + 1) = ((j + 1 : Nat) : Int) := by rw [IntKind.wrap_i64]; have := HN.out; omega
      by_cases hf : fitsP (psOf s) = true
      · rw [hf] at HFit
        have HSN := Lib.hid (show putP ((L.take (j + 1)).map psOf) = putP ((L.take j).map psOf) ++ (headP (psOf s) ++ s.d) by rw [hsn, putP_snoc, if_pos hf]; rfl)
        obtain ⟨h1, h2, h3, h4⟩ := (fitsP_iff _).1 hf
        have hlen := HSO.out.len
        have hh : [Value.int .u8 (s.k % 256), .int .u8 (s.p % 256), .int .u8 (s.n % 256), .int .u8 (s.n / 256 % 256), .int .u8 ((s.m : Int) % 256), .int .u8 ((s.m : Int) / 256 % 256)] = (headP (psOf s)).map (Value.int .u8) := by
          simp only [psOf] at h1 h2 h3 h4
          unfold headP psOf
          simp only [List.map_cons, List.map_nil, hlen]
          rw [show s.k % 256 = s.k by omega, show s.p % 256 = s.p by omega, show s.n / 256 % 256 = s.n / 256 by omega, show (s.m : Int) / 256 % 256 = (s.m : Int) / 256 by omega]
        have hmb : m ≤ 65541000000 := by
          have a := putP_len ((L.take j).map psOf)
          rw [← HM.out] at a
          have : ((L.take j).map psOf).length ≤ 1000000 := by rw [List.length_map, List.length_take]; have := HN.out; omega
          omega
        have q1 : s.n.tmod 256 = s.n % 256 := Int.tmod_eq_emod_of_nonneg h3.1
        have q2 : s.n.tdiv 256 = s.n / 256 := Int.tdiv_eq_ediv_of_nonneg h3.1
        have q3 : wrap64 (s.n / 256) = s.n / 256 := by simp only [psOf] at h3; unfold wrap64; omega
        have q4 : wrap64 ((s.m : Int) / 256) = (s.m : Int) / 256 := by simp only [psOf] at h4; unfold wrap64; omega
        have HH := Lib.hid hh
        have HMB := Lib.hid hmb
        have HLE := Lib.hid (And.intro hlen h4)
        clear hf hsn h1 h2 h3 h4 hlen hh hmb
        go_wp2_with (first |
          (go_at_call 94; (with_reducible refine (HFit.out _ (by (repeat (first | exact hB | refine bl_al ?_ _ | refine Below.setCell ?_ (by first | exact hgs | exact Nat.le_succ_of_le hgs | exact hgs2 | exact hgs3) _ | refine Below.drew ?_ | refine bl_drewN ?_ _)))).mono ?_); rintro e w1 ⟨rfl, hb⟩; have HB1 := Lib.hid (bl_then (below_alloc wr _) hb); have hB : Below w.heap.size w w1 := (by refine bl_then ?_ hb; (repeat (first | exact hB | refine bl_al ?_ _ | refine Below.setCell ?_ (by first | exact hgs | exact Nat.le_succ_of_le hgs | exact hgs2 | exact hgs3) _ | refine Below.drew ?_ | refine bl_drewN ?_ _))); (first | with_reducible have hM2 := Mem.later hb (hM.out) | with_reducible have hM2 := Mem.later hb (Mem.al (hM.out) _ _) | with_reducible have hM2 := Mem.later hb (Mem.al (Mem.al (hM.out) _ _) _ _) | with_reducible have hM2 := Mem.later hb (Mem.al (Mem.al (Mem.al (hM.out) _ _) _ _) _ _) | with_reducible have hM2 := Mem.later hb (Mem.al (Mem.al (Mem.al (Mem.al (hM.out) _ _) _ _) _ _) _ _) | with_reducible have hM2 := Mem.later hb (Mem.drew (hM.out)) | with_reducible have hM2 := Mem.later hb (Mem.drew (Mem.al (hM.out) _ _)) | with_reducible have hM2 := Mem.later hb (Mem.al (Mem.drew (hM.out)) _ _) | with_reducible have hM2 := Mem.later hb (Mem.al (Mem.drew (Mem.al (hM.out) _ _)) _ _) | with_reducible have hM2 := Mem.later hb (Mem.drew (Mem.al (Mem.al (hM.out) _ _) _ _)) | with_reducible have hM2 := Mem.later hb (Mem.al (Mem.al (Mem.drew (hM.out)) _ _) _ _) | with_reducible have hM2 := Mem.later hb (Mem.drew (Mem.drew (hM.out))) | with_reducible have hM2 := Mem.later hb (Mem.drew (Mem.al (Mem.drew (hM.out)) _ _)) | with_reducible have hM2 := Mem.later hb (Mem.drew (Mem.al (Mem.al (Mem.al (hM.out) _ _) _ _) _ _)) | with_reducible have hM2 := Mem.later hb (Mem.al (Mem.al (Mem.drew (Mem.al (hM.out) _ _)) _ _) _ _) | with_reducible have hM2 := Mem.later hb (Mem.drew (Mem.al (Mem.drew (Mem.al (hM.out) _ _)) _ _)) | with_reducible have hM2 := Mem.later hb (Mem.al (Mem.al (Mem.al (Mem.al (Mem.al (hM.out) _ _) _ _) _ _) _ _) _ _) | with_reducible have hM2 := Mem.later hb (Mem.al (Mem.al (Mem.al (Mem.al (Mem.al (Mem.al (hM.out) _ _) _ _) _ _) _ _) _ _) _ _) | with_reducible have hM2 := Mem.later hb (Mem.al (Mem.al (Mem.al (Mem.al (Mem.al (Mem.al (Mem.al (hM.out) _ _) _ _) _ _) _ _) _ _) _ _) _ _) | with_reducible have hM2 := Mem.later hb (Mem.al (Mem.al (Mem.al (Mem.al (Mem.al (Mem.al (Mem.al (Mem.al (hM.out) _ _) _ _) _ _) _ _) _ _) _ _) _ _) _ _)); (try simp only [World.size_alloc, size_drew] at hM2); clear hM; have hM := Lib.hid hM2; clear hF; have hF := hM2; (try simp only [Mem, cellsAt, World.size_alloc, Nat.zero_add, Nat.reduceAdd, and_true] at hF); clear hM2; clear hb) |
          (refine wpList_appG eltU8 _ rfl (.tmp 23) (.tmp 44) rfl w.heap.size (bl_al hB _).size bo m cap _ rfl (HO.out.later (bl_al HB1.out _)) _ 6 6 ((headP (psOf s)).map (Value.int .u8)) rfl (HH.out ▸ row_new w1 #[Value.int .u8 (s.k % 256), .int .u8 (s.p % 256), .int .u8 (s.n % 256), .int .u8 (s.n / 256 % 256), .int .u8 ((s.m : Int) % 256), .int .u8 ((s.m : Int) / 256 % 256)] 5 6 6 1 rfl (Nat.le_refl _) (by intro u hu; simp at hu; rcases hu with rfl | rfl | rfl | rfl | rfl | rfl <;> rfl)) (fun _ => by decide) (by have := HMB.out; omega) ?_; intro g2 cap2 w3 row3 hown3 hgrow3 hrow3; have hlt3 := own_row_lt HO.out hrow3; have hM3 := Mem.grown hgrow3 (fun p hp k hk => by simp at hp; subst hp; have := (hlt3 k hk).2; simp; omega) (Mem.skip hM.out _); have hB3 := below_grown (bl_al hB _) hgrow3 (fun k hk => (hlt3 k hk).1); have HO3 := Lib.hid hown3; clear hown3 hgrow3 hrow3 hlt3 hM hF hB; have hM := Lib.hid hM3; have hF := hM3; (simp only [Mem, cellsAt, Nat.zero_add, Nat.reduceAdd, and_true] at hF); have hB := hB3; clear hM3 hB3) |
          (refine wpList_appG eltU8 _ rfl (.tmp 46) (.tmp 48) rfl w.heap.size hB.size (some ⟨g2, 0, none⟩) (m + 6) cap2 _ rfl (.inr ⟨g2, rfl, HO3.out⟩) s.ao s.m s.c (s.d.map (Value.int .u8)) rfl (HSO.out.row.later hB) (fun h => by cases h) (by have := HMB.out; have := HLE.out.1; have := HLE.out.2; simp only [psOf] at *; omega) ?_; intro g4 cap4 w4 row4 hown4 hgrow4 hrow4; have hB4 := below_grown hB hgrow4 (fun k hk => (own_row_lt (.inr ⟨g2, rfl, HO3.out⟩) hrow4 k hk).1); have HO4 := Lib.hid hown4; clear hown4 hgrow4 hrow4 hM hF hB))
        have hq : m + 6 + s.m = (putP ((L.take (j + 1)).map psOf)).length := by
          rw [HSN.out, List.length_append, List.length_append, ← HM.out, HLE.out.1, show (headP (psOf s)).length = 6 from rfl]; omega
        have hz : (putP ((L.take (j + 1)).map psOf)).map (Value.int .u8) = (putP ((L.take j).map psOf)).map (Value.int .u8) ++ (headP (psOf s)).map (Value.int .u8) ++ s.d.map (Value.int .u8) := by
          rw [HSN.out, List.map_append, List.map_append, List.append_assoc]
        refine ⟨⟨j + 1, some ⟨g4, 0, none⟩, m + 6 + s.m, cap4, by omega, by first | rfl | go_num, rfl, hq, ?_, hB4⟩, by simp [intOf]; omega⟩
        rw [hz]
        exact .inr ⟨g4, rfl, HO4.out⟩
      · have hff : fitsP (psOf s) = false := by simpa using hf
        rw [hff] at HFit
        have HSN := Lib.hid (show putP ((L.take (j + 1)).map psOf) = putP ((L.take j).map psOf) by rw [hsn, putP_snoc, if_neg hf, List.append_nil])
        clear hf hff hsn
        go_wp2_with (go_at_call 94; (with_reducible refine (HFit.out _ (by (repeat (first | exact hB | refine bl_al ?_ _ | refine Below.setCell ?_ (by first | exact hgs | exact Nat.le_succ_of_le hgs | exact hgs2 | exact hgs3) _ | refine Below.drew ?_ | refine bl_drewN ?_ _)))).mono ?_); rintro e w1 ⟨rfl, hb⟩; have HB1 := Lib.hid (bl_then (below_alloc wr _) hb); have hB : Below w.heap.size w w1 := (by refine bl_then ?_ hb; (repeat (first | exact hB | refine bl_al ?_ _ | refine Below.setCell ?_ (by first | exact hgs | exact Nat.le_succ_of_le hgs | exact hgs2 | exact hgs3) _ | refine Below.drew ?_ | refine bl_drewN ?_ _))); (first | with_reducible have hM2 := Mem.later hb (hM.out) | with_reducible have hM2 := Mem.later hb (Mem.al (hM.out) _ _) | with_reducible have hM2 := Mem.later hb (Mem.al (Mem.al (hM.out) _ _) _ _) | with_reducible have hM2 := Mem.later hb (Mem.al (Mem.al (Mem.al (hM.out) _ _) _ _) _ _) | with_reducible have hM2 := Mem.later hb (Mem.al (Mem.al (Mem.al (Mem.al (hM.out) _ _) _ _) _ _) _ _) | with_reducible have hM2 := Mem.later hb (Mem.drew (hM.out)) | with_reducible have hM2 := Mem.later hb (Mem.drew (Mem.al (hM.out) _ _)) | with_reducible have hM2 := Mem.later hb (Mem.al (Mem.drew (hM.out)) _ _) | with_reducible have hM2 := Mem.later hb (Mem.al (Mem.drew (Mem.al (hM.out) _ _)) _ _) | with_reducible have hM2 := Mem.later hb (Mem.drew (Mem.al (Mem.al (hM.out) _ _) _ _)) | with_reducible have hM2 := Mem.later hb (Mem.al (Mem.al (Mem.drew (hM.out)) _ _) _ _) | with_reducible have hM2 := Mem.later hb (Mem.drew (Mem.drew (hM.out))) | with_reducible have hM2 := Mem.later hb (Mem.drew (Mem.al (Mem.drew (hM.out)) _ _)) | with_reducible have hM2 := Mem.later hb (Mem.drew (Mem.al (Mem.al (Mem.al (hM.out) _ _) _ _) _ _)) | with_reducible have hM2 := Mem.later hb (Mem.al (Mem.al (Mem.drew (Mem.al (hM.out) _ _)) _ _) _ _) | with_reducible have hM2 := Mem.later hb (Mem.drew (Mem.al (Mem.drew (Mem.al (hM.out) _ _)) _ _)) | with_reducible have hM2 := Mem.later hb (Mem.al (Mem.al (Mem.al (Mem.al (Mem.al (hM.out) _ _) _ _) _ _) _ _) _ _) | with_reducible have hM2 := Mem.later hb (Mem.al (Mem.al (Mem.al (Mem.al (Mem.al (Mem.al (hM.out) _ _) _ _) _ _) _ _) _ _) _ _) | with_reducible have hM2 := Mem.later hb (Mem.al (Mem.al (Mem.al (Mem.al (Mem.al (Mem.al (Mem.al (hM.out) _ _) _ _) _ _) _ _) _ _) _ _) _ _) | with_reducible have hM2 := Mem.later hb (Mem.al (Mem.al (Mem.al (Mem.al (Mem.al (Mem.al (Mem.al (Mem.al (hM.out) _ _) _ _) _ _) _ _) _ _) _ _) _ _) _ _)); (try simp only [World.size_alloc, size_drew] at hM2); clear hM; have hM := Lib.hid hM2; clear hF; have hF := hM2; (try simp only [Mem, cellsAt, World.size_alloc, Nat.zero_add, Nat.reduceAdd, and_true] at hF); clear hM2; clear hb)
        refine ⟨⟨j + 1, bo, m, cap, by omega, by first | rfl | go_num, rfl, by rw [HSN.out]; exact HM.out, by rw [HSN.out]; exact HO.out.later HB1.out, hB⟩, by simp [intOf]; omega⟩
    · obtain rfl : j = n := by omega
      have hjj : ¬ (j : Int) < (j : Int) := by omega
      have e : L.take j = L := List.take_of_length_le (by have := HL.out; omega)
      rw [e] at HO HM
      clear e
      go_wp2
      go_ret
      have hm := HM.out
      subst hm
      exact ⟨bo, cap, rfl, HO.out, hbr⟩
end Go.Proofs.YtpdgeiflmnhkfaaDoor
