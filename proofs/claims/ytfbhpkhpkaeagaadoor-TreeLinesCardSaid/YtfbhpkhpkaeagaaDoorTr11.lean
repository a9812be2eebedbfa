/- Package tree: florinlaw15.TreeLines (made by gen_tr11.py). (hM) -/
import Derived.Test.YtfbhpkhpkaeagaaDoorTr9
namespace Go.Proofs.YtfbhpkhpkaeagaaDoor
set_option linter.unusedVariables false
set_option linter.unusedSimpArgs false
open Go.RowKit

theorem rng_of {w : World} {g k : Nat} {vs us : List Value} (h : cellsAt w g 0 vs) (he : ∀ (j : Nat) (u : Value), us[j]? = some u → vs[k + j]? = some u) : w.rangeAt g k us := fun j u hj => cellsAt_get h (he j u hj)
theorem nd_id {w : World} {g : Nat} {X : Nd} (h : cellsAt w g 0 (ndL X)) : w.rangeAt g 0 (b8l X.id 32) := rng_of h fun j u hj => by
  have hlt : j < 32 := by have := (List.getElem?_eq_some_iff.1 hj).1; rwa [b8l_len] at this
  rw [Nat.zero_add, ndL, List.getElem?_append_left (by rw [b8l_len]; exact hlt)]
  exact hj
theorem nd_hd {w : World} {g : Nat} {X : Nd} (h : cellsAt w g 0 (ndL X)) : w.rangeAt g 32 (hdL X.hd) := rng_of h fun j u hj => by
  have hlt : j < 68 := by have := (List.getElem?_eq_some_iff.1 hj).1; rwa [hdL_len] at this
  rw [ndL_hd X j hlt]
  exact hj
theorem nd_pv {w : World} {g : Nat} {X : Nd} (h : cellsAt w g 0 (ndL X)) : w.rangeAt g 33 (b8l X.hd.p 32) := fun j u hj => by
  have h1 : w.rangeAt g 32 (hdL X.hd) := nd_hd h
  have hlt : j < 32 := by have := (List.getElem?_eq_some_iff.1 hj).1; rwa [b8l_len] at this
  have := h1 (1 + j) u (by rw [hdL_p _ _ hlt, ← hj, b8l_get _ _ _ hlt])
  rw [← this]
  congr 2
  omega
theorem nd_wk {w : World} {g : Nat} {X : Nd} (h : cellsAt w g 0 (ndL X)) : w.rangeAt g 102 (uL X.wk) := rng_of h fun j u hj => by
  rw [show 102 + j = 100 + (2 + j) by omega, ndL_s, ← hj]
  unfold uL
  rw [show 2 + j = j + 1 + 1 by omega, List.getElem?_cons_succ, List.getElem?_cons_succ]
theorem s15_of {x : World} {g8 G k H : Nat} {X : Nd} {ls : List Nd} (h : Mem x [(g8, ndL X), (G, linL ls k H 0)]) (hh : (H : Int) = X.ht) (h1 : (linL ls k H 0)[H]? = some (.int .i64 (k : Int))) (h2 : (linL ls k H 0)[0]? = some (.int .i64 0)) :
    Mem x [(g8, ndL X), (G, linL ls k H 0)] ∧ x.cell? ⟨g8, 101, none⟩ = some (.int .i64 (H : Int)) ∧ x.cell? ⟨G, H, none⟩ = some (.int .i64 (k : Int)) ∧ x.cell? ⟨G, 0, none⟩ = some (.int .i64 0) :=
  ⟨h, by rw [hh]; exact cellsAt_get (Mem.get h (by simp)) (ndL_ht X), cellsAt_get (Mem.get (b := G) (vs := linL ls k H 0) h (by simp)) h1, cellsAt_get (Mem.get (b := G) (vs := linL ls k H 0) h (by simp)) h2⟩

section
variable {P : Program} {ops : List Oper} {Q : Exit → Act → World → Prop} {S : World → Prop} {E : Act → Prop} {rest : List Nat} {a : Act} {w : World} {i : Nat} {o : Oper} {v : Value}
theorem wpG_callT {f : Nat} {args : Array Value} (hSb : ∀ w w', S w → Below w.heap.size w w' → S w') (hc : ∀ w, S w → Calls P f args w fun e w' => e = .returned v ∧ Below w.heap.size w w')
    (ho : ops[i]? = some o) (hw : Region.wanted o (yielded ops.toArray a.tmps) = true) (hy : ∀ w, S w → (execOp a.eval o).run P w = .ok (.enter f args) w)
    (h : wpG P ops.toArray S E rest (a.put o.dst v)) : wpG P ops.toArray S E (i :: rest) a :=
  ⟨o, v, by simpa using ho, .inl ⟨hw, fun w hS => by
    rw [hy w hS]
    exact (hc w hS).mono fun e w' h => ⟨h.1, hSb _ _ hS h.2, h.2⟩⟩, h⟩
end
theorem neq_u (n : Int) (w : World) : (binOp .neq 42 (.agg (uL n).toArray) (.agg (uL n).toArray)).run Tryd.prog w = .ok (.bool false) w := by
  have := neqArr Tryd.prog 4 42 40 .u64 Tryd.underlying42 Tryd.underlying40 (by kernel_rfl) [P0 n, P1 n, P2 n, P3 n] [P0 n, P1 n, P2 n, P3 n] rfl rfl w
  rw [show (!([P0 n, P1 n, P2 n, P3 n] == [P0 n, P1 n, P2 n, P3 n])) = false by simp] at this
  exact this
def S19 (X Y : Nd) (lin : List Value) (g8 g12 G : Nat) (w0 x : World) : Prop := Mem x [(g12, ndL Y), (g8, ndL X), (G, lin)] ∧ Below w0.heap.size w0 x ∧ x.cell? ⟨g8, 98, none⟩ = some (.int .u32 X.hd.b) ∧
  x.cell? ⟨g12, 102, none⟩ = some (.int .u64 (P0 Y.wk)) ∧ x.cell? ⟨g12, 103, none⟩ = some (.int .u64 (P1 Y.wk)) ∧ x.cell? ⟨g12, 104, none⟩ = some (.int .u64 (P2 Y.wk)) ∧ x.cell? ⟨g12, 105, none⟩ = some (.int .u64 (P3 Y.wk))
theorem s19_of {X Y : Nd} {lin : List Value} {g8 g12 G : Nat} {w0 x : World} (h : Mem x [(g12, ndL Y), (g8, ndL X), (G, lin)]) (hb : Below w0.heap.size w0 x) : S19 X Y lin g8 g12 G w0 x := by
  have m8 := Mem.get (b := g8) (vs := ndL X) h (by simp)
  have m12 := Mem.get (b := g12) (vs := ndL Y) h (by simp)
  refine ⟨h, hb, cellsAt_get m8 ?_, cellsAt_get m12 (ndL_s Y 2), cellsAt_get m12 (ndL_s Y 3), cellsAt_get m12 (ndL_s Y 4), cellsAt_get m12 (ndL_s Y 5)⟩
  rw [show 98 = 32 + 66 from rfl, ndL_hd X 66 (by omega)]
  exact hdL_b X.hd
theorem s19_later {X Y : Nd} {lin : List Value} {g8 g12 G : Nat} {w0 : World} (x y : World) (h : S19 X Y lin g8 g12 G w0 x) (hb : Below x.heap.size x y) : S19 X Y lin g8 g12 G w0 y := s19_of (Mem.later hb h.1) (bl_then h.2.1 hb)
theorem s20_of {x : World} {g14 g12 g8 G k H Hp j : Nat} {X Y : Nd} {ls : List Nd} (h : Mem x [(g14, uL X.wk), (g12, ndL Y), (g8, ndL X), (G, linL ls k H 0)]) (hh : (H : Int) = X.ht) (hp : (Hp : Int) = Y.ht) (hj : X.par = (j : Int)) (h1 : (linL ls k H 0)[Hp]? = some (.int .i64 (j : Int))) :
    Mem x [(g14, uL X.wk), (g12, ndL Y), (g8, ndL X), (G, linL ls k H 0)] ∧ x.cell? ⟨g8, 101, none⟩ = some (.int .i64 (H : Int)) ∧ x.cell? ⟨g12, 101, none⟩ = some (.int .i64 (Hp : Int)) ∧ x.cell? ⟨g8, 100, none⟩ = some (.int .i64 (j : Int)) ∧ x.cell? ⟨G, Hp, none⟩ = some (.int .i64 (j : Int)) :=
  ⟨h, by rw [hh]; exact cellsAt_get (Mem.get h (by simp)) (ndL_ht X), by rw [hp]; exact cellsAt_get (Mem.get (b := g12) (vs := ndL Y) h (by simp)) (ndL_ht Y), by rw [← hj]; exact cellsAt_get (Mem.get (b := g8) (vs := ndL X) h (by simp)) (ndL_par X), cellsAt_get (Mem.get (b := G) (vs := linL ls k H 0) h (by simp)) h1⟩

def LlRel (w : World) (m : Nat) (i : Value) (wr : World) : Prop := ∃ k : Nat, i = .int .i64 k ∧ k ≤ m ∧ Below w.heap.size w wr

set_option maxRecDepth 100000 in
theorem tl_early (lo : Option Addr) (n lc : Nat) (w : World) (hT : Tab w) (hbig : 40 < n) :
    Calls Tryd.prog 4 #[.slice lo n lc] w fun e w' => e = .returned (.bool true) ∧ Below w.heap.size w w' := by
  have HA := Lib.hid (fun (x : World) (hb : Below w.heap.size w x) => awake15_any x (hT.later hb))
  have hB := Below.refl w.heap.size w
  have hM := Lib.hid (mem_nil w)
  have hF : True := trivial
  clear hT
  have e1 : 40 < (n : Int) := by omega
  clear hbig
  go_enter Tryd.func4, Tryd.ntmps4
  go_wp2_with (go_at_call 8; (with_reducible refine (HA.out _ (by (repeat (first | exact hB | refine bl_al ?_ _ | refine Below.setCell ?_ (by first | exact hgs | exact Nat.le_succ_of_le hgs | exact hgs2 | exact hgs3) _ | refine Below.drew ?_ | refine bl_drewN ?_ _)))).mono ?_); rintro e w1 ⟨rfl, hb⟩; have hB : Below w.heap.size w w1 := (by refine bl_then ?_ hb; (repeat (first | exact hB | refine bl_al ?_ _ | refine Below.setCell ?_ (by first | exact hgs | exact Nat.le_succ_of_le hgs | exact hgs2 | exact hgs3) _ | refine Below.drew ?_ | refine bl_drewN ?_ _))); (first | with_reducible have hM2 := Mem.later hb (hM.out) | with_reducible have hM2 := Mem.later hb (Mem.al (hM.out) _ _) | with_reducible have hM2 := Mem.later hb (Mem.al (Mem.al (hM.out) _ _) _ _) | with_reducible have hM2 := Mem.later hb (Mem.al (Mem.al (Mem.al (hM.out) _ _) _ _) _ _) | with_reducible have hM2 := Mem.later hb (Mem.al (Mem.al (Mem.al (Mem.al (hM.out) _ _) _ _) _ _) _ _) | with_reducible have hM2 := Mem.later hb (Mem.drew (hM.out)) | with_reducible have hM2 := Mem.later hb (Mem.drew (Mem.al (hM.out) _ _)) | with_reducible have hM2 := Mem.later hb (Mem.al (Mem.drew (hM.out)) _ _) | with_reducible have hM2 := Mem.later hb (Mem.al (Mem.drew (Mem.al (hM.out) _ _)) _ _) | with_reducible have hM2 := Mem.later hb (Mem.drew (Mem.al (Mem.al (hM.out) _ _) _ _)) | with_reducible have hM2 := Mem.later hb (Mem.al (Mem.al (Mem.drew (hM.out)) _ _) _ _) | with_reducible have hM2 := Mem.later hb (Mem.drew (Mem.drew (hM.out))) | with_reducible have hM2 := Mem.later hb (Mem.drew (Mem.al (Mem.drew (hM.out)) _ _)) | with_reducible have hM2 := Mem.later hb (Mem.drew (Mem.al (Mem.al (Mem.al (hM.out) _ _) _ _) _ _)) | with_reducible have hM2 := Mem.later hb (Mem.al (Mem.al (Mem.drew (Mem.al (hM.out) _ _)) _ _) _ _) | with_reducible have hM2 := Mem.later hb (Mem.drew (Mem.al (Mem.drew (Mem.al (hM.out) _ _)) _ _)) | with_reducible have hM2 := Mem.later hb (Mem.al (Mem.al (Mem.al (Mem.al (Mem.al (hM.out) _ _) _ _) _ _) _ _) _ _) | with_reducible have hM2 := Mem.later hb (Mem.al (Mem.al (Mem.al (Mem.al (Mem.al (Mem.al (hM.out) _ _) _ _) _ _) _ _) _ _) _ _) | with_reducible have hM2 := Mem.later hb (Mem.al (Mem.al (Mem.al (Mem.al (Mem.al (Mem.al (Mem.al (hM.out) _ _) _ _) _ _) _ _) _ _) _ _) _ _) | with_reducible have hM2 := Mem.later hb (Mem.al (Mem.al (Mem.al (Mem.al (Mem.al (Mem.al (Mem.al (Mem.al (hM.out) _ _) _ _) _ _) _ _) _ _) _ _) _ _) _ _)); (try simp only [World.size_alloc, size_drew] at hM2); clear hM; have hM := Lib.hid hM2; clear hF; have hF := hM2; (try simp only [Mem, cellsAt, World.size_alloc, Nat.zero_add, Nat.reduceAdd, and_true] at hF); clear hM2; clear hb)
  go_ret
  exact ⟨rfl, by (repeat (first | exact hB | refine bl_al ?_ _ | refine Below.setCell ?_ (by first | exact hgs | exact Nat.le_succ_of_le hgs | exact hgs2 | exact hgs3) _ | refine Below.drew ?_ | refine bl_drewN ?_ _))⟩

set_option maxRecDepth 100000 in
set_option maxHeartbeats 8000000 in
theorem tl_walk (L : Nat → Hd) (hL : ∀ i, HdOk (L i)) (lo : Option Addr) (n lc : Nat) (w : World) (hT : Tab w) (hr : SRow w lo n lc 68 (fun i => hdL (L i))) (hsp : ∀ ad, lo = some ad → ad.spot = none) (hn : n ≤ 40) :
    Calls Tryd.prog 4 #[.slice lo n lc] w fun e w' => e = .returned (.bool true) ∧ Below w.heap.size w w' := by
  have HA := Lib.hid (fun (x : World) (hb : Below w.heap.size w x) => awake15_any x (hT.later hb))
  have HNw := Lib.hid (fun (x : World) => tnew_any 60 (.inr (.inl rfl)) x)
  have HRow := Lib.hid hr
  have HL := Lib.hid hL
  have HT := Lib.hid hT
  have HN := Lib.hid hn
  have HSp := Lib.hid hsp
  have e1 : ¬ 40 < (n : Int) := by omega
  have hB := Below.refl w.heap.size w
  clear hT hL hr hn hsp
  go_enter Tryd.func4, Tryd.ntmps4
  go_wp2_with (first |
    (go_at_call 8; (with_reducible refine (HA.out _ hB).mono ?_); rintro e w1 ⟨rfl, hb⟩; have hB2 := bl_then hB hb; clear hB; have hB := hB2; clear hB2 hb) |
    (go_at_call 9; (with_reducible refine (HNw.out _).mono ?_); rintro e w2 ⟨g, rfl, htr, hb⟩; have HTr := Lib.hid (htr w.heap.size hB.size); have hB2 := bl_then hB hb; clear hB; have hB := hB2; clear hB2 hb htr))
  have HB0 := Lib.hid hB
  clear hB
  go_loopw [5] (fun i wr => ThRel w g n i wr) (fun i _ => n + 1 - (intOf i).toNat)
  case atStart => exact ⟨0, rfl, Nat.zero_le _, 0, [], HTr.out, tw_nil, .inl ⟨rfl, rfl⟩, Nat.zero_le _, fun h => absurd h (by omega), HB0.out⟩
  case round =>
    obtain ⟨k, rfl, hkn, best, ls, htr, htw, hbt, hls, hne, hB⟩ := hrel
    clear HB0 HTr
    by_cases hlt : k < n
    · obtain ⟨b, off, rfl⟩ := HRow.out.addr (by decide) (by omega)
      have hki : (k : Int) < (n : Int) := by omega
      have hn40 := HN.out
      have hw1 : IntKind.i64.wrap ((k : Int) + 1) = (((k + 1 : Nat)) : Int) := by rw [IntKind.wrap_i64]; omega
      have hbl : b < w.heap.size := HRow.out.lt (by decide) (by omega) _ rfl
      have hR : wr.rangeAt b (off + k * 68) (hdL (L k)) := fun i v hv => (hB.cell (p := ⟨b, _, none⟩) hbl).trans (srow_head HRow.out k hlt i v hv)
      have HAd := Lib.hid (tadd_any htr htw hbt (by omega) (L k) (HL.out k) (HT.out.later hB))
      have HD := Lib.hid (And.intro hlt hls)
      have HBr := Lib.hid hB
      clear htr htw hbt hls hne hkn hlt hn40 hB hbl
      go_wp2_with (first |
        ((with_reducible_and_instances refine at_load 31 ?_); refine Go.wpList_load_mid rfl 26 (.tmp 31) rfl b (off + k * 68) rfl (hdL (L k)) _ hR Tryd.underlying26 rfl (by rw [hdL_len]; kernel_rfl) ?_) |
        (go_at_call 10; (with_reducible refine (HAd.out).mono ?_); rintro e w3 ⟨i, er, best', l', rfl, hadd, htr, htw, hbt, hb, hkt⟩; have HE := Lib.hid (And.intro (addR_len hadd (by decide)) (And.intro htr (And.intro htw (And.intro hbt (HBr.out.trans hb))))); clear hadd htr htw hbt hb hkt))
      obtain ⟨⟨q1, q2⟩, q3, q4, q5, q6⟩ := HE.out
      obtain ⟨q7, q8⟩ := HD.out
      exact ⟨⟨k + 1, by go_num, by omega, best', l', q3, q4, q5, by omega, fun _ => q2, q6⟩, by simp [intOf]; omega⟩
    · have hki : ¬ (k : Int) < (n : Int) := by omega
      obtain ⟨m, hm⟩ : ∃ m, ls.length = m := ⟨_, rfl⟩
      have HTr := Lib.hid htr
      have HW := Lib.hid htw
      have HMm := Lib.hid (And.intro hm (show m ≤ n by omega))
      have HBo := Lib.hid hB
      have hBW := hB.size
      clear htr htw hbt hls hne hkn hlt hm hB
      rename World => wo
      go_wp2
      go_loopw [6] (fun i wr => LlRel wo m i wr) (fun i _ => m + 1 - (intOf i).toNat)
      case atStart => exact ⟨0, rfl, Nat.zero_le _, Below.refl _ _⟩
      case round =>
        clear hki
        obtain ⟨k, rfl, hkm, hBo⟩ := hrel
        have htr := HTr.out.later hBo
        have hm := HMm.out.1
        have hmn := HMm.out.2
        have hn40 := HN.out
        have HBr := Lib.hid hBo
        have HLn := Lib.hid (fun (x : World) (hb : Below wr.heap.size wr x) => tlen_any (htr.later hb))
        rw [hm] at HLn
        have hB := Below.refl wr.heap.size wr
        have hM := Lib.hid (mem_nil wr)
        by_cases hlt : k < m
        · have hki : (k : Int) < (m : Int) := by omega
          have hkl : k < ls.length := by omega
          have hw1 : IntKind.i64.wrap ((k : Int) + 1) = (((k + 1 : Nat)) : Int) := by rw [IntKind.wrap_i64]; omega
          obtain ⟨X, hX⟩ := get_lt hkl
          have ho := HW.out k X hX
          have hXh := htN_of HW.out hX
          have hH1 := ho.ht1
          obtain ⟨H, hH⟩ : ∃ H, htN ls k = H := ⟨_, rfl⟩
          obtain ⟨N, hN⟩ : ∃ N, H + 1 = N := ⟨_, rfl⟩
          rw [hH] at hXh
          have HLi := Lib.hid (fun (x : World) (hb : Below wr.heap.size wr x) => hH ▸ tline_any (htr.later hb) HW.out (by omega) k hkl)
          rw [hN] at HLi
          have HNd := Lib.hid (fun (x : World) (hb : Below wr.heap.size wr x) => tnode_yes (htr.later hb) k X hX)
          have HFd := Lib.hid (fun (x : World) (hb : Below wr.heap.size wr x) => tfind_any (htr.later hb) X.id (k : Int) true (by rw [ho.fd]; rfl) (by rw [ho.fd]; rfl))
          have HId := Lib.hid (fun (x : World) (hb : Below wr.heap.size wr x) => ho.id ▸ hid_any X.hd ho.hd x (HT.out.later (bl_then (bl_then HBo.out HBr.out) hb)))
          have HY := Lib.hid hXh
          have HLH : Hid ((linL ls k H 0)[H]? = some (.int .i64 (k : Int))) := Lib.hid (by rw [linL_get ls k H H (Nat.le_refl _), Nat.sub_self]; rfl)
          have HL0 : Hid ((linL ls k H 0)[0]? = some (.int .i64 0)) := Lib.hid (by rw [linL_get ls k H 0 (Nat.zero_le _), Nat.sub_zero, ← hH, anc_top HW.out hkl]; rfl)
          have hwH : IntKind.i64.wrap ((H : Int) + 1) = (N : Int) := by rw [IntKind.wrap_i64]; omega
          have hwN : IntKind.i64.wrap ((N : Int) - 1) = (H : Int) := by rw [IntKind.wrap_i64]; omega
          have hHN : (H : Int) < (N : Int) := by omega
          have hN0 : 0 < N := by omega
          have hNe := neq_hash X.id X.id false (by simp)
          have hz0 : ∀ x : World, (zeroValue 44).run Tryd.prog x = .ok (.agg (ndL nd0).toArray) x := fun x => by kernel_rfl
          have HOk := Lib.hid ho
          have HTr2 := Lib.hid htr
          have HX := Lib.hid hX
          have HK := Lib.hid (And.intro hlt (And.intro hkl (And.intro hH (And.intro hN (show H ≤ 1000 by omega)))))
          clear htr hm hmn hn40 hBo hkm hlt hkl ho hXh hH1 hH hN hX
          go_wp2_with (first |
            (go_at_call 16; (with_reducible refine (HLn.out _ hB).mono ?_); rintro e w3 ⟨rfl, hb⟩; have hB2 := bl_then hB hb; have hM2 := Lib.hid (hM.out.later hb); clear hB hM; have hB := hB2; have hM := hM2; clear hB2 hM2 hb) |
            (go_at_call 17; (with_reducible refine (HLi.out _ hB).mono ?_); rintro e w4 ⟨G, rfl, hmG, hb⟩; have hB2 := bl_then hB hb; have hM2 := Lib.hid (hmG); clear hB hM; have hB := hB2; have hM := hM2; clear hB2 hM2 hb; clear hmG) |
            (go_at_call 12; (with_reducible refine (HNd.out _ hB).mono ?_); rintro e w5 ⟨rfl, hb⟩; have hB2 := bl_then hB hb; have hM2 := Lib.hid (hM.out.later hb); clear hB hM; have hB := hB2; have hM := hM2; clear hB2 hM2 hb) |
            ((with_reducible_and_instances refine at_store 8 ?_); refine wpList_store_newV rfl (.tmp 8) (.tmp 47) 44 rfl _ (ndL X) _ Tryd.underlying44 rfl (by rw [ndL_len]; kernel_rfl) (by rw [ndL_len]; rfl) (ndL_one X) rfl (rfl) hM.out ?_; intro W6 hMW hbW; have hBW := bl_then hB hbW; obtain ⟨g8, hg0⟩ : ∃ b, w5.heap.size = b := ⟨_, rfl⟩; rw [hg0] at hMW; simp only [hg0]; clear hg0; clear hM hB; have hM := Lib.hid hMW; have hB := hBW; clear hMW hbW hBW) |
            ((with_reducible_and_instances refine at_load 51 ?_); refine Go.wpList_load_mid rfl 24 (.tmp 51) rfl g8 0 rfl (b8l X.id 32) _ (nd_id (Mem.get hM.out (by simp))) Tryd.underlying24 rfl (by rw [b8l_len]; kernel_rfl) ?_) |
            (go_at_call 13; (with_reducible refine (HFd.out _ hB).mono ?_); rintro e w7 ⟨rfl, hb⟩; have hB2 := bl_then hB hb; have hM2 := Lib.hid (hM.out.later hb); clear hB hM; have hB := hB2; have hM := hM2; clear hB2 hM2 hb; have ch := cellsAt_get (Mem.get (b := g8) (vs := ndL X) hM.out (by simp)) (ndL_ht X); rw [← HY.out] at ch; have cp := cellsAt_get (Mem.get (b := g8) (vs := ndL X) hM.out (by simp)) (ndL_par X)))
          refine wp_plan (fun x => Mem x [(g8, ndL X), (G, linL ls k H 0)] ∧ x.cell? ⟨g8, 101, none⟩ = some (.int .i64 (H : Int)) ∧ x.cell? ⟨G, H, none⟩ = some (.int .i64 (k : Int)) ∧ x.cell? ⟨G, 0, none⟩ = some (.int .i64 0)) [36] [0, 1, 2, 3, 4, 5, 6, 7, 8, 9, 10, 11, 12, 13, 14, 15, 16, 17, 18, 19, 20, 21, 22, 23, 24, 25, 26, 27, 28, 29, 30, 31, 32, 33, 34, 35, 36, 37, 38] (by kernel_rfl) (by kernel_rfl) (s15_of hM.out.drew HY.out HLH.out HL0.out) (fun hHeld => ?_)
          iterate 33 (refine wpT_take rfl (by rfl) (by rfl) (by intro w' hSw; (try dsimp only [Mem, cellsAt] at hSw); go_simp; (try with_reducible rfl)) (by assumption) ?_; (try simp only [Act.put, List.setIfInBounds_toArray, List.set_cons_zero, List.set_cons_succ]))
          (refine wpT_yield rfl (by rfl) (Go.yieldsIf_load_mid (by rfl) 24 (.tmp 88) rfl g8 (0) rfl (b8l X.id 32) _ (fun w' h => nd_id (Mem.get h.1 (by simp))) Tryd.underlying24 rfl (by rw [b8l_len]; kernel_rfl)) (by assumption) ?_; (try simp only [Act.put, List.setIfInBounds_toArray, List.set_cons_zero, List.set_cons_succ]))
          iterate 1 (refine wpT_take rfl (by rfl) (by rfl) (by intro w' hSw; (try dsimp only [Mem, cellsAt] at hSw); go_simp; (try with_reducible rfl)) (by assumption) ?_; (try simp only [Act.put, List.setIfInBounds_toArray, List.set_cons_zero, List.set_cons_succ]))
          (refine wpT_yield rfl (by rfl) (Go.yieldsIf_load_mid (by rfl) 26 (.tmp 90) rfl g8 (32) rfl (hdL X.hd) _ (fun w' h => nd_hd (Mem.get h.1 (by simp))) Tryd.underlying26 rfl (by rw [hdL_len]; kernel_rfl)) (by assumption) ?_; (try simp only [Act.put, List.setIfInBounds_toArray, List.set_cons_zero, List.set_cons_succ]))
          (refine wpT_step rfl (by rfl) (fun K hK => ?_); go_simp)
          (refine (HId.out _ (hB.drew)).mono ?_; rintro e w8 ⟨rfl, hb⟩; have hB2 := bl_then hB.drew hb; have hM2 := Lib.hid (hM.out.drew.later hb); clear hB hM ch; have hB := hB2; have hM := hM2; clear hB2 hM2 hb; have ch := cellsAt_get (Mem.get (b := g8) (vs := ndL X) hM.out (by simp)) (ndL_ht X); rw [← HY.out] at ch; (refine hK.out _ _ _ (fun _ h => h) (s15_of hM.out HY.out HLH.out HL0.out) (fun hHeld => ?_); clear hK; clear K; (try simp only [Act.put, List.setIfInBounds_toArray, List.set_cons_zero, List.set_cons_succ])))
          iterate 2 (refine wpT_take rfl (by rfl) (by rfl) (by intro w' hSw; (try dsimp only [Mem, cellsAt] at hSw); go_simp; (try with_reducible rfl)) (by assumption) ?_; (try simp only [Act.put, List.setIfInBounds_toArray, List.set_cons_zero, List.set_cons_succ]))
          (refine wpT_nil ?_)
          by_cases h0 : H = 0
          · have k0 : ¬ (0 : Int) < (H : Int) := by omega
            have HH0 := Lib.hid h0
            clear h0
            go_wp2
            exact ⟨⟨k + 1, by go_num, by have := HK.out.1; omega, bl_then HBr.out hB⟩, by have := HK.out.1; simp [intOf]; omega⟩
          · have k0 : (0 : Int) < (H : Int) := by omega
            rcases HOk.out.up with ⟨_, _, h2, _⟩ | ⟨j, Y, hj, hY, hpar, hht, hpv, hwk⟩
            · exfalso
              have := HY.out
              omega
            obtain ⟨v1, v2, v3, v4, v5⟩ := HK.out
            have hoY := HW.out j Y hY
            have hYh := htN_of HW.out hY
            obtain ⟨Hp, hHp⟩ : ∃ Hp, htN ls j = Hp := ⟨_, rfl⟩
            rw [hHp] at hYh
            have hHY := HY.out
            have hpr : prN ls k = j := by unfold prN; rw [HX.out]; show X.par.toNat = j; rw [hpar]; simp
            have HLp : Hid ((linL ls k H 0)[Hp]? = some (.int .i64 (j : Int))) := Lib.hid (by rw [linL_get ls k H Hp (by omega), show H - Hp = 1 by omega]; show some (Value.int .i64 ((prN ls k : Nat) : Int)) = _; rw [hpr])
            have HNp := Lib.hid (fun (x : World) (hb : Below wr.heap.size wr x) => tnode_yes (HTr2.out.later hb) j Y hY)
            have HWk := Lib.hid (fun (x : World) => work_u X.hd.b HOk.out.hd.b x)
            have hAd := fun (x : World) => add_u hoY.wk (workV_nn X.hd.b HOk.out.hd.b) x
            rw [← hwk] at hAd
            obtain ⟨cb, hcb⟩ : ∃ cb, decide (WW ≤ Y.wk + workV X.hd.b) = cb := ⟨_, rfl⟩
            rw [hcb] at hAd
            have HAd := Lib.hid hAd
            have HYp := Lib.hid hYh
            have HPr := Lib.hid hpar
            have hNe2 := neq_hash X.hd.p Y.id false (by rw [hpv]; simp)
            have hNe3 := neq_u X.wk
            have hw20 : IntKind.i64.wrap ((N : Int) - 2) = (Hp : Int) := by rw [IntKind.wrap_i64]; omega
            have hwp : IntKind.i64.wrap ((Hp : Int) + 1) = (H : Int) := by rw [IntKind.wrap_i64]; omega
            have hHpN : (Hp : Int) < (N : Int) := by omega
            have hjk : ¬ (k : Int) ≤ (j : Int) := by omega
            have hjk2 : decide ((k : Int) ≤ (j : Int)) = false := decide_eq_false (by omega)
            clear cp
            have cp := cellsAt_get (Mem.get (b := g8) (vs := ndL X) hM.out (by simp)) (ndL_par X)
            rw [hpar] at cp
            clear hoY hYh hHp hHY hpr hAd hcb hj hY hpar hht hpv hwk h0 v1 v2 v3 v4 v5 hNe hHeld
            go_wp2_with (first |
              (go_at_call 12; (with_reducible refine (HNp.out _ hB).mono ?_); rintro e w9 ⟨rfl, hb⟩; have hB2 := bl_then hB hb; have hM2 := Lib.hid (hM.out.later hb); clear hB hM; have hB := hB2; have hM := hM2; clear hB2 hM2 hb) |
              ((with_reducible_and_instances refine at_store 12 ?_); refine wpList_store_newV rfl (.tmp 12) (.tmp 103) 44 rfl _ (ndL Y) _ Tryd.underlying44 rfl (by rw [ndL_len]; kernel_rfl) (by rw [ndL_len]; rfl) (ndL_one Y) rfl (rfl) hM.out ?_; intro W10 hMW hbW; have hBW := bl_then hB hbW; obtain ⟨g12, hg0⟩ : ∃ b, w9.heap.size = b := ⟨_, rfl⟩; rw [hg0] at hMW; simp only [hg0]; clear hg0; clear hM hB; have hM := Lib.hid hMW; have hB := hBW; clear hMW hbW hBW))
            have hBs := hB.size
            have hLt := Lib.hid (Mem.lt hM.out)
            refine wp_float (S19 X Y (linL ls k H 0) g8 g12 G wr) (fun _ => .cells #[.int .u64 0, .int .u64 0, .int .u64 0, .int .u64 0] 42) [0, 1, 2, 3, 4, 5, 6, 7, 8, 9] [10] [11, 12] [9] (by kernel_rfl) (by kernel_rfl) ?_ s19_later (s19_of hM.out hB) ?_
            · intro q hq
              simp only [List.mem_cons, List.not_mem_nil, or_false] at hq
              subst hq
              exact ⟨_, rfl, rfl, fun a w => by go_simp; rfl⟩
            iterate 5 (refine wpG_take rfl (by rfl) (by intro w' hSw; (try dsimp only [S19] at hSw); go_simp; (try with_reducible rfl)) ?_; (try simp only [Act.put, List.setIfInBounds_toArray, List.set_cons_zero, List.set_cons_succ]))
            (refine wpG_callT s19_later (fun x hx => HWk.out x) rfl (by rfl) (by intro w' hSw; go_simp; (try with_reducible rfl)) ?_; (try simp only [Act.put, List.setIfInBounds_toArray, List.set_cons_zero, List.set_cons_succ]))
            (refine wpG_callT s19_later (fun x hx => HAd.out x) rfl (by rfl) (by intro w' hSw; go_simp; (try with_reducible rfl)) ?_; (try simp only [Act.put, List.setIfInBounds_toArray, List.set_cons_zero, List.set_cons_succ]))
            iterate 3 (refine wpG_take rfl (by rfl) (by intro w' hSw; (try dsimp only [S19] at hSw); go_simp; (try with_reducible rfl)) ?_; (try simp only [Act.put, List.setIfInBounds_toArray, List.set_cons_zero, List.set_cons_succ]))
            (refine wpG_nil ?_)
            intro GG w11 hG hSw hbx hsz
            obtain ⟨g14, eg, hlg, hbm⟩ := box_one hG hbx 10 (by simp) (vs := [.int .u64 0, .int .u64 0, .int .u64 0, .int .u64 0]) rfl
            simp only [putAll, eg, dstOf, ptrOf, List.getElem?_toArray, List.getElem?_cons_zero, List.getElem?_cons_succ, Option.bind_some, Act.put, List.setIfInBounds_toArray, List.set_cons_zero, List.set_cons_succ]
            have n2 : Mem (wset4 w11 g14 (P0 X.wk) (P1 X.wk) (P2 X.wk) (P3 X.wk)) [(g14, uL X.wk), (g12, ndL Y), (g8, ndL X), (G, linL ls k H 0)] := set_one hLt.out hlg hbm hSw.1 (P0 X.wk) (P1 X.wk) (P2 X.wk) (P3 X.wk)
            have hB2 := bl_set4 (P0 X.wk) (P1 X.wk) (P2 X.wk) (P3 X.wk) (Nat.le_trans hBs hlg) hSw.2.1
            have hF := hbm
            simp only [Mem, cellsAt, Nat.zero_add, Nat.reduceAdd, and_true] at hF
            (refine wpOps_go rfl ?_; go_simp)
            change wpOps _ _ _ _ _ (wset4 w11 g14 (P0 X.wk) (P1 X.wk) (P2 X.wk) (P3 X.wk))
            clear hF hSw hbx hG hsz hBs hLt eg hlg hbm hM hB
            generalize wset4 w11 g14 (P0 X.wk) (P1 X.wk) (P2 X.wk) (P3 X.wk) = w12 at *
            (refine wpOps_go rfl ?_; go_simp)
            refine wpOps_none ?_
            have hM := Lib.hid n2
            have hB := hB2
            clear n2 hB2
            go_wp2
            refine wp_plan (fun x => Mem x [(g14, uL X.wk), (g12, ndL Y), (g8, ndL X), (G, linL ls k H 0)] ∧ x.cell? ⟨g8, 101, none⟩ = some (.int .i64 (H : Int)) ∧ x.cell? ⟨g12, 101, none⟩ = some (.int .i64 (Hp : Int)) ∧ x.cell? ⟨g8, 100, none⟩ = some (.int .i64 (j : Int)) ∧ x.cell? ⟨G, Hp, none⟩ = some (.int .i64 (j : Int))) [] [0, 1, 2, 3, 4, 5, 6, 7, 8, 9, 10, 11, 12, 13, 14, 15, 16, 17, 18, 19, 20, 21, 22, 23, 24, 25, 26, 27, 28, 29, 30, 31, 32, 33, 34, 35, 36, 37, 38, 39, 40] (by kernel_rfl) (by kernel_rfl) (s20_of hM.out.drew HY.out HYp.out HPr.out HLp.out) (fun hHeld => ?_)
            iterate 5 (refine wpT_take rfl (by rfl) (by rfl) (by intro w' hSw; (try dsimp only [Mem, cellsAt] at hSw); go_simp; (try with_reducible rfl)) (by assumption) ?_; (try simp only [Act.put, List.setIfInBounds_toArray, List.set_cons_zero, List.set_cons_succ]))
            (refine wpT_yield rfl (by rfl) (Go.yieldsIf_load_mid (by rfl) 24 (.tmp 119) rfl g8 (33) rfl (b8l X.hd.p 32) _ (fun w' h => nd_pv (Mem.get (b := g8) (vs := ndL X) h.1 (by simp))) Tryd.underlying24 rfl (by rw [b8l_len]; kernel_rfl)) (by assumption) ?_; (try simp only [Act.put, List.setIfInBounds_toArray, List.set_cons_zero, List.set_cons_succ]))
            iterate 1 (refine wpT_take rfl (by rfl) (by rfl) (by intro w' hSw; (try dsimp only [Mem, cellsAt] at hSw); go_simp; (try with_reducible rfl)) (by assumption) ?_; (try simp only [Act.put, List.setIfInBounds_toArray, List.set_cons_zero, List.set_cons_succ]))
            (refine wpT_yield rfl (by rfl) (Go.yieldsIf_load_mid (by rfl) 24 (.tmp 121) rfl g12 (0) rfl (b8l Y.id 32) _ (fun w' h => nd_id (Mem.get (b := g12) (vs := ndL Y) h.1 (by simp))) Tryd.underlying24 rfl (by rw [b8l_len]; kernel_rfl)) (by assumption) ?_; (try simp only [Act.put, List.setIfInBounds_toArray, List.set_cons_zero, List.set_cons_succ]))
            iterate 12 (refine wpT_take rfl (by rfl) (by rfl) (by intro w' hSw; (try dsimp only [Mem, cellsAt] at hSw); go_simp; (try with_reducible rfl)) (by assumption) ?_; (try simp only [Act.put, List.setIfInBounds_toArray, List.set_cons_zero, List.set_cons_succ]))
            (refine wpT_yield rfl (by rfl) (Go.yieldsIf_load_mid (by rfl) 42 (.tmp 134) rfl g8 (102) rfl (uL X.wk) _ (fun w' h => nd_wk (Mem.get (b := g8) (vs := ndL X) h.1 (by simp))) Tryd.underlying42 rfl (by rw [uL_len]; kernel_rfl)) (by assumption) ?_; (try simp only [Act.put, List.setIfInBounds_toArray, List.set_cons_zero, List.set_cons_succ]))
            (refine wpT_yield rfl (by rfl) (Go.yieldsIf_load_mid (by rfl) 42 (.tmp 14) rfl g14 (0) rfl (uL X.wk) _ (fun w' h => rangeAt_of (Mem.get (b := g14) (vs := uL X.wk) h.1 (by simp))) Tryd.underlying42 rfl (by rw [uL_len]; kernel_rfl)) (by assumption) ?_; (try simp only [Act.put, List.setIfInBounds_toArray, List.set_cons_zero, List.set_cons_succ]))
            iterate 19 (refine wpT_take rfl (by rfl) (by rfl) (by intro w' hSw; (try dsimp only [Mem, cellsAt] at hSw); go_simp; (try with_reducible rfl)) (by assumption) ?_; (try simp only [Act.put, List.setIfInBounds_toArray, List.set_cons_zero, List.set_cons_succ]))
            (refine wpT_nil ?_)
            go_wp2
            exact ⟨⟨k + 1, by go_num, by have := HK.out.1; omega, bl_then HBr.out hB.drew⟩, by have := HK.out.1; simp [intOf]; omega⟩
        · have hki : ¬ (k : Int) < (m : Int) := by omega
          have hmi : (m : Int) ≤ (n : Int) := by omega
          have hmi2 : decide ((m : Int) ≤ (n : Int)) = true := decide_eq_true hmi
          clear htr hm hmn hn40 hBo hkm hlt
          go_wp2_with (first |
            (go_at_call 16; (with_reducible refine (HLn.out _ hB).mono ?_); rintro e w3 ⟨rfl, hb⟩; have hB2 := bl_then hB hb; have hM2 := Lib.hid (hM.out.later hb); clear hB hM; have hB := hB2; have hM := hM2; clear hB2 hM2 hb))
          go_ret
          exact ⟨rfl, bl_then (bl_then HBo.out HBr.out) hB⟩
end Go.Proofs.YtfbhpkhpkaeagaaDoor
