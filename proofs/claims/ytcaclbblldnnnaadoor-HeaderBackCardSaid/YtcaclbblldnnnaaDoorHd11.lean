/- Package header: GetAll. (hM) -/
import Derived.Test.YtcaclbblldnnnaaDoorHd10
import Derived.Test.YtcaclbblldnnnaaDoorCmpB
import Derived.Test.YtcaclbblldnnnaaDoorHp0
import Derived.Test.YtcaclbblldnnnaaDoorApp2
namespace Go.Proofs.YtcaclbblldnnnaaDoor
set_option linter.unusedVariables false
set_option linter.unusedSimpArgs false
open Go.RowKit

theorem eltHdr : Elt Tryd.prog 55 54 (hdV hd0) 68 80 := ⟨Tryd.underlying55, by kernel_rfl, rfl, by decide, by decide⟩
/-- headers' cells, one behind the other -/
def hdsL (L : Nat → Hd) : Nat → List Value
  | 0 => []
  | k + 1 => hdsL L k ++ hdL (L k)
theorem hdsL_len (L : Nat → Hd) : ∀ k, (hdsL L k).length = k * 68
  | 0 => rfl
  | k + 1 => by rw [hdsL, List.length_append, hdsL_len L k, hdL_len]; omega
theorem hdsL_one (L : Nat → Hd) : ∀ k, ∀ u ∈ hdsL L k, u.oneCell' = true
  | 0, u, h => by cases h
  | k + 1, u, h => by
    rw [hdsL] at h
    rcases List.mem_append.1 h with h | h
    · exact hdsL_one L k u h
    · exact hdL_one _ u h
theorem hdsL_get (L : Nat → Hd) (j : Nat) (u : Value) : ∀ k i, i < k → (hdL (L i))[j]? = some u → (hdsL L k)[i * 68 + j]? = some u
  | 0, i, h, _ => by omega
  | k + 1, i, h, hu => by
    have hj : j < 68 := by have := (List.getElem?_eq_some_iff.1 hu).1; rwa [hdL_len] at this
    rw [hdsL]
    by_cases hi : i < k
    · rw [List.getElem?_append_left (by rw [hdsL_len]; omega)]
      exact hdsL_get L j u k i hi hu
    · have : i = k := by omega
      subst this
      rw [List.getElem?_append_right (by rw [hdsL_len]; omega), hdsL_len, show i * 68 + j - i * 68 = j by omega]
      exact hu
theorem hdsL_row {w : World} {ao : Option Addr} {n c : Nat} {L : Nat → Hd} (h : Row w ao n c 68 (hdsL L n)) : SRow w ao n c 68 (fun i => hdL (L i)) :=
  ⟨fun i _ => hdL_len _, h.le, h.nil, fun ad ha i hi j u hu => h.cells ad ha (i * 68 + j) u (hdsL_get L j u n i hi hu)⟩
/-- how many, how many bytes tell it, and an error -/
theorem bnd2000 (f : Nat → Int) (n : Nat) (hf : ∀ i, 0 ≤ f i ∧ f i < 256) : ∃ (N k : Nat) (e : Int), (boundN (getF f n).1 (getF f n).2.1 (getF f n).2.2 2000).1 = (N : Int) ∧ (boundN (getF f n).1 (getF f n).2.1 (getF f n).2.2 2000).2.1 = (k : Int) ∧ (boundN (getF f n).1 (getF f n).2.1 (getF f n).2.2 2000).2.2 = e ∧
    (e = 0 → getF f n = ((N : Int), (k : Int), 0) ∧ N ≤ 2000 ∧ 1 ≤ k ∧ k ≤ n ∧ putL (N : Int) = bcells f k) := by
  rcases getF_cases f n hf with hg | hg | ⟨x, k, hg, hk1, hkn, hx0, hx1, hp, _⟩
  · exact ⟨0, 0, 1, by rw [hg]; rfl, by rw [hg]; rfl, by rw [hg]; rfl, fun h => by cases h⟩
  · exact ⟨0, 0, 2, by rw [hg]; rfl, by rw [hg]; rfl, by rw [hg]; rfl, fun h => by cases h⟩
  · rw [hg]
    unfold boundN
    by_cases hx : x ≤ 2000
    · obtain ⟨N, rfl⟩ := Int.eq_ofNat_of_zero_le hx0
      have hc : (N : Int) ≤ 2000 ∧ (N : Int) ≤ 2147483647 := ⟨hx, by omega⟩
      refine ⟨N, k, 0, ?_, ?_, ?_, fun _ => ⟨rfl, by omega, hk1, hkn, hp⟩⟩ <;> (rw [if_neg (by simp), if_pos hc])
    · refine ⟨0, 0, 3, ?_, ?_, ?_, fun h => by cases h⟩ <;> first | (rw [if_neg (by simp), if_neg (by omega)]; done) | (rw [if_neg (by simp), if_neg (by omega)]; rfl)

/-- what GetAll tells: how many headers, and an error; record i lies at k + 81 i -/
inductive Gall (f : Nat → Int) (n : Nat) : Nat → Int → Prop
  | head (e : Int) (he : e ≠ 0) (h : (boundN (getF f n).1 (getF f n).2.1 (getF f n).2.2 2000).2.2 = e) : Gall f n 0 e
  | short (N k i : Nat) (hg : getF f n = ((N : Int), (k : Int), 0)) (hN : N ≤ 2000) (hi : i < N) (hok : ∀ j, j < i → k + 81 * j + 80 < n ∧ f (k + 81 * j + 80) = 0) (hs : n ≤ k + 81 * i + 80) : Gall f n 0 1
  | form (N k i : Nat) (hg : getF f n = ((N : Int), (k : Int), 0)) (hN : N ≤ 2000) (hi : i < N) (hok : ∀ j, j < i → k + 81 * j + 80 < n ∧ f (k + 81 * j + 80) = 0) (hs : k + 81 * i + 80 < n) (hz : f (k + 81 * i + 80) ≠ 0) : Gall f n 0 2
  | more (N k : Nat) (hg : getF f n = ((N : Int), (k : Int), 0)) (hN : N ≤ 2000) (hok : ∀ j, j < N → k + 81 * j + 80 < n ∧ f (k + 81 * j + 80) = 0) (hs : k + 81 * N < n) : Gall f n 0 2
  | good (N k : Nat) (hg : getF f n = ((N : Int), (k : Int), 0)) (hN : N ≤ 2000) (hok : ∀ j, j < N → k + 81 * j + 80 < n ∧ f (k + 81 * j + 80) = 0) (hs : k + 81 * N = n) (hp : putL (N : Int) = bcells f k) : Gall f n N 0

/-- the headers that lie there -/
def gotH (f : Nat → Int) (k i : Nat) : Hd := getH (fun j => f (k + 81 * i + j))
theorem row_subg {w : World} {b off n c : Nat} {f : Nat → Int} (h : Row w (some ⟨b, off, none⟩) n c 1 (bcells f n)) (i m : Nat) (hm : i + m ≤ n) : Row w (some ⟨b, off + i, none⟩) m (c - i) 1 (bcells (fun k => f (i + k)) m) :=
  ⟨by rw [bcells_len, Nat.mul_one], by have := h.le; omega, (fun h => by cases h), (fun ad ha j u hu => by
    simp only [Option.some.injEq] at ha
    subst ha
    have hj : j < m := by have := (List.getElem?_eq_some_iff.1 hu).1; rwa [bcells_len] at this
    rw [bcells_get _ _ _ hj] at hu
    cases hu
    refine ⟨rfl, ?_⟩
    have := row_cell h (i + j) (by omega)
    rwa [show off + i + j = off + (i + j) by omega]), bcells_one _ _⟩

set_option maxRecDepth 100000 in
theorem bslice_hdr (h : Hd) (x : World) : (Instr.buildSlice 55 1 #[(0, hdV h)]).run Tryd.prog x = .ok (.slice (some ⟨x.heap.size, 0, none⟩) 1 1) (x.alloc (.cells (hdL h).toArray 54)) := by kernel_rfl
theorem wpList_bslice {w : World} {ops : Array Oper} {rest : List Oper} {o : Oper} {a : Act} {Q : Exit → Act → World → Prop} (hgd : o.guard = none) (x : Operand) (h : Hd)
    (ho : o.op = .buildSlice 55 1 #[(0, x)]) (hx : a.eval x = hdV h)
    (hk : wpList Tryd.prog ops Q rest (a.put o.dst (.slice (some ⟨w.heap.size, 0, none⟩) 1 1)) (w.alloc (.cells (hdL h).toArray 54))) : wpList Tryd.prog ops Q (o :: rest) a w := by
  refine wpList_plain hgd fun K hK => ?_
  have hb := bslice_hdr h w
  unfold Oper.wp execOp
  rw [ho]
  simp only [List.map_toArray, List.map_cons, List.map_nil, hx]
  rw [Sem.run_bind]
  simp only [hb, Result.andThen_ok]
  exact hK _ _ hk
theorem row_hdr (W : World) (h : Hd) : Row (W.alloc (.cells (hdL h).toArray 54)) (some ⟨W.heap.size, 0, none⟩) 1 1 68 (hdL h) := by
  have := row_new W (hdL h).toArray 54 1 1 68 (by rw [hdA_size]) (Nat.le_refl _) (by simpa using hdL_one h)
  simpa using this
def GaRel (w : World) (f : Nat → Int) (n N k : Nat) (at0 l i : Value) (wr : World) : Prop :=
  ∃ (j : Nat) (ao : Option Addr) (cap : Nat), j ≤ N ∧ i = .int .i64 j ∧ at0 = .int .i64 ((k + 81 * j : Nat) : Int) ∧ l = .slice ao j cap ∧ OwnN w.heap.size 54 68 wr ao j cap (hdsL (gotH f k) j) ∧ Below w.heap.size w wr ∧ (∀ q, q < j → k + 81 * q + 80 < n ∧ f (k + 81 * q + 80) = 0)

set_option maxRecDepth 100000 in
set_option maxHeartbeats 4000000 in
theorem getall_any (b off c n : Nat) (f : Nat → Int) (w : World) (hr : Row w (some ⟨b, off, none⟩) n c 1 (bcells f n)) (hf : ∀ i, 0 ≤ f i ∧ f i < 256) (hn : n ≤ 1000000) :
    Calls Tryd.prog 32 #[.slice (some ⟨b, off, none⟩) n c] w fun e w' => ∃ (ao : Option Addr) (m cap : Nat) (er : Int), e = .returned (.tuple #[.slice ao m cap, .int .i64 er]) ∧ Gall f n m er ∧
      (∀ k : Nat, er = 0 → getF f n = ((m : Int), (k : Int), 0) → Row w' ao m cap 68 (hdsL (gotH f k) m)) ∧ (er ≠ 0 → ao = none ∧ cap = 0) ∧ Below w.heap.size w w' := by
  obtain ⟨N, k, er, hN, hk, her, hgood⟩ := bnd2000 f n hf
  have HBd := fun (x : World) (hb : Below w.heap.size w x) => bounded_any (some ⟨b, off, none⟩) n c f 2000 x (by omega) (hr.later hb) hf (by omega)
  rw [hN, hk, her] at HBd
  have HBd2 := Lib.hid HBd
  have HR := Lib.hid hr
  have HFb := Lib.hid hf
  have HNn := Lib.hid hn
  have HG := Lib.hid hgood
  have HE := Lib.hid her
  clear HBd hN hk her hgood hr hf hn
  have hB0 := Below.refl w.heap.size w
  by_cases he : er = 0
  · subst he
    obtain ⟨hg, hN2, hk1, hkn, hp⟩ := HG.out rfl
    have HGG := Lib.hid (And.intro hg (And.intro hN2 (And.intro hk1 (And.intro hkn hp))))
    clear hg hN2 hk1 hkn hp
    go_enter Tryd.func32, Tryd.ntmps32
    go_wp2_with (go_at_call 51; (with_reducible refine (HBd2.out _ hB0).mono ?_); rintro e w1 ⟨rfl, rfl⟩)
    go_loopw [5, 7, 21] (fun a l i wr => GaRel w f n N k a l i wr) (fun _ _ i _ => N - (intOf i).toNat)
    case atStart => exact ⟨0, none, 0, Nat.zero_le _, rfl, by simp, rfl, ownN_nil _ _ _ _, hB0, fun q hq => by omega⟩
    case round =>
      obtain ⟨j, ao, cap, hj, rfl, rfl, rfl, hown, hB, hok⟩ := hrel
      have HO := Lib.hid hown
      have HOK := Lib.hid hok
      clear hown hok
      obtain ⟨a, ha⟩ : ∃ a, k + 81 * j = a := ⟨_, rfl⟩
      obtain ⟨a8, ha8⟩ : ∃ a8, a + 80 = a8 := ⟨_, rfl⟩
      rw [ha] at ⊢
      by_cases hlt : j < N
      · have hjN : (j : Int) < (N : Int) := by omega
        have hb1 := HNn.out
        have hb2 := HGG.out.2.1
        have hb3 := HGG.out.2.2.2.1
        have hw1 : IntKind.i64.wrap ((a : Int) + 80) = (a8 : Int) := by rw [IntKind.wrap_i64]; omega
        have hw3 : IntKind.i64.wrap ((j : Int) + 1) = ((j + 1 : Nat) : Int) := by rw [IntKind.wrap_i64]; omega
        have hw2 : IntKind.i64.wrap ((a8 : Int) + 1) = ((k + 81 * (j + 1) : Nat) : Int) := by rw [IntKind.wrap_i64]; omega
        have HA := Lib.hid (And.intro ha ha8)
        clear hb1 hb2 hb3 ha ha8
        by_cases hs : n ≤ a8
        · have hsi : (n : Int) ≤ (a8 : Int) := by omega
          have HS := Lib.hid hs
          clear hs
          go_wp2
          go_ret2
          exact ⟨none, 0, 0, 1, rfl, .short N k j HGG.out.1 HGG.out.2.1 hlt HOK.out (by have := HA.out.1; have := HA.out.2; have := HS.out; omega), fun _ h => absurd h (by decide), fun _ => ⟨rfl, rfl⟩, hB⟩
        · have hsi : ¬ (n : Int) ≤ (a8 : Int) := by omega
          have hin : (a8 : Int) < (n : Int) := by omega
          have hc8 := (hB.cell (p := ⟨b, off + a8, none⟩) (HR.out.lt ⟨b, off, none⟩ rfl (bcells_ne _ _ (by omega)))).trans (row_cell HR.out a8 (by omega))
          have HS := Lib.hid hs
          clear hs
          obtain ⟨z, hz⟩ : ∃ z, f a8 = z := ⟨_, rfl⟩
          rw [hz] at hc8
          have HZ := Lib.hid hz
          clear hz
          by_cases h0 : z = 0
          · subst h0
            have HRa : Hid (∀ x, Below w.heap.size w x → Row x (some ⟨b, off + a, none⟩) 80 (c - a) 1 (bcells (fun i => f (a + i)) 80)) := fun x hb => row_subg (HR.out.later hb) a 80 (by have := HA.out.2; have := HS.out; omega)
            have HGe := Lib.hid (fun (x : World) (hb : Below w.heap.size w x) => hget_any b (off + a) (c - a) (fun i => f (a + i)) x (HRa.out x hb) (fun i => HFb.out _))
            have h6 : a8 - a = 80 := by have := HA.out.2; omega
            have h7 : ¬ c = a := by have := HR.out.le; have := HA.out.2; have := HS.out; omega
            have h8 : (a : Int) ≤ (a8 : Int) := by have := HA.out.2; omega
            have h9 : (a8 : Int) ≤ (c : Int) := by have := HR.out.le; have := HS.out; omega
            obtain ⟨H, hH⟩ : ∃ H, getH (fun i => f (a + i)) = H := ⟨_, rfl⟩
            rw [hH] at HGe
            have HH := Lib.hid hH
            clear hH
            go_wp2_with (first |
              (go_at_call 30; (with_reducible refine (HGe.out _ hB).mono ?_); rintro e w2 ⟨rfl, hb⟩; have hB2 := bl_then hB hb; have HO2 := Lib.hid (HO.out.later hb); clear hb) |
              (refine wpList_store_newV rfl (.tmp 9) (.tmp 40) 54 rfl _ (hdL H) _ Tryd.underlying54 rfl (by rw [hdL_len]; kernel_rfl) (by rw [hdL_len]; rfl) (hdL_one _) rfl rfl (mem_nil w2) ?_; intro W hMW hbW; have HMW := Lib.hid hMW; have hBW := bl_then hB2 hbW; have HO3 := Lib.hid (HO2.out.later hbW); clear hMW hbW) |
              (refine Go.wpList_load_mid rfl 54 (.tmp 9) rfl w2.heap.size 0 rfl (hdL H) _ (rangeAt_of HMW.out.1.2.2) Tryd.underlying54 rfl (by rw [hdL_len]; kernel_rfl) ?_) |
              (refine wpList_bslice rfl (.tmp 43) H rfl rfl ?_) |
              (refine wpList_appN eltHdr w _ (bl_al hBW _) rfl (.tmp 42) (.tmp 44) rfl ao j cap (hdsL (gotH f k) j) rfl (HO3.out.alloc _) (some ⟨W.heap.size, 0, none⟩) 1 1 (hdL H) rfl (row_hdr W H) (fun _ => by omega) (by have := HGG.out.2.1; omega) ?_; intro g2 cap2 w4 hown4 hb4; have HO4 := Lib.hid hown4; have HB4 := Lib.hid hb4; clear hown4 hb4))
            refine ⟨⟨j + 1, some ⟨g2, 0, none⟩, cap2, by omega, by go_num, by rfl, rfl, .inr ⟨g2, rfl, ?_⟩, HB4.out, fun q hq => ?_⟩, by simp [intOf]; omega⟩
            · have h4 := HO4.out
              have e : H = gotH f k j := by rw [← HH.out]; unfold gotH; rw [HA.out.1]
              rw [e] at h4
              exact h4
            · by_cases hqj : q = j
              · subst hqj
                have h1 := HA.out.1
                have h2 := HA.out.2
                have h3 := HS.out
                have h4 := HZ.out
                rw [h1, h2]
                exact ⟨by omega, h4⟩
              · exact HOK.out q (by omega)
          · have hzb : (z == 0) = false := by simpa using h0
            have HZ0 := Lib.hid h0
            clear h0
            go_wp2
            go_ret2
            exact ⟨none, 0, 0, 2, rfl, .form N k j HGG.out.1 HGG.out.2.1 hlt HOK.out (by have := HA.out.1; have := HA.out.2; have := HS.out; omega) (by rw [HA.out.1, HA.out.2, HZ.out]; exact HZ0.out), fun _ h => absurd h (by decide), fun _ => ⟨rfl, rfl⟩, hB⟩
      · have hje : j = N := by omega
        subst hje
        have hjj : ¬ (j : Int) < (j : Int) := by omega
        have HA := Lib.hid (And.intro ha ha8)
        clear ha ha8
        by_cases hs : a < n
        · have hsi : (a : Int) < (n : Int) := by omega
          have HS := Lib.hid hs
          clear hs
          go_wp2
          go_ret2
          exact ⟨none, 0, 0, 2, rfl, .more j k HGG.out.1 HGG.out.2.1 HOK.out (by have := HA.out.1; have := HS.out; omega), fun _ h => absurd h (by decide), fun _ => ⟨rfl, rfl⟩, hB⟩
        · have hsi : ¬ (a : Int) < (n : Int) := by omega
          have HS := Lib.hid hs
          clear hs
          go_wp2
          go_ret2
          refine ⟨ao, j, cap, 0, rfl, .good j k HGG.out.1 HGG.out.2.1 HOK.out ?_ HGG.out.2.2.2.2, fun k' _ hg' => ?_, fun h => absurd rfl h, hB⟩
          · have h1 := HA.out.1
            have h2 := HS.out
            have h3 := HGG.out.2.2.2.1
            rcases Nat.eq_zero_or_pos j with h0 | h0
            · omega
            · have := HOK.out (j - 1) (by omega)
              omega
          · rw [HGG.out.1] at hg'
            simp only [Prod.mk.injEq] at hg'
            have hk' : k' = k := by omega
            subst hk'
            exact HO.out.row (hdsL_one _ _)
  · have hne : (er == 0) = false := by simpa using he
    have HNE := Lib.hid he
    clear he
    go_enter Tryd.func32, Tryd.ntmps32
    go_wp2_with (go_at_call 51; (with_reducible refine (HBd2.out _ hB0).mono ?_); rintro e w1 ⟨rfl, rfl⟩)
    go_ret2
    exact ⟨none, 0, 0, er, rfl, .head er HNE.out HE.out, fun _ h => absurd h HNE.out, fun _ => ⟨rfl, rfl⟩, hB0⟩
end Go.Proofs.YtcaclbblldnnnaaDoor
