/- florinlaw07: HeaderOnce (made by gen_hd12.py). (hM) -/
import Derived.Test.YtcaclbblldnnnaaDoorHd7
import Derived.Test.YtcaclbblldnnnaaDoorHd11
import Derived.Test.YtcaclbblldnnnaaDoorSpot
namespace Go.Proofs.YtcaclbblldnnnaaDoor
set_option linter.unusedVariables false
set_option linter.unusedSimpArgs false
open Go.RowKit

/-- the bytes of a number that was got -/
theorem le4_num (f : Nat → Int) (at0 : Nat) (hf : ∀ i, 0 ≤ f i ∧ f i < 256) (i : Nat) (hi : i < 4) : le4 (numV f at0 4) i = f (at0 + i) := by
  have h0 := hf at0
  have h1 := hf (at0 + 1)
  have h2 := hf (at0 + 2)
  have h3 := hf (at0 + 3)
  have e : numV f at0 4 = f at0 + f (at0 + 1) * 256 + f (at0 + 2) * 65536 + f (at0 + 3) * 16777216 := by
    show 0 + f (at0 + 0) * 256 ^ 0 + f (at0 + 1) * 256 ^ 1 + f (at0 + 2) * 256 ^ 2 + f (at0 + 3) * 256 ^ 3 = _
    have e1 : (256 : Int) ^ 0 = 1 := by decide
    have e2 : (256 : Int) ^ 1 = 256 := by decide
    have e3 : (256 : Int) ^ 2 = 65536 := by decide
    have e4 : (256 : Int) ^ 3 = 16777216 := by decide
    rw [e1, e2, e3, e4, Nat.add_zero]
    omega
  unfold le4
  rw [e]
  have : i = 0 ∨ i = 1 ∨ i = 2 ∨ i = 3 := by omega
  rcases this with rfl | rfl | rfl | rfl
  · have e0 : f (at0 + 0) = f at0 := rfl
    rw [show (256 : Int) ^ 0 = 1 by decide, e0, Int.ediv_one]; omega
  · rw [show (256 : Int) ^ 1 = 256 by decide]; omega
  · rw [show (256 : Int) ^ 2 = 65536 by decide]; omega
  · rw [show (256 : Int) ^ 3 = 16777216 by decide]; omega
theorem hdF_getH (f : Nat → Int) (hf : ∀ i, 0 ≤ f i ∧ f i < 256) (i : Nat) (hi : i < 80) : hdF (getH f) i = f i := by
  unfold hdF getH
  dsimp only
  split
  · rw [le4_num f 0 hf i (by omega), Nat.zero_add]
  split
  · rw [show 4 + (i - 4) = i by omega]
  split
  · rw [show 36 + (i - 36) = i by omega]
  split
  · rw [le4_num f 68 hf _ (by omega), show 68 + (i - 68) = i by omega]
  split
  · rw [le4_num f 72 hf _ (by omega), show 72 + (i - 72) = i by omega]
  · rw [le4_num f 76 hf _ (by omega), show 76 + (i - 76) = i by omega]
theorem bcells_split (f : Nat → Int) (a b : Nat) : bcells f (a + b) = bcells f a ++ bcells (fun i => f (a + i)) b := by
  apply List.ext_getElem?
  intro i
  by_cases h : i < a + b
  · rw [bcells_get _ _ _ h]
    by_cases h2 : i < a
    · rw [List.getElem?_append_left (by rw [bcells_len]; exact h2), bcells_get _ _ _ h2]
    · rw [List.getElem?_append_right (by rw [bcells_len]; omega), bcells_len, bcells_get _ _ _ (by omega), show a + (i - a) = i by omega]
  · rw [List.getElem?_eq_none (by rw [bcells_len]; omega), List.getElem?_eq_none (by rw [List.length_append, bcells_len, bcells_len]; omega)]
theorem all_bytes (f : Nat → Int) (hf : ∀ i, 0 ≤ f i ∧ f i < 256) (N k : Nat) (hp : putL (N : Int) = bcells f k) : ∀ j, (∀ q, q < j → f (k + 81 * q + 80) = 0) → allL (gotH f k) N j = bcells f (k + 81 * j)
  | 0, _ => hp
  | j + 1, h => by
    rw [allL, all_bytes f hf N k hp j fun q hq => h q (by omega), show k + 81 * (j + 1) = k + 81 * j + 80 + 1 by omega, bcells_split f (k + 81 * j + 80) 1, bcells_split f (k + 81 * j) 80]
    have e1 : b8l (hdF (gotH f k j)) 80 = bcells (fun i => f (k + 81 * j + i)) 80 := b8l_congr fun i hi => hdF_getH (fun q => f (k + 81 * j + q)) (fun _ => hf _) i hi
    have e2 : bcells (fun i => f (k + 81 * j + 80 + i)) 1 = [.int .u8 0] := by
      show [Value.int .u8 (f (k + 81 * j + 80 + 0))] = _
      rw [Nat.add_zero, h j (by omega)]
    rw [e1, e2]
theorem gotH_ok (f : Nat → Int) (hf : ∀ i, 0 ≤ f i ∧ f i < 256) (k i : Nat) : HdOk (gotH f k i) := getH_ok _ fun _ => hf _
/-- what GetAll's answer is good for -/
def GaUse (f : Nat → Int) (n m : Nat) (er : Int) (L : Nat → Hd) : Prop := (∀ i, HdOk (L i)) ∧ m ≤ 2000 ∧ (er = 0 → allL L m m = bcells f n ∧ (putL (m : Int)).length + 81 * m = n) ∧ (er ≠ 0 → m = 0)
theorem getall_use (b off c n : Nat) (f : Nat → Int) (w : World) (hr : Row w (some ⟨b, off, none⟩) n c 1 (bcells f n)) (hf : ∀ i, 0 ≤ f i ∧ f i < 256) (hn : n ≤ 1000000) :
    Calls Tryd.prog 32 #[.slice (some ⟨b, off, none⟩) n c] w fun e w' => ∃ (ao : Option Addr) (m cap : Nat) (er : Int) (L : Nat → Hd), e = .returned (.tuple #[.slice ao m cap, .int .i64 er]) ∧ GaUse f n m er L ∧ SRow w' ao m cap 68 (fun i => hdL (L i)) ∧ Below w.heap.size w w' := by
  refine (getall_any b off c n f w hr hf hn).mono ?_
  rintro e w' ⟨ao, m, cap, er, rfl, hg, hrow, hnil, hb⟩
  have nilrow : er ≠ 0 → m = 0 → SRow w' ao m cap 68 (fun i => hdL hd0) := fun he hm => by
    obtain ⟨rfl, rfl⟩ := hnil he
    subst hm
    exact srow_nil w' 68 _
  cases hg with
  | head _ he _ => exact ⟨ao, 0, cap, er, fun _ => hd0, rfl, ⟨fun _ => hd0_ok, by omega, fun h => absurd h he, fun _ => rfl⟩, nilrow he rfl, hb⟩
  | short => exact ⟨ao, 0, cap, 1, fun _ => hd0, rfl, ⟨fun _ => hd0_ok, by omega, fun h => absurd h (by decide), fun _ => rfl⟩, nilrow (by decide) rfl, hb⟩
  | form => exact ⟨ao, 0, cap, 2, fun _ => hd0, rfl, ⟨fun _ => hd0_ok, by omega, fun h => absurd h (by decide), fun _ => rfl⟩, nilrow (by decide) rfl, hb⟩
  | more => exact ⟨ao, 0, cap, 2, fun _ => hd0, rfl, ⟨fun _ => hd0_ok, by omega, fun h => absurd h (by decide), fun _ => rfl⟩, nilrow (by decide) rfl, hb⟩
  | good N k hg hN hok hs hp =>
    refine ⟨ao, m, cap, 0, gotH f k, rfl, ⟨gotH_ok f hf k, hN, fun _ => ⟨?_, ?_⟩, fun h => absurd rfl h⟩, hdsL_row (hrow k rfl hg), hb⟩
    · rw [all_bytes f hf m k hp m fun q hq => (hok q hq).2, hs]
    · rw [hp, bcells_len]
      exact hs
set_option maxRecDepth 100000 in
theorem getall_nil (f : Nat → Int) (hf : ∀ i, 0 ≤ f i ∧ f i < 256) (w : World) :
    Calls Tryd.prog 32 #[.slice none 0 0] w fun e w' => ∃ (ao : Option Addr) (m cap : Nat) (er : Int) (L : Nat → Hd), e = .returned (.tuple #[.slice ao m cap, .int .i64 er]) ∧ GaUse f 0 m er L ∧ SRow w' ao m cap 68 (fun i => hdL (L i)) ∧ Below w.heap.size w w' := by
  have HBd : Hid (∀ x : World, Calls Tryd.prog 51 #[.slice none 0 0, .int .u64 2000] x fun e w' => e = .returned (.tuple #[.int .i64 0, .int .i64 0, .int .i64 1]) ∧ x = w') := fun x => bounded_any none 0 0 f 2000 x (by omega) (row_nil x 1) hf (by omega)
  go_enter Tryd.func32, Tryd.ntmps32
  go_wp2_with (go_at_call 51; (with_reducible refine (HBd.out _).mono ?_); rintro e w1 ⟨rfl, rfl⟩)
  go_ret2
  exact ⟨none, 0, 0, 1, fun _ => hd0, rfl, ⟨fun _ => hd0_ok, by omega, fun h => absurd h (by decide), fun _ => rfl⟩, srow_nil w 68 _, Below.refl _ _⟩

set_option maxRecDepth 100000 in
theorem once_early (ao : Option Addr) (n c : Nat) (w : World) (hT : Tab w) (hbig : 3000 < n) :
    Calls Tryd.prog 7 #[.slice ao n c] w fun e w' => e = .returned (.bool true) ∧ Below w.heap.size w w' := by
  have HA := Lib.hid (fun (x : World) (hb : Below w.heap.size w x) => awake7_any x (hT.later hb))
  have hB := Below.refl w.heap.size w
  have hM := Lib.hid (mem_nil w)
  have hF : True := trivial
  have e1 : 3000 < (n : Int) := by omega
  clear hT hbig
  go_enter Tryd.func7, Tryd.ntmps7
  go_wp2_with (go_at_call 28; (with_reducible refine (HA.out _ (by (repeat (first | exact hB | refine bl_al ?_ _ | refine Below.setCell ?_ (by first | exact hgs | exact Nat.le_succ_of_le hgs | exact hgs2 | exact hgs3) _ | refine Below.drew ?_ | refine bl_drewN ?_ _)))).mono ?_); rintro e w1 ⟨rfl, hb⟩; have hB : Below w.heap.size w w1 := (by refine bl_then ?_ hb; (repeat (first | exact hB | refine bl_al ?_ _ | refine Below.setCell ?_ (by first | exact hgs | exact Nat.le_succ_of_le hgs | exact hgs2 | exact hgs3) _ | refine Below.drew ?_ | refine bl_drewN ?_ _))); (first | with_reducible have hM2 := Mem.later hb (hM.out) | with_reducible have hM2 := Mem.later hb (Mem.al (hM.out) _ _) | with_reducible have hM2 := Mem.later hb (Mem.al (Mem.al (hM.out) _ _) _ _) | with_reducible have hM2 := Mem.later hb (Mem.al (Mem.al (Mem.al (hM.out) _ _) _ _) _ _) | with_reducible have hM2 := Mem.later hb (Mem.al (Mem.al (Mem.al (Mem.al (hM.out) _ _) _ _) _ _) _ _) | with_reducible have hM2 := Mem.later hb (Mem.drew (hM.out)) | with_reducible have hM2 := Mem.later hb (Mem.drew (Mem.al (hM.out) _ _)) | with_reducible have hM2 := Mem.later hb (Mem.al (Mem.drew (hM.out)) _ _) | with_reducible have hM2 := Mem.later hb (Mem.al (Mem.drew (Mem.al (hM.out) _ _)) _ _) | with_reducible have hM2 := Mem.later hb (Mem.drew (Mem.al (Mem.al (hM.out) _ _) _ _)) | with_reducible have hM2 := Mem.later hb (Mem.al (Mem.al (Mem.drew (hM.out)) _ _) _ _) | with_reducible have hM2 := Mem.later hb (Mem.drew (Mem.drew (hM.out))) | with_reducible have hM2 := Mem.later hb (Mem.drew (Mem.al (Mem.drew (hM.out)) _ _)) | with_reducible have hM2 := Mem.later hb (Mem.drew (Mem.al (Mem.al (Mem.al (hM.out) _ _) _ _) _ _)) | with_reducible have hM2 := Mem.later hb (Mem.al (Mem.al (Mem.drew (Mem.al (hM.out) _ _)) _ _) _ _) | with_reducible have hM2 := Mem.later hb (Mem.drew (Mem.al (Mem.drew (Mem.al (hM.out) _ _)) _ _)) | with_reducible have hM2 := Mem.later hb (Mem.al (Mem.al (Mem.al (Mem.al (Mem.al (hM.out) _ _) _ _) _ _) _ _) _ _) | with_reducible have hM2 := Mem.later hb (Mem.al (Mem.al (Mem.al (Mem.al (Mem.al (Mem.al (hM.out) _ _) _ _) _ _) _ _) _ _) _ _) | with_reducible have hM2 := Mem.later hb (Mem.al (Mem.al (Mem.al (Mem.al (Mem.al (Mem.al (Mem.al (hM.out) _ _) _ _) _ _) _ _) _ _) _ _) _ _) | with_reducible have hM2 := Mem.later hb (Mem.al (Mem.al (Mem.al (Mem.al (Mem.al (Mem.al (Mem.al (Mem.al (hM.out) _ _) _ _) _ _) _ _) _ _) _ _) _ _) _ _)); (try simp only [World.size_alloc, size_drew] at hM2); clear hM; have hM := Lib.hid hM2; clear hF; have hF := hM2; (try simp only [Mem, cellsAt, World.size_alloc, Nat.zero_add, Nat.reduceAdd, and_true] at hF); clear hM2; clear hb)
  go_ret
  exact ⟨rfl, by (repeat (first | exact hB | refine bl_al ?_ _ | refine Below.setCell ?_ (by first | exact hgs | exact Nat.le_succ_of_le hgs | exact hgs2 | exact hgs3) _ | refine Below.drew ?_ | refine bl_drewN ?_ _))⟩

set_option maxRecDepth 100000 in
set_option maxHeartbeats 4000000 in
theorem once_walk (ao0 : Option Addr) (n c : Nat) (f : Nat → Int) (w : World) (hT : Tab w) (hr : Row w ao0 n c 1 (bcells f n)) (hn : n ≤ 3000)
    (hGa : ∀ x, Below w.heap.size w x → Calls Tryd.prog 32 #[.slice ao0 n c] x fun e w' => ∃ (ao : Option Addr) (m cap : Nat) (er : Int) (L : Nat → Hd), e = .returned (.tuple #[.slice ao m cap, .int .i64 er]) ∧ GaUse f n m er L ∧ SRow w' ao m cap 68 (fun i => hdL (L i)) ∧ Below x.heap.size x w')
    (H : Hd) (ho : HdOk H) (gv : Int) (hGe : ∀ x, Below w.heap.size w x → Calls Tryd.prog 30 #[.slice ao0 n c] x fun e w' => e = .returned (.tuple #[hdV H, .int .i64 gv]) ∧ Below x.heap.size x w')
    (hc : (gv = 0 ∧ n = 80 ∧ ∀ i, i < 80 → hdF H i = f i) ∨ (gv ≠ 0 ∧ H = hd0)) :
    Calls Tryd.prog 7 #[.slice ao0 n c] w fun e w' => e = .returned (.bool true) ∧ Below w.heap.size w w' := by
  have HA := Lib.hid (fun (x : World) (hb : Below w.heap.size w x) => awake7_any x (hT.later hb))
  have HGa := Lib.hid hGa
  have HGe := Lib.hid hGe
  have HRb := Lib.hid (fun (x : World) (hb : Below w.heap.size w x) => hr.later hb)
  have HPut := Lib.hid (fun (x : World) => hput_any H ho x)
  have HC := Lib.hid hc
  have HN := Lib.hid hn
  have e1 : ¬ 3000 < (n : Int) := by omega
  have hB := Below.refl w.heap.size w
  have hM := Lib.hid (mem_nil w)
  have hF : True := trivial
  clear hT hr hGa hGe hc ho hn
  go_enter Tryd.func7, Tryd.ntmps7
  go_wp2_with (first |
    (go_at_call 28; (with_reducible refine (HA.out _ (by (repeat (first | exact hB | refine bl_al ?_ _ | refine Below.setCell ?_ (by first | exact hgs | exact Nat.le_succ_of_le hgs | exact hgs2 | exact hgs3) _ | refine Below.drew ?_ | refine bl_drewN ?_ _)))).mono ?_); rintro e w1 ⟨rfl, hb⟩; have hB : Below w.heap.size w w1 := (by refine bl_then ?_ hb; (repeat (first | exact hB | refine bl_al ?_ _ | refine Below.setCell ?_ (by first | exact hgs | exact Nat.le_succ_of_le hgs | exact hgs2 | exact hgs3) _ | refine Below.drew ?_ | refine bl_drewN ?_ _))); (first | with_reducible have hM2 := Mem.later hb (hM.out) | with_reducible have hM2 := Mem.later hb (Mem.al (hM.out) _ _) | with_reducible have hM2 := Mem.later hb (Mem.al (Mem.al (hM.out) _ _) _ _) | with_reducible have hM2 := Mem.later hb (Mem.al (Mem.al (Mem.al (hM.out) _ _) _ _) _ _) | with_reducible have hM2 := Mem.later hb (Mem.al (Mem.al (Mem.al (Mem.al (hM.out) _ _) _ _) _ _) _ _) | with_reducible have hM2 := Mem.later hb (Mem.drew (hM.out)) | with_reducible have hM2 := Mem.later hb (Mem.drew (Mem.al (hM.out) _ _)) | with_reducible have hM2 := Mem.later hb (Mem.al (Mem.drew (hM.out)) _ _) | with_reducible have hM2 := Mem.later hb (Mem.al (Mem.drew (Mem.al (hM.out) _ _)) _ _) | with_reducible have hM2 := Mem.later hb (Mem.drew (Mem.al (Mem.al (hM.out) _ _) _ _)) | with_reducible have hM2 := Mem.later hb (Mem.al (Mem.al (Mem.drew (hM.out)) _ _) _ _) | with_reducible have hM2 := Mem.later hb (Mem.drew (Mem.drew (hM.out))) | with_reducible have hM2 := Mem.later hb (Mem.drew (Mem.al (Mem.drew (hM.out)) _ _)) | with_reducible have hM2 := Mem.later hb (Mem.drew (Mem.al (Mem.al (Mem.al (hM.out) _ _) _ _) _ _)) | with_reducible have hM2 := Mem.later hb (Mem.al (Mem.al (Mem.drew (Mem.al (hM.out) _ _)) _ _) _ _) | with_reducible have hM2 := Mem.later hb (Mem.drew (Mem.al (Mem.drew (Mem.al (hM.out) _ _)) _ _)) | with_reducible have hM2 := Mem.later hb (Mem.al (Mem.al (Mem.al (Mem.al (Mem.al (hM.out) _ _) _ _) _ _) _ _) _ _) | with_reducible have hM2 := Mem.later hb (Mem.al (Mem.al (Mem.al (Mem.al (Mem.al (Mem.al (hM.out) _ _) _ _) _ _) _ _) _ _) _ _) | with_reducible have hM2 := Mem.later hb (Mem.al (Mem.al (Mem.al (Mem.al (Mem.al (Mem.al (Mem.al (hM.out) _ _) _ _) _ _) _ _) _ _) _ _) _ _) | with_reducible have hM2 := Mem.later hb (Mem.al (Mem.al (Mem.al (Mem.al (Mem.al (Mem.al (Mem.al (Mem.al (hM.out) _ _) _ _) _ _) _ _) _ _) _ _) _ _) _ _)); (try simp only [World.size_alloc, size_drew] at hM2); clear hM; have hM := Lib.hid hM2; clear hF; have hF := hM2; (try simp only [Mem, cellsAt, World.size_alloc, Nat.zero_add, Nat.reduceAdd, and_true] at hF); clear hM2; clear hb; clear hF; have hF : True := trivial) |
    (go_at_call 32; (with_reducible refine (HGa.out _ (by (repeat (first | exact hB | refine bl_al ?_ _ | refine Below.setCell ?_ (by first | exact hgs | exact Nat.le_succ_of_le hgs | exact hgs2 | exact hgs3) _ | refine Below.drew ?_ | refine bl_drewN ?_ _)))).mono ?_); rintro e w2 ⟨ao, m, cap, er, L, rfl, huse, hsr, hb⟩; have HU := Lib.hid huse; have HU1 := Lib.hid huse.1; have HU2 := Lib.hid huse.2.1; have HSR := Lib.hid hsr; clear huse hsr; have hB : Below w.heap.size w w2 := (by refine bl_then ?_ hb; (repeat (first | exact hB | refine bl_al ?_ _ | refine Below.setCell ?_ (by first | exact hgs | exact Nat.le_succ_of_le hgs | exact hgs2 | exact hgs3) _ | refine Below.drew ?_ | refine bl_drewN ?_ _))); (first | with_reducible have hM2 := Mem.later hb (hM.out) | with_reducible have hM2 := Mem.later hb (Mem.al (hM.out) _ _) | with_reducible have hM2 := Mem.later hb (Mem.al (Mem.al (hM.out) _ _) _ _) | with_reducible have hM2 := Mem.later hb (Mem.al (Mem.al (Mem.al (hM.out) _ _) _ _) _ _) | with_reducible have hM2 := Mem.later hb (Mem.al (Mem.al (Mem.al (Mem.al (hM.out) _ _) _ _) _ _) _ _) | with_reducible have hM2 := Mem.later hb (Mem.drew (hM.out)) | with_reducible have hM2 := Mem.later hb (Mem.drew (Mem.al (hM.out) _ _)) | with_reducible have hM2 := Mem.later hb (Mem.al (Mem.drew (hM.out)) _ _) | with_reducible have hM2 := Mem.later hb (Mem.al (Mem.drew (Mem.al (hM.out) _ _)) _ _) | with_reducible have hM2 := Mem.later hb (Mem.drew (Mem.al (Mem.al (hM.out) _ _) _ _)) | with_reducible have hM2 := Mem.later hb (Mem.al (Mem.al (Mem.drew (hM.out)) _ _) _ _) | with_reducible have hM2 := Mem.later hb (Mem.drew (Mem.drew (hM.out))) | with_reducible have hM2 := Mem.later hb (Mem.drew (Mem.al (Mem.drew (hM.out)) _ _)) | with_reducible have hM2 := Mem.later hb (Mem.drew (Mem.al (Mem.al (Mem.al (hM.out) _ _) _ _) _ _)) | with_reducible have hM2 := Mem.later hb (Mem.al (Mem.al (Mem.drew (Mem.al (hM.out) _ _)) _ _) _ _) | with_reducible have hM2 := Mem.later hb (Mem.drew (Mem.al (Mem.drew (Mem.al (hM.out) _ _)) _ _)) | with_reducible have hM2 := Mem.later hb (Mem.al (Mem.al (Mem.al (Mem.al (Mem.al (hM.out) _ _) _ _) _ _) _ _) _ _) | with_reducible have hM2 := Mem.later hb (Mem.al (Mem.al (Mem.al (Mem.al (Mem.al (Mem.al (hM.out) _ _) _ _) _ _) _ _) _ _) _ _) | with_reducible have hM2 := Mem.later hb (Mem.al (Mem.al (Mem.al (Mem.al (Mem.al (Mem.al (Mem.al (hM.out) _ _) _ _) _ _) _ _) _ _) _ _) _ _) | with_reducible have hM2 := Mem.later hb (Mem.al (Mem.al (Mem.al (Mem.al (Mem.al (Mem.al (Mem.al (Mem.al (hM.out) _ _) _ _) _ _) _ _) _ _) _ _) _ _) _ _)); (try simp only [World.size_alloc, size_drew] at hM2); clear hM; have hM := Lib.hid hM2; clear hF; have hF := hM2; (try simp only [Mem, cellsAt, World.size_alloc, Nat.zero_add, Nat.reduceAdd, and_true] at hF); clear hM2; clear hb; clear hF; have hF : True := trivial) |
    (go_at_call 31; (with_reducible refine (putall_any L HU1.out ao m cap _ HSR.out HU2.out).mono ?_); rintro e w3 ⟨g3, cap3, rfl, hown, hb⟩; have HRc := Lib.hid (row_own hown (allL_one L m m)); clear hown; have hB : Below w.heap.size w w3 := (by refine bl_then ?_ hb; (repeat (first | exact hB | refine bl_al ?_ _ | refine Below.setCell ?_ (by first | exact hgs | exact Nat.le_succ_of_le hgs | exact hgs2 | exact hgs3) _ | refine Below.drew ?_ | refine bl_drewN ?_ _))); (first | with_reducible have hM2 := Mem.later hb (hM.out) | with_reducible have hM2 := Mem.later hb (Mem.al (hM.out) _ _) | with_reducible have hM2 := Mem.later hb (Mem.al (Mem.al (hM.out) _ _) _ _) | with_reducible have hM2 := Mem.later hb (Mem.al (Mem.al (Mem.al (hM.out) _ _) _ _) _ _) | with_reducible have hM2 := Mem.later hb (Mem.al (Mem.al (Mem.al (Mem.al (hM.out) _ _) _ _) _ _) _ _) | with_reducible have hM2 := Mem.later hb (Mem.drew (hM.out)) | with_reducible have hM2 := Mem.later hb (Mem.drew (Mem.al (hM.out) _ _)) | with_reducible have hM2 := Mem.later hb (Mem.al (Mem.drew (hM.out)) _ _) | with_reducible have hM2 := Mem.later hb (Mem.al (Mem.drew (Mem.al (hM.out) _ _)) _ _) | with_reducible have hM2 := Mem.later hb (Mem.drew (Mem.al (Mem.al (hM.out) _ _) _ _)) | with_reducible have hM2 := Mem.later hb (Mem.al (Mem.al (Mem.drew (hM.out)) _ _) _ _) | with_reducible have hM2 := Mem.later hb (Mem.drew (Mem.drew (hM.out))) | with_reducible have hM2 := Mem.later hb (Mem.drew (Mem.al (Mem.drew (hM.out)) _ _)) | with_reducible have hM2 := Mem.later hb (Mem.drew (Mem.al (Mem.al (Mem.al (hM.out) _ _) _ _) _ _)) | with_reducible have hM2 := Mem.later hb (Mem.al (Mem.al (Mem.drew (Mem.al (hM.out) _ _)) _ _) _ _) | with_reducible have hM2 := Mem.later hb (Mem.drew (Mem.al (Mem.drew (Mem.al (hM.out) _ _)) _ _)) | with_reducible have hM2 := Mem.later hb (Mem.al (Mem.al (Mem.al (Mem.al (Mem.al (hM.out) _ _) _ _) _ _) _ _) _ _) | with_reducible have hM2 := Mem.later hb (Mem.al (Mem.al (Mem.al (Mem.al (Mem.al (Mem.al (hM.out) _ _) _ _) _ _) _ _) _ _) _ _) | with_reducible have hM2 := Mem.later hb (Mem.al (Mem.al (Mem.al (Mem.al (Mem.al (Mem.al (Mem.al (hM.out) _ _) _ _) _ _) _ _) _ _) _ _) _ _) | with_reducible have hM2 := Mem.later hb (Mem.al (Mem.al (Mem.al (Mem.al (Mem.al (Mem.al (Mem.al (Mem.al (hM.out) _ _) _ _) _ _) _ _) _ _) _ _) _ _) _ _)); (try simp only [World.size_alloc, size_drew] at hM2); clear hM; have hM := Lib.hid hM2; clear hF; have hF := hM2; (try simp only [Mem, cellsAt, World.size_alloc, Nat.zero_add, Nat.reduceAdd, and_true] at hF); clear hM2; clear hb; clear hF; have hF : True := trivial) |
    (go_at_call 30; (with_reducible refine (HGe.out _ (by (repeat (first | exact hB | refine bl_al ?_ _ | refine Below.setCell ?_ (by first | exact hgs | exact Nat.le_succ_of_le hgs | exact hgs2 | exact hgs3) _ | refine Below.drew ?_ | refine bl_drewN ?_ _)))).mono ?_); rintro e w4 ⟨rfl, hb⟩; replace HRc := Lib.hid (HRc.out.later hb); have hB : Below w.heap.size w w4 := (by refine bl_then ?_ hb; (repeat (first | exact hB | refine bl_al ?_ _ | refine Below.setCell ?_ (by first | exact hgs | exact Nat.le_succ_of_le hgs | exact hgs2 | exact hgs3) _ | refine Below.drew ?_ | refine bl_drewN ?_ _))); (first | with_reducible have hM2 := Mem.later hb (hM.out) | with_reducible have hM2 := Mem.later hb (Mem.al (hM.out) _ _) | with_reducible have hM2 := Mem.later hb (Mem.al (Mem.al (hM.out) _ _) _ _) | with_reducible have hM2 := Mem.later hb (Mem.al (Mem.al (Mem.al (hM.out) _ _) _ _) _ _) | with_reducible have hM2 := Mem.later hb (Mem.al (Mem.al (Mem.al (Mem.al (hM.out) _ _) _ _) _ _) _ _) | with_reducible have hM2 := Mem.later hb (Mem.drew (hM.out)) | with_reducible have hM2 := Mem.later hb (Mem.drew (Mem.al (hM.out) _ _)) | with_reducible have hM2 := Mem.later hb (Mem.al (Mem.drew (hM.out)) _ _) | with_reducible have hM2 := Mem.later hb (Mem.al (Mem.drew (Mem.al (hM.out) _ _)) _ _) | with_reducible have hM2 := Mem.later hb (Mem.drew (Mem.al (Mem.al (hM.out) _ _) _ _)) | with_reducible have hM2 := Mem.later hb (Mem.al (Mem.al (Mem.drew (hM.out)) _ _) _ _) | with_reducible have hM2 := Mem.later hb (Mem.drew (Mem.drew (hM.out))) | with_reducible have hM2 := Mem.later hb (Mem.drew (Mem.al (Mem.drew (hM.out)) _ _)) | with_reducible have hM2 := Mem.later hb (Mem.drew (Mem.al (Mem.al (Mem.al (hM.out) _ _) _ _) _ _)) | with_reducible have hM2 := Mem.later hb (Mem.al (Mem.al (Mem.drew (Mem.al (hM.out) _ _)) _ _) _ _) | with_reducible have hM2 := Mem.later hb (Mem.drew (Mem.al (Mem.drew (Mem.al (hM.out) _ _)) _ _)) | with_reducible have hM2 := Mem.later hb (Mem.al (Mem.al (Mem.al (Mem.al (Mem.al (hM.out) _ _) _ _) _ _) _ _) _ _) | with_reducible have hM2 := Mem.later hb (Mem.al (Mem.al (Mem.al (Mem.al (Mem.al (Mem.al (hM.out) _ _) _ _) _ _) _ _) _ _) _ _) | with_reducible have hM2 := Mem.later hb (Mem.al (Mem.al (Mem.al (Mem.al (Mem.al (Mem.al (Mem.al (hM.out) _ _) _ _) _ _) _ _) _ _) _ _) _ _) | with_reducible have hM2 := Mem.later hb (Mem.al (Mem.al (Mem.al (Mem.al (Mem.al (Mem.al (Mem.al (Mem.al (hM.out) _ _) _ _) _ _) _ _) _ _) _ _) _ _) _ _)); (try simp only [World.size_alloc, size_drew] at hM2); clear hM; have hM := Lib.hid hM2; clear hF; have hF := hM2; (try simp only [Mem, cellsAt, World.size_alloc, Nat.zero_add, Nat.reduceAdd, and_true] at hF); clear hM2; clear hb; clear hF; have hF : True := trivial) |
    (refine wpList_store_newV rfl (.tmp 8) (.tmp 28) 54 rfl _ (hdL H) _ Tryd.underlying54 rfl (by rw [hdL_len]; kernel_rfl) (by rw [hdL_len]; rfl) (hdL_one _) rfl rfl hM.out ?_; intro W hMW hbW; have hBW := bl_then hB hbW; replace HRc := Lib.hid (HRc.out.later hbW); obtain ⟨b8, hb8⟩ : ∃ b, w4.heap.size = b := ⟨_, rfl⟩; rw [hb8] at hMW; simp only [hb8]; clear hb8; clear hM hF hB; have hM := Lib.hid hMW; have hB := hBW; have hF : True := trivial; clear hMW hbW hBW))
  have hcvb := fun (x : World) (h : Row x ao0 n c 1 (bcells f n)) => row_string (P := Tryd.prog) (T := 36) (S := 9) (zs := bnums f n) x Tryd.underlying36 Tryd.underlying5 Tryd.underlying9 (ao := ao0) (n := n) (c := c) (by rw [← bcells_nums]; exact h)
  obtain ⟨z, hz⟩ : ∃ z, strOfNums (bnums f n) = z := ⟨_, rfl⟩
  rw [hz] at hcvb
  obtain ⟨pl, hpl⟩ : ∃ pl, (putL (m : Int)).length + 81 * m = pl := ⟨_, rfl⟩
  rw [hpl] at HRc
  simp only [hpl]
  by_cases he : er = 0
  · subst he
    have hcc := (HU.out.2.2.1 rfl).1
    have hpn := (HU.out.2.2.1 rfl).2
    rw [hpl] at hpn
    rw [hcc, hpn] at HRc
    subst hpn
    have hcvc := fun (x : World) (h : Row x (some ⟨g3, 0, none⟩) pl cap3 1 (bcells f pl)) => row_string (P := Tryd.prog) (T := 36) (S := 9) (zs := bnums f pl) x Tryd.underlying36 Tryd.underlying5 Tryd.underlying9 (ao := some ⟨g3, 0, none⟩) (n := pl) (c := cap3) (by rw [← bcells_nums]; exact h)
    rw [hz] at hcvc
    clear hcc hpl
    rcases HC.out with ⟨hg, hn80, hfe⟩ | ⟨hg, hH⟩
    · subst hg
      have hzp : strOfNums (bnums (hdF H) 80) = z := by rw [← hz, hn80]; exact congrArg strOfNums (bnums_congr fun i hi => hfe i hi)
      clear hz hn80 hfe HC
      refine wp_plan (fun x => Mem x _ ∧ Row x ao0 pl c 1 (bcells f pl)) [4] [0, 1, 2, 3, 6, 7, 4, 5, 8, 9, 10, 11, 12, 13, 14, 15, 16, 17, 18] (by kernel_rfl) (by kernel_rfl) (⟨Mem.drew hM.out, HRb.out _ (by (repeat (first | exact hB | refine bl_al ?_ _ | refine Below.drew ?_ | refine bl_drewN ?_ _)))⟩) (fun hHeld => ?_)
      iterate 3 (refine wpT_take rfl (by rfl) (by rfl) (by intro w' hSw; (try dsimp only [Mem, cellsAt] at hSw); go_simp; (try with_reducible rfl)) (by assumption) ?_; (try simp only [Act.put, List.setIfInBounds_toArray, List.set_cons_zero, List.set_cons_succ]))
      (refine wpT_yield rfl (by rfl) (Go.yieldsIf_load_mid (by rfl) 54 (.tmp 8) rfl b8 0 rfl (hdL H) _ (fun w' h => rangeAt_of (Mem.get h.1 (by simp))) Tryd.underlying54 rfl (by rw [hdL_len]; kernel_rfl)) (by assumption) ?_; (try simp only [Act.put, List.setIfInBounds_toArray, List.set_cons_zero, List.set_cons_succ]))
      iterate 2 (refine wpT_take rfl (by rfl) (by rfl) (by intro w' hSw; (try dsimp only [Mem, cellsAt] at hSw); go_simp; (try with_reducible rfl)) (by assumption) ?_; (try simp only [Act.put, List.setIfInBounds_toArray, List.set_cons_zero, List.set_cons_succ]))
      (refine wpT_step rfl (by rfl) (fun K hK => ?_); go_simp)
      ((with_reducible refine (HPut.out _).mono ?_); rintro e w1 ⟨gp, rfl, _, hmp, hb⟩; have hrp := row_ofWc (Nat.le_refl 80) hmp.1.2.2; have hcvp := fun (x : World) (h : Row x (some ⟨gp, 0, none⟩) 80 80 1 (bcells (hdF H) 80)) => row_string (P := Tryd.prog) (T := 36) (S := 9) (zs := bnums (hdF H) 80) x Tryd.underlying36 Tryd.underlying5 Tryd.underlying9 (ao := some ⟨gp, 0, none⟩) (n := 80) (c := 80) (by rw [← bcells_nums]; exact h); rw [hzp] at hcvp; clear hmp; have HRc2 := Lib.hid (HRc.out.later (bl_then ((Below.refl _ _).drew) hb)); have hB : Below w.heap.size w w1 := (by refine bl_then ?_ hb; (repeat (first | exact hB | refine bl_al ?_ _ | refine Below.setCell ?_ (by first | exact hgs | exact Nat.le_succ_of_le hgs | exact hgs2 | exact hgs3) _ | refine Below.drew ?_ | refine bl_drewN ?_ _))); (first | with_reducible have hM2 := Mem.later hb (hM.out) | with_reducible have hM2 := Mem.later hb (Mem.al (hM.out) _ _) | with_reducible have hM2 := Mem.later hb (Mem.al (Mem.al (hM.out) _ _) _ _) | with_reducible have hM2 := Mem.later hb (Mem.al (Mem.al (Mem.al (hM.out) _ _) _ _) _ _) | with_reducible have hM2 := Mem.later hb (Mem.al (Mem.al (Mem.al (Mem.al (hM.out) _ _) _ _) _ _) _ _) | with_reducible have hM2 := Mem.later hb (Mem.drew (hM.out)) | with_reducible have hM2 := Mem.later hb (Mem.drew (Mem.al (hM.out) _ _)) | with_reducible have hM2 := Mem.later hb (Mem.al (Mem.drew (hM.out)) _ _) | with_reducible have hM2 := Mem.later hb (Mem.al (Mem.drew (Mem.al (hM.out) _ _)) _ _) | with_reducible have hM2 := Mem.later hb (Mem.drew (Mem.al (Mem.al (hM.out) _ _) _ _)) | with_reducible have hM2 := Mem.later hb (Mem.al (Mem.al (Mem.drew (hM.out)) _ _) _ _) | with_reducible have hM2 := Mem.later hb (Mem.drew (Mem.drew (hM.out))) | with_reducible have hM2 := Mem.later hb (Mem.drew (Mem.al (Mem.drew (hM.out)) _ _)) | with_reducible have hM2 := Mem.later hb (Mem.drew (Mem.al (Mem.al (Mem.al (hM.out) _ _) _ _) _ _)) | with_reducible have hM2 := Mem.later hb (Mem.al (Mem.al (Mem.drew (Mem.al (hM.out) _ _)) _ _) _ _) | with_reducible have hM2 := Mem.later hb (Mem.drew (Mem.al (Mem.drew (Mem.al (hM.out) _ _)) _ _)) | with_reducible have hM2 := Mem.later hb (Mem.al (Mem.al (Mem.al (Mem.al (Mem.al (hM.out) _ _) _ _) _ _) _ _) _ _) | with_reducible have hM2 := Mem.later hb (Mem.al (Mem.al (Mem.al (Mem.al (Mem.al (Mem.al (hM.out) _ _) _ _) _ _) _ _) _ _) _ _) | with_reducible have hM2 := Mem.later hb (Mem.al (Mem.al (Mem.al (Mem.al (Mem.al (Mem.al (Mem.al (hM.out) _ _) _ _) _ _) _ _) _ _) _ _) _ _) | with_reducible have hM2 := Mem.later hb (Mem.al (Mem.al (Mem.al (Mem.al (Mem.al (Mem.al (Mem.al (Mem.al (hM.out) _ _) _ _) _ _) _ _) _ _) _ _) _ _) _ _)); (try simp only [World.size_alloc, size_drew] at hM2); clear hM; have hM := Lib.hid hM2; clear hF; have hF := hM2; (try simp only [Mem, cellsAt, World.size_alloc, Nat.zero_add, Nat.reduceAdd, and_true] at hF); clear hM2; clear hb; clear hF; have hF : True := trivial; (refine hK.out _ _ (fun w' => _ ∧ (fun x => Row x (some ⟨gp, 0, none⟩) 80 80 1 (bcells (hdF H) 80)) w') (fun _ h => h.1) ⟨⟨hM.out, HRb.out _ hB⟩, hrp⟩ (fun hHeld => ?_); clear hK; clear K; (try simp only [Act.put, List.setIfInBounds_toArray, List.set_cons_zero, List.set_cons_succ])))
      iterate 7 (refine wpT_take rfl (by rfl) (by rfl) (by intro w' hSw; (try dsimp only [Mem, cellsAt] at hSw); go_simp; (try with_reducible rfl)) (by assumption) ?_; (try simp only [Act.put, List.setIfInBounds_toArray, List.set_cons_zero, List.set_cons_succ]))
      iterate 3 (refine wpT_pass rfl (by rfl) (by rfl) (by assumption) ?_; (try simp only [Act.put, List.setIfInBounds_toArray, List.set_cons_zero, List.set_cons_succ]))
      iterate 2 (refine wpT_take rfl (by rfl) (by rfl) (by intro w' hSw; (try dsimp only [Mem, cellsAt] at hSw); go_simp; (try with_reducible rfl)) (by assumption) ?_; (try simp only [Act.put, List.setIfInBounds_toArray, List.set_cons_zero, List.set_cons_succ]))
      (refine wpT_nil ?_)
      have hrb := HRb.out _ hB
      have hrc := HRc2.out
      go_wp2
      go_ret
      exact ⟨rfl, by (repeat (first | exact hB | refine bl_al ?_ _ | refine Below.setCell ?_ (by first | exact hgs | exact Nat.le_succ_of_le hgs | exact hgs2 | exact hgs3) _ | refine Below.drew ?_ | refine bl_drewN ?_ _))⟩
    · have hgb : (gv == 0) = false := by simpa using hg
      have hgn : (gv != 0) = true := by simp [bne, hgb]
      have hNe : ∀ x : World, (binOp .neq 54 (hdV H) (.agg Tryd.zeroCells54)).run Tryd.prog x = .ok (.bool false) x := by
        intro x
        rw [hH]
        exact neq_hdr hd0 hd0 false (by rw [hdEq_self]; rfl) x
      have HRc2 := Lib.hid (HRc.out.later (Below.refl _ _).drew)
      clear hg hH hz HC
      refine wp_plan (fun x => Mem x _ ∧ Row x ao0 pl c 1 (bcells f pl)) [4] [0, 1, 2, 3, 6, 7, 4, 5, 8, 9, 10, 11, 12, 13, 14, 15, 16, 17, 18] (by kernel_rfl) (by kernel_rfl) (⟨Mem.drew hM.out, HRb.out _ (by (repeat (first | exact hB | refine bl_al ?_ _ | refine Below.drew ?_ | refine bl_drewN ?_ _)))⟩) (fun hHeld => ?_)
      iterate 3 (refine wpT_take rfl (by rfl) (by rfl) (by intro w' hSw; (try dsimp only [Mem, cellsAt] at hSw); go_simp; (try with_reducible rfl)) (by assumption) ?_; (try simp only [Act.put, List.setIfInBounds_toArray, List.set_cons_zero, List.set_cons_succ]))
      iterate 3 (refine wpT_pass rfl (by rfl) (by rfl) (by assumption) ?_; (try simp only [Act.put, List.setIfInBounds_toArray, List.set_cons_zero, List.set_cons_succ]))
      (refine wpT_step rfl (by rfl) (fun K hK => ?_); go_simp)
      (refine hK.out _ _ _ (fun _ h => h) (⟨hM.out, HRb.out _ (by (repeat (first | exact hB | refine bl_al ?_ _ | refine Below.drew ?_ | refine bl_drewN ?_ _)))⟩) (fun hHeld => ?_); clear hK; clear K; (try simp only [Act.put, List.setIfInBounds_toArray, List.set_cons_zero, List.set_cons_succ]))
      iterate 2 (refine wpT_pass rfl (by rfl) (by rfl) (by assumption) ?_; (try simp only [Act.put, List.setIfInBounds_toArray, List.set_cons_zero, List.set_cons_succ]))
      iterate 5 (refine wpT_take rfl (by rfl) (by rfl) (by intro w' hSw; (try dsimp only [Mem, cellsAt] at hSw); go_simp; (try with_reducible rfl)) (by assumption) ?_; (try simp only [Act.put, List.setIfInBounds_toArray, List.set_cons_zero, List.set_cons_succ]))
      (refine wpT_yield rfl (by rfl) (Go.yieldsIf_load_mid (by rfl) 54 (.tmp 8) rfl b8 0 rfl (hdL H) _ (fun w' h => rangeAt_of (Mem.get h.1 (by simp))) Tryd.underlying54 rfl (by rw [hdL_len]; kernel_rfl)) (by assumption) ?_; (try simp only [Act.put, List.setIfInBounds_toArray, List.set_cons_zero, List.set_cons_succ]))
      iterate 4 (refine wpT_take rfl (by rfl) (by rfl) (by intro w' hSw; (try dsimp only [Mem, cellsAt] at hSw); go_simp; (try with_reducible rfl)) (by assumption) ?_; (try simp only [Act.put, List.setIfInBounds_toArray, List.set_cons_zero, List.set_cons_succ]))
      (refine wpT_nil ?_)
      have hrb := HRb.out _ hB.drew
      have hrc := HRc2.out
      go_wp2
      go_ret
      exact ⟨rfl, by (repeat (first | exact hB | refine bl_al ?_ _ | refine Below.setCell ?_ (by first | exact hgs | exact Nat.le_succ_of_le hgs | exact hgs2 | exact hgs3) _ | refine Below.drew ?_ | refine bl_drewN ?_ _))⟩
  · have hm0 := HU.out.2.2.2 he
    have hmb : ((m : Int) == 0) = true := by rw [hm0]; rfl
    have heb : (er == 0) = false := by simpa using he
    have hen : (er != 0) = true := by simp [bne, heb]
    clear hm0 he hpl
    rcases HC.out with ⟨hg, hn80, hfe⟩ | ⟨hg, hH⟩
    · subst hg
      have hzp : strOfNums (bnums (hdF H) 80) = z := by rw [← hz, hn80]; exact congrArg strOfNums (bnums_congr fun i hi => hfe i hi)
      clear hz hn80 hfe HC
      refine wp_plan (fun x => Mem x _ ∧ Row x ao0 n c 1 (bcells f n)) [4] [0, 1, 2, 3, 6, 7, 4, 5, 8, 9, 10, 11, 12, 13, 14, 15, 16, 17, 18] (by kernel_rfl) (by kernel_rfl) (⟨Mem.drew hM.out, HRb.out _ (by (repeat (first | exact hB | refine bl_al ?_ _ | refine Below.drew ?_ | refine bl_drewN ?_ _)))⟩) (fun hHeld => ?_)
      iterate 3 (refine wpT_take rfl (by rfl) (by rfl) (by intro w' hSw; (try dsimp only [Mem, cellsAt] at hSw); go_simp; (try with_reducible rfl)) (by assumption) ?_; (try simp only [Act.put, List.setIfInBounds_toArray, List.set_cons_zero, List.set_cons_succ]))
      (refine wpT_yield rfl (by rfl) (Go.yieldsIf_load_mid (by rfl) 54 (.tmp 8) rfl b8 0 rfl (hdL H) _ (fun w' h => rangeAt_of (Mem.get h.1 (by simp))) Tryd.underlying54 rfl (by rw [hdL_len]; kernel_rfl)) (by assumption) ?_; (try simp only [Act.put, List.setIfInBounds_toArray, List.set_cons_zero, List.set_cons_succ]))
      iterate 2 (refine wpT_take rfl (by rfl) (by rfl) (by intro w' hSw; (try dsimp only [Mem, cellsAt] at hSw); go_simp; (try with_reducible rfl)) (by assumption) ?_; (try simp only [Act.put, List.setIfInBounds_toArray, List.set_cons_zero, List.set_cons_succ]))
      (refine wpT_step rfl (by rfl) (fun K hK => ?_); go_simp)
      ((with_reducible refine (HPut.out _).mono ?_); rintro e w1 ⟨gp, rfl, _, hmp, hb⟩; have hrp := row_ofWc (Nat.le_refl 80) hmp.1.2.2; have hcvp := fun (x : World) (h : Row x (some ⟨gp, 0, none⟩) 80 80 1 (bcells (hdF H) 80)) => row_string (P := Tryd.prog) (T := 36) (S := 9) (zs := bnums (hdF H) 80) x Tryd.underlying36 Tryd.underlying5 Tryd.underlying9 (ao := some ⟨gp, 0, none⟩) (n := 80) (c := 80) (by rw [← bcells_nums]; exact h); rw [hzp] at hcvp; clear hmp; have HRc2 := Lib.hid (HRc.out.later (bl_then ((Below.refl _ _).drew) hb)); have hB : Below w.heap.size w w1 := (by refine bl_then ?_ hb; (repeat (first | exact hB | refine bl_al ?_ _ | refine Below.setCell ?_ (by first | exact hgs | exact Nat.le_succ_of_le hgs | exact hgs2 | exact hgs3) _ | refine Below.drew ?_ | refine bl_drewN ?_ _))); (first | with_reducible have hM2 := Mem.later hb (hM.out) | with_reducible have hM2 := Mem.later hb (Mem.al (hM.out) _ _) | with_reducible have hM2 := Mem.later hb (Mem.al (Mem.al (hM.out) _ _) _ _) | with_reducible have hM2 := Mem.later hb (Mem.al (Mem.al (Mem.al (hM.out) _ _) _ _) _ _) | with_reducible have hM2 := Mem.later hb (Mem.al (Mem.al (Mem.al (Mem.al (hM.out) _ _) _ _) _ _) _ _) | with_reducible have hM2 := Mem.later hb (Mem.drew (hM.out)) | with_reducible have hM2 := Mem.later hb (Mem.drew (Mem.al (hM.out) _ _)) | with_reducible have hM2 := Mem.later hb (Mem.al (Mem.drew (hM.out)) _ _) | with_reducible have hM2 := Mem.later hb (Mem.al (Mem.drew (Mem.al (hM.out) _ _)) _ _) | with_reducible have hM2 := Mem.later hb (Mem.drew (Mem.al (Mem.al (hM.out) _ _) _ _)) | with_reducible have hM2 := Mem.later hb (Mem.al (Mem.al (Mem.drew (hM.out)) _ _) _ _) | with_reducible have hM2 := Mem.later hb (Mem.drew (Mem.drew (hM.out))) | with_reducible have hM2 := Mem.later hb (Mem.drew (Mem.al (Mem.drew (hM.out)) _ _)) | with_reducible have hM2 := Mem.later hb (Mem.drew (Mem.al (Mem.al (Mem.al (hM.out) _ _) _ _) _ _)) | with_reducible have hM2 := Mem.later hb (Mem.al (Mem.al (Mem.drew (Mem.al (hM.out) _ _)) _ _) _ _) | with_reducible have hM2 := Mem.later hb (Mem.drew (Mem.al (Mem.drew (Mem.al (hM.out) _ _)) _ _)) | with_reducible have hM2 := Mem.later hb (Mem.al (Mem.al (Mem.al (Mem.al (Mem.al (hM.out) _ _) _ _) _ _) _ _) _ _) | with_reducible have hM2 := Mem.later hb (Mem.al (Mem.al (Mem.al (Mem.al (Mem.al (Mem.al (hM.out) _ _) _ _) _ _) _ _) _ _) _ _) | with_reducible have hM2 := Mem.later hb (Mem.al (Mem.al (Mem.al (Mem.al (Mem.al (Mem.al (Mem.al (hM.out) _ _) _ _) _ _) _ _) _ _) _ _) _ _) | with_reducible have hM2 := Mem.later hb (Mem.al (Mem.al (Mem.al (Mem.al (Mem.al (Mem.al (Mem.al (Mem.al (hM.out) _ _) _ _) _ _) _ _) _ _) _ _) _ _) _ _)); (try simp only [World.size_alloc, size_drew] at hM2); clear hM; have hM := Lib.hid hM2; clear hF; have hF := hM2; (try simp only [Mem, cellsAt, World.size_alloc, Nat.zero_add, Nat.reduceAdd, and_true] at hF); clear hM2; clear hb; clear hF; have hF : True := trivial; (refine hK.out _ _ (fun w' => _ ∧ (fun x => Row x (some ⟨gp, 0, none⟩) 80 80 1 (bcells (hdF H) 80)) w') (fun _ h => h.1) ⟨⟨hM.out, HRb.out _ hB⟩, hrp⟩ (fun hHeld => ?_); clear hK; clear K; (try simp only [Act.put, List.setIfInBounds_toArray, List.set_cons_zero, List.set_cons_succ])))
      iterate 7 (refine wpT_take rfl (by rfl) (by rfl) (by intro w' hSw; (try dsimp only [Mem, cellsAt] at hSw); go_simp; (try with_reducible rfl)) (by assumption) ?_; (try simp only [Act.put, List.setIfInBounds_toArray, List.set_cons_zero, List.set_cons_succ]))
      iterate 3 (refine wpT_pass rfl (by rfl) (by rfl) (by assumption) ?_; (try simp only [Act.put, List.setIfInBounds_toArray, List.set_cons_zero, List.set_cons_succ]))
      iterate 2 (refine wpT_take rfl (by rfl) (by rfl) (by intro w' hSw; (try dsimp only [Mem, cellsAt] at hSw); go_simp; (try with_reducible rfl)) (by assumption) ?_; (try simp only [Act.put, List.setIfInBounds_toArray, List.set_cons_zero, List.set_cons_succ]))
      (refine wpT_nil ?_)
      have hrb := HRb.out _ hB
      have hrc := HRc2.out
      go_wp2
      go_ret
      exact ⟨rfl, by (repeat (first | exact hB | refine bl_al ?_ _ | refine Below.setCell ?_ (by first | exact hgs | exact Nat.le_succ_of_le hgs | exact hgs2 | exact hgs3) _ | refine Below.drew ?_ | refine bl_drewN ?_ _))⟩
    · have hgb : (gv == 0) = false := by simpa using hg
      have hgn : (gv != 0) = true := by simp [bne, hgb]
      have hNe : ∀ x : World, (binOp .neq 54 (hdV H) (.agg Tryd.zeroCells54)).run Tryd.prog x = .ok (.bool false) x := by
        intro x
        rw [hH]
        exact neq_hdr hd0 hd0 false (by rw [hdEq_self]; rfl) x
      have HRc2 := Lib.hid (HRc.out.later (Below.refl _ _).drew)
      clear hg hH hz HC
      refine wp_plan (fun x => Mem x _ ∧ Row x ao0 n c 1 (bcells f n)) [4] [0, 1, 2, 3, 6, 7, 4, 5, 8, 9, 10, 11, 12, 13, 14, 15, 16, 17, 18] (by kernel_rfl) (by kernel_rfl) (⟨Mem.drew hM.out, HRb.out _ (by (repeat (first | exact hB | refine bl_al ?_ _ | refine Below.drew ?_ | refine bl_drewN ?_ _)))⟩) (fun hHeld => ?_)
      iterate 3 (refine wpT_take rfl (by rfl) (by rfl) (by intro w' hSw; (try dsimp only [Mem, cellsAt] at hSw); go_simp; (try with_reducible rfl)) (by assumption) ?_; (try simp only [Act.put, List.setIfInBounds_toArray, List.set_cons_zero, List.set_cons_succ]))
      iterate 3 (refine wpT_pass rfl (by rfl) (by rfl) (by assumption) ?_; (try simp only [Act.put, List.setIfInBounds_toArray, List.set_cons_zero, List.set_cons_succ]))
      (refine wpT_step rfl (by rfl) (fun K hK => ?_); go_simp)
      (refine hK.out _ _ _ (fun _ h => h) (⟨hM.out, HRb.out _ (by (repeat (first | exact hB | refine bl_al ?_ _ | refine Below.drew ?_ | refine bl_drewN ?_ _)))⟩) (fun hHeld => ?_); clear hK; clear K; (try simp only [Act.put, List.setIfInBounds_toArray, List.set_cons_zero, List.set_cons_succ]))
      iterate 2 (refine wpT_pass rfl (by rfl) (by rfl) (by assumption) ?_; (try simp only [Act.put, List.setIfInBounds_toArray, List.set_cons_zero, List.set_cons_succ]))
      iterate 5 (refine wpT_take rfl (by rfl) (by rfl) (by intro w' hSw; (try dsimp only [Mem, cellsAt] at hSw); go_simp; (try with_reducible rfl)) (by assumption) ?_; (try simp only [Act.put, List.setIfInBounds_toArray, List.set_cons_zero, List.set_cons_succ]))
      (refine wpT_yield rfl (by rfl) (Go.yieldsIf_load_mid (by rfl) 54 (.tmp 8) rfl b8 0 rfl (hdL H) _ (fun w' h => rangeAt_of (Mem.get h.1 (by simp))) Tryd.underlying54 rfl (by rw [hdL_len]; kernel_rfl)) (by assumption) ?_; (try simp only [Act.put, List.setIfInBounds_toArray, List.set_cons_zero, List.set_cons_succ]))
      iterate 4 (refine wpT_take rfl (by rfl) (by rfl) (by intro w' hSw; (try dsimp only [Mem, cellsAt] at hSw); go_simp; (try with_reducible rfl)) (by assumption) ?_; (try simp only [Act.put, List.setIfInBounds_toArray, List.set_cons_zero, List.set_cons_succ]))
      (refine wpT_nil ?_)
      have hrb := HRb.out _ hB.drew
      have hrc := HRc2.out
      go_wp2
      go_ret
      exact ⟨rfl, by (repeat (first | exact hB | refine bl_al ?_ _ | refine Below.setCell ?_ (by first | exact hgs | exact Nat.le_succ_of_le hgs | exact hgs2 | exact hgs3) _ | refine Below.drew ?_ | refine bl_drewN ?_ _))⟩
end Go.Proofs.YtcaclbblldnnnaaDoor
