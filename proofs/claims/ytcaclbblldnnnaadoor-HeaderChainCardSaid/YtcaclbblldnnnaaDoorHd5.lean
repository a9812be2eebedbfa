/- Package header: PutAll. (hM) -/
import Derived.Test.YtcaclbblldnnnaaDoorHd3
import Derived.Test.YtcaclbblldnnnaaDoorCmp4
namespace Go.Proofs.YtcaclbblldnnnaaDoor
set_option linter.unusedVariables false
set_option linter.unusedSimpArgs false
open Go.RowKit

/-- k of n headers' bytes, and ahead of them how many -/
def allL (L : Nat → Hd) (n : Nat) : Nat → List Value
  | 0 => putL n
  | k + 1 => allL L n k ++ b8l (hdF (L k)) 80 ++ [.int .u8 0]
theorem allL_len (L : Nat → Hd) (n : Nat) : ∀ k, (allL L n k).length = (putL n).length + 81 * k
  | 0 => by rw [allL, Nat.mul_zero, Nat.add_zero]
  | k + 1 => by
    rw [allL, List.length_append, List.length_append, allL_len L n k, b8l_len, List.length_singleton]
    omega
theorem putL_short (n : Nat) : (putL n).length ≤ 9 := by
  rw [putL_len]
  unfold sizeOfN
  split
  · decide
  split
  · decide
  split <;> decide
def PaRel (w : World) (L : Nat → Hd) (n p : Nat) (b i : Value) (wr : World) : Prop :=
  ∃ j g cap : Nat, j ≤ n ∧ i = .int .i64 j ∧ b = .slice (some ⟨g, 0, none⟩) (p + 81 * j) cap ∧ wr.ownsRow w.heap.size 5 1 (.slice (some ⟨g, 0, none⟩) (p + 81 * j) cap) (p + 81 * j) (allL L n j) ∧ Below w.heap.size w wr

set_option maxRecDepth 100000 in
set_option maxHeartbeats 4000000 in
theorem putall_any (L : Nat → Hd) (hL : ∀ i, HdOk (L i)) (lo : Option Addr) (n lc : Nat) (w : World) (hr : SRow w lo n lc 68 (fun i => hdL (L i))) (hn : n ≤ 2000) :
    Calls Tryd.prog 31 #[.slice lo n lc] w fun e w' => ∃ g cap, e = .returned (.tuple #[.slice (some ⟨g, 0, none⟩) ((putL n).length + 81 * n) cap, .int .i64 0]) ∧
      w'.ownsRow w.heap.size 5 1 (.slice (some ⟨g, 0, none⟩) ((putL n).length + 81 * n) cap) ((putL n).length + 81 * n) (allL L n n) ∧ Below w.heap.size w w' := by
  have hp := putL_short n
  have HC := Lib.hid (fun (x : World) => put_any none 0 0 [] (n : Int) x (by omega) (by omega) (by omega) (row_nil x 1))
  obtain ⟨p, hpp⟩ : ∃ p, (putL n).length = p := ⟨_, rfl⟩
  simp only [hpp, Nat.zero_add, List.nil_append] at HC
  rw [hpp] at hp ⊢
  have HR := Lib.hid hr
  have HL := Lib.hid hL
  have HP := Lib.hid hp
  have hn2 : ¬ 2000 < (n : Int) := by omega
  have hw1 : IntKind.u64.wrap (n : Int) = (n : Int) := by rw [IntKind.wrap_u64]; omega
  have HN := Lib.hid hn
  clear hr hL hpp hp hn
  go_enter Tryd.func31, Tryd.ntmps31
  go_wp2_with (go_at_call 50; (with_reducible refine (HC.out _).mono ?_); rintro e w0 ⟨g0, cap0, rfl, hown0, hb0⟩; replace hown0 := Lib.hid hown0; replace hb0 := Lib.hid hb0)
  go_loopw [4, 16] (fun b i wr => PaRel w L n p b i wr) (fun _ i _ => n - (intOf i).toNat)
  case atStart => exact ⟨0, g0, cap0, Nat.zero_le _, rfl, rfl, hown0.out, hb0.out⟩
  case round =>
    obtain ⟨j, g, cap, hj, rfl, rfl, hown, hB⟩ := hrel
    clear hown0 hb0
    have HO := Lib.hid hown
    have HB := Lib.hid hB
    clear hown hB
    by_cases hlt : j < n
    · obtain ⟨b, off, rfl⟩ := HR.out.addr (by decide) (by omega)
      obtain ⟨q, hq⟩ : ∃ q, p + 81 * j = q := ⟨_, rfl⟩
      have hq2 : q ≤ 200000 := by have := HP.out; have := HN.out; omega
      have HQ := Lib.hid (And.intro hq hq2)
      rw [hq] at HO
      have hblt : b < w.heap.size := HR.out.lt (by decide) (by omega) _ rfl
      have hjn : (j : Int) < (n : Int) := by omega
      have HC0 : Hid (wr.rangeAt b (off + j * 68) (hdL (L j))) := fun k v hk => by rw [Nat.add_assoc]; exact (HB.out.cell (p := ⟨b, off + (j * 68 + k), none⟩) hblt).trans (HR.out.cells _ rfl j hlt k v hk).2
      have HPut := Lib.hid (fun (x : World) => hput_any (L j) (HL.out j) x)
      clear hq hq2 hblt
      simp only [HQ.out.1]
      go_wp2_with (first |
        (refine Go.wpList_load_mid rfl 54 (.tmp 18) rfl b (off + j * 68) rfl (hdL (L j)) _ HC0.out Tryd.underlying54 rfl (by rw [hdL_len]; kernel_rfl) ?_) |
        (refine wpList_store_newV rfl (.tmp 6) (.tmp 19) 54 rfl _ (hdL (L j)) _ Tryd.underlying54 rfl (by rw [hdL_len]; kernel_rfl) (by rw [hdL_len]; rfl) (hdL_one _) rfl rfl (mem_nil wr) ?_; intro W hMW hbW; have HMW := Lib.hid hMW; have HO1 := Lib.hid (ownsRow_later HO.out hbW); have HB1 := Lib.hid (bl_then HB.out hbW); clear hMW hbW) |
        (refine Go.wpList_load_mid rfl 54 (.tmp 6) rfl wr.heap.size 0 rfl (hdL (L j)) _ (rangeAt_of HMW.out.1.2.2) Tryd.underlying54 rfl (by rw [hdL_len]; kernel_rfl) ?_) |
        (go_at_call 29; (with_reducible refine (HPut.out _).mono ?_); rintro e w1 ⟨g1, rfl, _, hm1, hb1⟩; have HR1 := Lib.hid (row_ofWc (Nat.le_refl 80) hm1.1.2.2); have HO2 := Lib.hid (ownsRow_later HO1.out hb1); have HB2 := Lib.hid (bl_then HB1.out hb1); clear hm1 hb1) |
        (refine wpList_appN eltU8 w _ HB2.out rfl (.tmp 20) (.tmp 22) rfl (some ⟨g, 0, none⟩) q cap (allL L n j) rfl (.inr ⟨g, rfl, HO2.out⟩) (some ⟨g1, 0, none⟩) 80 80 (bcells (hdF (L j)) 80) rfl HR1.out (fun h => by cases h) (by have := HQ.out.2; omega) ?_; intro g2 cap2 w2 hown2 hb2; have HO3 := Lib.hid hown2; have HB3 := Lib.hid hb2; clear hown2 hb2) |
        (refine wpList_appN eltU8 w _ (bl_al HB3.out _) rfl (.tmp 24) (.tmp 25) rfl (some ⟨g2, 0, none⟩) (q + 80) cap2 (allL L n j ++ bcells (hdF (L j)) 80) rfl (.inr ⟨g2, rfl, ownsRow_later HO3.out (below_alloc _ _)⟩) (some ⟨w2.heap.size, 0, none⟩) 1 1 [.int .u8 0] rfl (row_new w2 #[.int .u8 0] 5 1 1 1 rfl (Nat.le_refl _) (by simp [Value.oneCell'])) (fun h => by cases h) (by have := HQ.out.2; omega) ?_; intro g3 cap3 w3 hown3 hb3; have HO4 := Lib.hid hown3; have HB4 := Lib.hid hb3; clear hown3 hb3))
      have hz : q + 80 + 1 = p + 81 * (j + 1) := by have := HQ.out.1; omega
      refine ⟨⟨j + 1, g3, cap3, by omega, by go_num, by rw [← hz], ?_, HB4.out⟩, by simp [intOf]; omega⟩
      have h4 := HO4.out
      rw [hz] at h4
      exact h4
    · have hje : j = n := by omega
      subst hje
      have hjj : ¬ (j : Int) < (j : Int) := by omega
      go_wp2
      go_ret2
      exact ⟨g, cap, rfl, HO.out, HB.out⟩
theorem putall_big (lo : Option Addr) (n lc : Nat) (w : World) (hn : 2000 < n) :
    Calls Tryd.prog 31 #[.slice lo n lc] w fun e w' => e = .returned (.tuple #[.slice none 0 0, .int .i64 3]) ∧ w = w' := by
  have hn2 : 2000 < (n : Int) := by omega
  go_enter Tryd.func31, Tryd.ntmps31
  go_wp2
  go_ret2
  exact ⟨rfl, rfl⟩
end Go.Proofs.YtcaclbblldnnnaaDoor
