/- florinlaw02: cube, and the tables of roots. (hM) -/
import Derived.Test.YtpdgeiflmnhkfaaDoorSr1
import Derived.Test.YtpdgeiflmnhkfaaDoorTg6
import Derived.Test.YtpdgeiflmnhkfaaDoorSh9
import Derived.Test.YtpdgeiflmnhkfaaDoorSs1
import Derived.Test.YtpdgeiflmnhkfaaDoorAndI
import Derived.Laws.BitsAllLaws
namespace Go.Proofs.YtpdgeiflmnhkfaaDoor
set_option linter.unusedVariables false
set_option linter.unusedSimpArgs false
open Go.RowKit

set_option maxHeartbeats 4000000 in
theorem cube_any (x : Int) (hx : 0 ≤ x ∧ x < 137438953472) {s0 s1 s2 s3 c0 c1 c2 c3 : Int} (hs : B4 s0 s1 s2 s3) (hsn : N4 s0 s1 s2 s3 = x * x) (hc : B4 c0 c1 c2 c3) (hcn : N4 c0 c1 c2 c3 = x * x * x) (w : World) :
    Calls Tryd.prog 41 #[.int .u64 x] w fun e w' => e = .returned (U4 c0 c1 c2 c3) ∧ Below w.heap.size w w' := by
  have hm := b4_small x (by unfold WI; omega)
  have hxw : 0 ≤ x ∧ x < WI := by unfold WI; omega
  have HOf := Lib.hid (fun w => of_any x w)
  have HM1 := Lib.hid (fun w => mul_is hm.1 hs x 0 hxw (by rw [hm.2, hsn, Int.mul_zero, Int.add_zero]) false rfl w)
  have HM2 := Lib.hid (fun w => mul_is hs hc x 0 hxw (by rw [hsn, hcn, Int.mul_zero, Int.add_zero]) false rfl w)
  have hB := Below.refl w.heap.size w
  have hM := Lib.hid (mem_nil w)
  have hF : True := trivial
  clear hm hxw hx hs hsn hc hcn
  go_enter Tryd.func41, Tryd.ntmps41
  go_wp2_with (first |
    (go_at_call 39; (with_reducible refine (HOf.out _).mono ?_); rintro e w1 ⟨rfl, hb⟩; have hB : Below w.heap.size w w1 := (by refine bl_then ?_ hb; (repeat (first | exact hB | refine bl_al ?_ _ | refine Below.setCell ?_ (by first | exact hgs | exact Nat.le_succ_of_le hgs | exact hgs2 | exact hgs3) _ | refine Below.drew ?_ | refine bl_drewN ?_ _))); (first | with_reducible have hM2 := Mem.later hb (hM.out) | with_reducible have hM2 := Mem.later hb (Mem.al (hM.out) _ _) | with_reducible have hM2 := Mem.later hb (Mem.al (Mem.al (hM.out) _ _) _ _) | with_reducible have hM2 := Mem.later hb (Mem.al (Mem.al (Mem.al (hM.out) _ _) _ _) _ _) | with_reducible have hM2 := Mem.later hb (Mem.al (Mem.al (Mem.al (Mem.al (hM.out) _ _) _ _) _ _) _ _) | with_reducible have hM2 := Mem.later hb (Mem.drew (hM.out)) | with_reducible have hM2 := Mem.later hb (Mem.drew (Mem.al (hM.out) _ _)) | with_reducible have hM2 := Mem.later hb (Mem.al (Mem.drew (hM.out)) _ _) | with_reducible have hM2 := Mem.later hb (Mem.al (Mem.drew (Mem.al (hM.out) _ _)) _ _) | with_reducible have hM2 := Mem.later hb (Mem.drew (Mem.al (Mem.al (hM.out) _ _) _ _)) | with_reducible have hM2 := Mem.later hb (Mem.al (Mem.al (Mem.drew (hM.out)) _ _) _ _) | with_reducible have hM2 := Mem.later hb (Mem.drew (Mem.drew (hM.out))) | with_reducible have hM2 := Mem.later hb (Mem.drew (Mem.al (Mem.drew (hM.out)) _ _)) | with_reducible have hM2 := Mem.later hb (Mem.drew (Mem.al (Mem.al (Mem.al (hM.out) _ _) _ _) _ _)) | with_reducible have hM2 := Mem.later hb (Mem.al (Mem.al (Mem.drew (Mem.al (hM.out) _ _)) _ _) _ _) | with_reducible have hM2 := Mem.later hb (Mem.drew (Mem.al (Mem.drew (Mem.al (hM.out) _ _)) _ _)) | with_reducible have hM2 := Mem.later hb (Mem.al (Mem.al (Mem.al (Mem.al (Mem.al (hM.out) _ _) _ _) _ _) _ _) _ _) | with_reducible have hM2 := Mem.later hb (Mem.al (Mem.al (Mem.al (Mem.al (Mem.al (Mem.al (hM.out) _ _) _ _) _ _) _ _) _ _) _ _) | with_reducible have hM2 := Mem.later hb (Mem.al (Mem.al (Mem.al (Mem.al (Mem.al (Mem.al (Mem.al (hM.out) _ _) _ _) _ _) _ _) _ _) _ _) _ _) | with_reducible have hM2 := Mem.later hb (Mem.al (Mem.al (Mem.al (Mem.al (Mem.al (Mem.al (Mem.al (Mem.al (hM.out) _ _) _ _) _ _) _ _) _ _) _ _) _ _) _ _)); (try simp only [World.size_alloc, size_drew] at hM2); clear hM; have hM := Lib.hid hM2; clear hF; have hF := hM2; (try simp only [Mem, cellsAt, World.size_alloc, Nat.zero_add, Nat.reduceAdd, and_true] at hF); clear hM2; clear hb) |
    (go_at_call 43; (with_reducible refine (HM1.out _).mono ?_); rintro e w2 ⟨rfl, hb⟩; have hB : Below w.heap.size w w2 := (by refine bl_then ?_ hb; (repeat (first | exact hB | refine bl_al ?_ _ | refine Below.setCell ?_ (by first | exact hgs | exact Nat.le_succ_of_le hgs | exact hgs2 | exact hgs3) _ | refine Below.drew ?_ | refine bl_drewN ?_ _))); (first | with_reducible have hM2 := Mem.later hb (hM.out) | with_reducible have hM2 := Mem.later hb (Mem.al (hM.out) _ _) | with_reducible have hM2 := Mem.later hb (Mem.al (Mem.al (hM.out) _ _) _ _) | with_reducible have hM2 := Mem.later hb (Mem.al (Mem.al (Mem.al (hM.out) _ _) _ _) _ _) | with_reducible have hM2 := Mem.later hb (Mem.al (Mem.al (Mem.al (Mem.al (hM.out) _ _) _ _) _ _) _ _) | with_reducible have hM2 := Mem.later hb (Mem.drew (hM.out)) | with_reducible have hM2 := Mem.later hb (Mem.drew (Mem.al (hM.out) _ _)) | with_reducible have hM2 := Mem.later hb (Mem.al (Mem.drew (hM.out)) _ _) | with_reducible have hM2 := Mem.later hb (Mem.al (Mem.drew (Mem.al (hM.out) _ _)) _ _) | with_reducible have hM2 := Mem.later hb (Mem.drew (Mem.al (Mem.al (hM.out) _ _) _ _)) | with_reducible have hM2 := Mem.later hb (Mem.al (Mem.al (Mem.drew (hM.out)) _ _) _ _) | with_reducible have hM2 := Mem.later hb (Mem.drew (Mem.drew (hM.out))) | with_reducible have hM2 := Mem.later hb (Mem.drew (Mem.al (Mem.drew (hM.out)) _ _)) | with_reducible have hM2 := Mem.later hb (Mem.drew (Mem.al (Mem.al (Mem.al (hM.out) _ _) _ _) _ _)) | with_reducible have hM2 := Mem.later hb (Mem.al (Mem.al (Mem.drew (Mem.al (hM.out) _ _)) _ _) _ _) | with_reducible have hM2 := Mem.later hb (Mem.drew (Mem.al (Mem.drew (Mem.al (hM.out) _ _)) _ _)) | with_reducible have hM2 := Mem.later hb (Mem.al (Mem.al (Mem.al (Mem.al (Mem.al (hM.out) _ _) _ _) _ _) _ _) _ _) | with_reducible have hM2 := Mem.later hb (Mem.al (Mem.al (Mem.al (Mem.al (Mem.al (Mem.al (hM.out) _ _) _ _) _ _) _ _) _ _) _ _) | with_reducible have hM2 := Mem.later hb (Mem.al (Mem.al (Mem.al (Mem.al (Mem.al (Mem.al (Mem.al (hM.out) _ _) _ _) _ _) _ _) _ _) _ _) _ _) | with_reducible have hM2 := Mem.later hb (Mem.al (Mem.al (Mem.al (Mem.al (Mem.al (Mem.al (Mem.al (Mem.al (hM.out) _ _) _ _) _ _) _ _) _ _) _ _) _ _) _ _)); (try simp only [World.size_alloc, size_drew] at hM2); clear hM; have hM := Lib.hid hM2; clear hF; have hF := hM2; (try simp only [Mem, cellsAt, World.size_alloc, Nat.zero_add, Nat.reduceAdd, and_true] at hF); clear hM2; clear hb) |
    (go_at_call 43; (with_reducible refine (HM2.out _).mono ?_); rintro e w3 ⟨rfl, hb⟩; have hB : Below w.heap.size w w3 := (by refine bl_then ?_ hb; (repeat (first | exact hB | refine bl_al ?_ _ | refine Below.setCell ?_ (by first | exact hgs | exact Nat.le_succ_of_le hgs | exact hgs2 | exact hgs3) _ | refine Below.drew ?_ | refine bl_drewN ?_ _))); (first | with_reducible have hM2 := Mem.later hb (hM.out) | with_reducible have hM2 := Mem.later hb (Mem.al (hM.out) _ _) | with_reducible have hM2 := Mem.later hb (Mem.al (Mem.al (hM.out) _ _) _ _) | with_reducible have hM2 := Mem.later hb (Mem.al (Mem.al (Mem.al (hM.out) _ _) _ _) _ _) | with_reducible have hM2 := Mem.later hb (Mem.al (Mem.al (Mem.al (Mem.al (hM.out) _ _) _ _) _ _) _ _) | with_reducible have hM2 := Mem.later hb (Mem.drew (hM.out)) | with_reducible have hM2 := Mem.later hb (Mem.drew (Mem.al (hM.out) _ _)) | with_reducible have hM2 := Mem.later hb (Mem.al (Mem.drew (hM.out)) _ _) | with_reducible have hM2 := Mem.later hb (Mem.al (Mem.drew (Mem.al (hM.out) _ _)) _ _) | with_reducible have hM2 := Mem.later hb (Mem.drew (Mem.al (Mem.al (hM.out) _ _) _ _)) | with_reducible have hM2 := Mem.later hb (Mem.al (Mem.al (Mem.drew (hM.out)) _ _) _ _) | with_reducible have hM2 := Mem.later hb (Mem.drew (Mem.drew (hM.out))) | with_reducible have hM2 := Mem.later hb (Mem.drew (Mem.al (Mem.drew (hM.out)) _ _)) | with_reducible have hM2 := Mem.later hb (Mem.drew (Mem.al (Mem.al (Mem.al (hM.out) _ _) _ _) _ _)) | with_reducible have hM2 := Mem.later hb (Mem.al (Mem.al (Mem.drew (Mem.al (hM.out) _ _)) _ _) _ _) | with_reducible have hM2 := Mem.later hb (Mem.drew (Mem.al (Mem.drew (Mem.al (hM.out) _ _)) _ _)) | with_reducible have hM2 := Mem.later hb (Mem.al (Mem.al (Mem.al (Mem.al (Mem.al (hM.out) _ _) _ _) _ _) _ _) _ _) | with_reducible have hM2 := Mem.later hb (Mem.al (Mem.al (Mem.al (Mem.al (Mem.al (Mem.al (hM.out) _ _) _ _) _ _) _ _) _ _) _ _) | with_reducible have hM2 := Mem.later hb (Mem.al (Mem.al (Mem.al (Mem.al (Mem.al (Mem.al (Mem.al (hM.out) _ _) _ _) _ _) _ _) _ _) _ _) _ _) | with_reducible have hM2 := Mem.later hb (Mem.al (Mem.al (Mem.al (Mem.al (Mem.al (Mem.al (Mem.al (Mem.al (hM.out) _ _) _ _) _ _) _ _) _ _) _ _) _ _) _ _)); (try simp only [World.size_alloc, size_drew] at hM2); clear hM; have hM := Lib.hid hM2; clear hF; have hF := hM2; (try simp only [Mem, cellsAt, World.size_alloc, Nat.zero_add, Nat.reduceAdd, and_true] at hF); clear hM2; clear hb))
  have hgs : w.heap.size ≤ w.heap.size := Nat.le_refl _
  exact bodyPost_ret (v := U4 c0 c1 c2 c3) (by simp [results, Tryd.results41, go_sem, hF]) rfl ⟨rfl, by (repeat (first | exact hB | refine bl_al ?_ _ | refine Below.setCell ?_ (by first | exact hgs | exact Nat.le_succ_of_le hgs | exact hgs2 | exact hgs3) _ | refine Below.drew ?_ | refine bl_drewN ?_ _))⟩

def wloop3 (p : Nat) : Nat → Nat → Nat
  | 0, w => w
  | f + 1, w => if (w + 1) * (w + 1) * (w + 1) ≤ p then wloop3 p f (w + 1) else w
def w3F (p : Nat) : Nat := wloop3 p 10 1
def wloop2 (p : Nat) : Nat → Nat → Nat
  | 0, w => w
  | f + 1, w => if (w + 1) * (w + 1) ≤ p then wloop2 p f (w + 1) else w
def w2F (p : Nat) : Nat := wloop2 p 20 1
/-- the digits told, with those ahead of the point -/
def x3F (N : Nat) : Int := (w3F (prF N) : Int) * 4294967296 + kF N
def x2F (N : Nat) : Int := (w2F (prF N) : Int) * 4294967296 + hF0 N
def okR (N : Nat) : Bool := decide (prF N ≤ 400) && (decide (0 ≤ kF N ∧ kF N < 4294967296) && (decide (w3F (prF N) ≤ 8) && (decide (x3F N * x3F N * x3F N ≤ (prF N : Int) * 79228162514264337593543950336) && decide ((prF N : Int) * 79228162514264337593543950336 < (x3F N + 1) * (x3F N + 1) * (x3F N + 1)))))
def okS (N : Nat) : Bool := decide (0 ≤ hF0 N ∧ hF0 N < 4294967296) && (decide (w2F (prF N) ≤ 20) && (decide (x2F N * x2F N ≤ (prF N : Int) * 18446744073709551616) && decide ((prF N : Int) * 18446744073709551616 < (x2F N + 1) * (x2F N + 1))))
theorem okR_all : ∀ N : Fin 64, okR N.val = true := by decide +kernel
theorem okS_all : ∀ N : Fin 8, okS N.val = true := by decide +kernel
structure RootR (N : Nat) : Prop where
  p : prF N ≤ 400
  k : 0 ≤ kF N ∧ kF N < 4294967296
  a : w3F (prF N) ≤ 8
  lo : x3F N * x3F N * x3F N ≤ (prF N : Int) * 79228162514264337593543950336
  hi : (prF N : Int) * 79228162514264337593543950336 < (x3F N + 1) * (x3F N + 1) * (x3F N + 1)
theorem rootR (N : Nat) (h : N < 64) : RootR N := by
  have := okR_all ⟨N, h⟩
  unfold okR at this
  simp only [Bool.and_eq_true, decide_eq_true_eq] at this
  exact ⟨this.1, this.2.1, this.2.2.1, this.2.2.2.1, this.2.2.2.2⟩
structure RootS (N : Nat) : Prop where
  k : 0 ≤ hF0 N ∧ hF0 N < 4294967296
  a : w2F (prF N) ≤ 20
  lo : x2F N * x2F N ≤ (prF N : Int) * 18446744073709551616
  hi : (prF N : Int) * 18446744073709551616 < (x2F N + 1) * (x2F N + 1)
theorem rootS (N : Nat) (h : N < 8) : RootS N := by
  have := okS_all ⟨N, h⟩
  unfold okS at this
  simp only [Bool.and_eq_true, decide_eq_true_eq] at this
  exact ⟨this.1, this.2.1, this.2.2.1, this.2.2.2⟩
theorem join32 (a : Nat) (k : Int) (ha : a ≤ 1000) (hk : 0 ≤ k ∧ k < 4294967296) : bits .or .u64 ((a : Int) * 4294967296) k = (a : Int) * 4294967296 + k := by
  obtain ⟨K, rfl⟩ := Int.eq_ofNat_of_zero_le hk.1
  have e : (a : Int) * 4294967296 = ((2 ^ 32 * a : Nat) : Int) := by omega
  rw [e, u64_or_nat _ _ (by omega) (by omega), ← Nat.two_pow_add_eq_or_of_lt (show K < 2 ^ 32 by omega)]
  omega
theorem and_63 (x : Int) : ∃ n : Nat, bits .and .i64 x 63 = (n : Int) ∧ n ≤ 63 := by
  have h : 0 ≤ bits .and .i64 x 63 ∧ bits .and .i64 x 63 ≤ 63 := and_i64 x 63 (by omega)
  exact ⟨(bits .and .i64 x 63).toNat, by omega, by omega⟩
end Go.Proofs.YtpdgeiflmnhkfaaDoor
