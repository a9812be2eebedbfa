/- U256Divides: the walk of the law (made by gen_dvs.py). -/
import Derived.Test.YtlfabchlblgmbaaUShf
import Derived.Test.YtlfabchlblgmbaaFlt
namespace Go.Proofs.Ytlfabchlblgmbaa
set_option linter.unusedVariables false
set_option linter.unusedSimpArgs false
open Go.RowKit

theorem mul_ex {a0 a1 a2 a3 : Int} (ha : B4 a0 a1 a2 a3) (k : Int) (hk : 0 ≤ k) : ∃ s0 s1 s2 s3 c : Int, B4 s0 s1 s2 s3 ∧ 0 ≤ c ∧ N4 a0 a1 a2 a3 * k = N4 s0 s1 s2 s3 + WW * c := by
  have hn := ha.nn
  have hp : 0 ≤ N4 a0 a1 a2 a3 * k := Int.mul_nonneg hn.1 hk
  obtain ⟨s0, s1, s2, s3, hs, he⟩ := b4_of (N4 a0 a1 a2 a3 * k % WW) ⟨Int.emod_nonneg _ (by decide), Int.emod_lt_of_pos _ (by decide)⟩
  refine ⟨s0, s1, s2, s3, N4 a0 a1 a2 a3 * k / WW, hs, Int.ediv_nonneg hp (by decide), ?_⟩
  rw [he]
  have := Int.mul_ediv_add_emod (N4 a0 a1 a2 a3 * k) WW
  omega
theorem mul_is {a0 a1 a2 a3 s0 s1 s2 s3 : Int} (ha : B4 a0 a1 a2 a3) (hs : B4 s0 s1 s2 s3) (k c : Int) (hk : 0 ≤ k ∧ k < WI) (h : N4 a0 a1 a2 a3 * k = N4 s0 s1 s2 s3 + WW * c) (lost : Bool) (hl : (c != 0) = lost) (w : World) :
    Calls Try.prog 13 #[U4 a0 a1 a2 a3, .int .u64 k] w fun e w' => e = .returned (.tuple #[U4 s0 s1 s2 s3, .bool lost]) ∧ Below w.heap.size w w' := by
  refine (mul_parts ha k hk w).mono ?_
  rintro e w' ⟨t0, t1, t2, t3, d, rfl, ht, hd, he, hbl⟩
  have h1 := ht.nn
  have h2 := hs.nn
  rw [h] at he
  have hdc : d = c ∧ N4 t0 t1 t2 t3 = N4 s0 s1 s2 s3 := by
    unfold WW WI at *
    omega
  obtain ⟨rfl, h3⟩ := hdc
  obtain ⟨rfl, rfl, rfl, rfl⟩ := ht.inj hs h3
  exact ⟨by rw [hl], hbl⟩
theorem neq_same (a0 a1 a2 a3 : Int) (w : World) : (binOp .neq 26 (U4 a0 a1 a2 a3) (U4 a0 a1 a2 a3)).run Try.prog w = .ok (.bool false) w := by
  have := neqArr Try.prog 4 26 22 .u64 Try.underlying26 Try.underlying22 (by kernel_rfl) [a0, a1, a2, a3] [a0, a1, a2, a3] rfl rfl w
  rw [show (!([a0, a1, a2, a3] == [a0, a1, a2, a3])) = false by simp] at this
  exact this
end Go.Proofs.Ytlfabchlblgmbaa
