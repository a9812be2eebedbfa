/- SHA-256: turned, words. (hM) -/
import Derived.Test.YtlfabchlblgmbaaDoorSh0
import Derived.Test.YtlfabchlblgmbaaDoorWpy
namespace Go.Proofs.YtlfabchlblgmbaaDoor
set_option linter.unusedVariables false
set_option linter.unusedSimpArgs false
open Go.RowKit

set_option maxHeartbeats 1000000 in
theorem rotl_any (x : Int) (n : Nat) (hn : 0 < n ∧ n < 32) (w : World) : Calls Tryd.prog 83 #[.int .u32 x, .int .i64 (-(n : Int))] w fun e w' => e = .returned (.int .u32 (rotR x n)) ∧ w = w' := by
  have h1 : ∀ m : Fin 32, 0 < m.val → bits .and .u64 (IntKind.u64.wrap (-((m.val : Nat) : Int))) 31 = ((32 - m.val : Nat) : Int) := by decide +kernel
  have h2 := h1 ⟨n, hn.2⟩ hn.1
  dsimp only at h2
  obtain ⟨m, hm⟩ : ∃ m, 32 - n = m := ⟨_, rfl⟩
  have hmn : m + n = 32 := by omega
  have h3 : IntKind.u64.wrap (32 - (m : Int)) = (n : Int) := by rw [IntKind.wrap_u64]; omega
  rw [hm] at h2
  have h32 : (m : Int) ≤ 32 := by omega
  have hn32 : (n : Int) ≤ 32 := by omega
  unfold rotR
  rw [hm]
  clear h1 hm
  go_enter Tryd.func83, Tryd.ntmps83
  go_wp2
  go_ret
  exact ⟨rfl, rfl⟩
set_option maxHeartbeats 1000000 in
theorem turned_any2 (x : Int) (n : Nat) (hn : 0 < n ∧ n < 32) (w : World) : Calls Tryd.prog 65 #[.int .u32 x, .int .i64 n] w fun e w' => e = .returned (.int .u32 (rotR x n)) ∧ w = w' := by
  have hn32 : (n : Int) ≤ 32 := by omega
  have hn0 : 0 ≤ (n : Int) := by omega
  have HR := Lib.hid (fun w => rotl_any x n hn w)
  go_enter Tryd.func65, Tryd.ntmps65
  go_wp2_with (go_at_call 83; (with_reducible refine (HR.out _).mono ?_); rintro e w1 ⟨rfl, rfl⟩)
  go_ret
  exact ⟨rfl, rfl⟩
end Go.Proofs.YtlfabchlblgmbaaDoor
