/- Package compact: contracts of Size and sizeBehind. -/
import Derived.Test.YtpifenhboblcfaaBase
namespace Go.Proofs.Ytpifenhboblcfaa
set_option linter.unusedVariables false
set_option linter.unusedSimpArgs false
open Go.RowKit

def sizeOfN (n : Int) : Int := if n < 253 then 1 else if n < 65536 then 3 else if n < 4294967296 then 5 else 9

set_option maxHeartbeats 400000 in
theorem size_any (n : Int) (w : World) :
    Calls Try.prog 17 #[.int .u64 n] w fun e w' => e = .returned (.int .i64 (sizeOfN n)) ∧ w = w' := by
  by_cases h1 : n < 253
  · have h2 : n < 65536 := by omega
    have h3 : n < 4294967296 := by omega
    have H : Hid (sizeOfN n = 1) := by simp [sizeOfN, h1, Hid]
    go_enter Try.func17, Try.ntmps17
    go_wp2
    go_ret
    rw [H.out]; exact ⟨rfl, rfl⟩
  by_cases h2 : n < 65536
  · have h3 : n < 4294967296 := by omega
    have H : Hid (sizeOfN n = 3) := by simp [sizeOfN, h1, h2, Hid]
    go_enter Try.func17, Try.ntmps17
    go_wp2
    go_ret
    rw [H.out]; exact ⟨rfl, rfl⟩
  by_cases h3 : n < 4294967296
  · have H : Hid (sizeOfN n = 5) := by simp [sizeOfN, h1, h2, h3, Hid]
    go_enter Try.func17, Try.ntmps17
    go_wp2
    go_ret
    rw [H.out]; exact ⟨rfl, rfl⟩
  · have H : Hid (sizeOfN n = 9) := by simp [sizeOfN, h1, h2, h3, Hid]
    go_enter Try.func17, Try.ntmps17
    go_wp2
    go_ret
    rw [H.out]; exact ⟨rfl, rfl⟩

def sizeBehindN (n : Int) : Int := if n = 255 then 9 else if n = 254 then 5 else if n = 253 then 3 else 1

set_option maxHeartbeats 400000 in
theorem sizeBehind_any (n : Int) (w : World) :
    Calls Try.prog 19 #[.int .u8 n] w fun e w' => e = .returned (.int .i64 (sizeBehindN n)) ∧ w = w' := by
  by_cases h1 : n = 255
  · subst h1
    go_enter Try.func19, Try.ntmps19
    go_wp2
    go_ret
    exact ⟨rfl, rfl⟩
  by_cases h2 : n = 254
  · subst h2
    go_enter Try.func19, Try.ntmps19
    go_wp2
    go_ret
    exact ⟨rfl, rfl⟩
  by_cases h3 : n = 253
  · subst h3
    go_enter Try.func19, Try.ntmps19
    go_wp2
    go_ret
    exact ⟨rfl, rfl⟩
  · have H : Hid (sizeBehindN n = 1) := by simp [sizeBehindN, h1, h2, h3, Hid]
    go_enter Try.func19, Try.ntmps19
    go_wp2
    go_ret
    rw [H.out]; exact ⟨rfl, rfl⟩
end Go.Proofs.Ytpifenhboblcfaa
