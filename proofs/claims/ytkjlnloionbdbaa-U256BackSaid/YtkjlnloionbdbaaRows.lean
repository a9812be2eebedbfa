/-
  No cell of these rows narrows 'for every input' (looked for: loops, veiled, ifaces, maps, wideKeys, modest, calm, conditions, laid).
  DERIVED. THE GIVEN ROWS OF THIS SEAT. 12 by the template 'for every input the law returns true; each argument reads behind the call as it read before'; 0 by the template 'total and deterministic' (their statements: YtkjlnloionbdbaaTotals.lean).
  GIVEN WITH THE SEED: the statements are not yours to turn. If you find one false, say at which input.
  Laid BY PROGRAM, IN A SANDBOX (cutbox-rows.mjs): the forced cells as the released guide's own fill.sh prints them over the translation 6df34031395215a1… (all of the seat's roots in one cut). By AI agents, Wed Nov 11 2026. No macro, syntax, notation, axiom, sorry.
-/
import Derived.Test.YtkjlnloionbdbaaChecked
import GoSem.Claim
import GoSem.ClaimJoined
import GoSem.ClaimMapViews
import Derived.JoinedTies
import Derived.KernelRfl
namespace Go.Proofs.Ytkjlnloionbdbaa
/- THE CELL 'sum', in the pinned program and in every row, IS THE sha256 OF THE DUMP (.gsa) THAT YtkjlnloionbdbaaProg.lean LOADS. Nothing in Lean hashes anything: it is a label: what it is worth is what the hold of that sum in a sandbox is worth. -/
noncomputable def Try.pinned : Pinned := { name := "ytkjlnloionbdbaa", sum := "6df34031395215a1de3e15269cd022a21cfb7ca3b5af231134d5054ef8d33e1b", checked := Try.checked }
namespace Rows
def none {H : Type} : Left H := { results := [], args := [] }

/-- 'florinlaw01.U256Back': WHATEVER THE INPUT: true; the input reads as it did. -/
def u256BackSpec : ChangeSpec := { name := "u256Back", fn := fun _ => fun
  | [d] => { results := [.lit (.bool true)], args := [d] }
  | _ => none }
def u256BackRow : OpenClaim := { program := "ytkjlnloionbdbaa", sum := "6df34031395215a1de3e15269cd022a21cfb7ca3b5af231134d5054ef8d33e1b", func := "florin/florinlaw01.U256Back", spec := "u256Back", inPlace := ["math/bits.Add64"], apart := false }
def U256BackSaid : Prop := u256BackRow.holds Try.pinned (OpenSpec.ofChange u256BackSpec)

/-- ITS FALSE NEIGHBOUR: 'it returns false'. Refute it at one input. -/
def u256BackWrong : ChangeSpec := { name := "u256Back", fn := fun _ => fun
  | [d] => { results := [.lit (.bool false)], args := [d] }
  | _ => none }
def U256BackWrongFalsely : Prop := u256BackRow.holds Try.pinned (OpenSpec.ofChange u256BackWrong)

/-- 'florinlaw01.U256Divides': WHATEVER THE INPUT: true; the input reads as it did. -/
def u256DividesSpec : ChangeSpec := { name := "u256Divides", fn := fun _ => fun
  | [d1, d2, d3] => { results := [.lit (.bool true)], args := [d1, d2, d3] }
  | _ => none }
def u256DividesRow : OpenClaim := { program := "ytkjlnloionbdbaa", sum := "6df34031395215a1de3e15269cd022a21cfb7ca3b5af231134d5054ef8d33e1b", func := "florin/florinlaw01.U256Divides", spec := "u256Divides", inPlace := ["math/bits.Add64", "math/bits.Sub64"], apart := false }
def U256DividesSaid : Prop := u256DividesRow.holds Try.pinned (OpenSpec.ofChange u256DividesSpec)

/-- ITS FALSE NEIGHBOUR: 'it returns false'. Refute it at one input. -/
def u256DividesWrong : ChangeSpec := { name := "u256Divides", fn := fun _ => fun
  | [d1, d2, d3] => { results := [.lit (.bool false)], args := [d1, d2, d3] }
  | _ => none }
def U256DividesWrongFalsely : Prop := u256DividesRow.holds Try.pinned (OpenSpec.ofChange u256DividesWrong)

/-- 'florinlaw01.U256Shifts': WHATEVER THE INPUT: true; the input reads as it did. -/
def u256ShiftsSpec : ChangeSpec := { name := "u256Shifts", fn := fun _ => fun
  | [d1, d2] => { results := [.lit (.bool true)], args := [d1, d2] }
  | _ => none }
def u256ShiftsRow : OpenClaim := { program := "ytkjlnloionbdbaa", sum := "6df34031395215a1de3e15269cd022a21cfb7ca3b5af231134d5054ef8d33e1b", func := "florin/florinlaw01.U256Shifts", spec := "u256Shifts", inPlace := ["math/bits.Add64", "math/bits.Sub64"], apart := false }
def U256ShiftsSaid : Prop := u256ShiftsRow.holds Try.pinned (OpenSpec.ofChange u256ShiftsSpec)

/-- ITS FALSE NEIGHBOUR: 'it returns false'. Refute it at one input. -/
def u256ShiftsWrong : ChangeSpec := { name := "u256Shifts", fn := fun _ => fun
  | [d1, d2] => { results := [.lit (.bool false)], args := [d1, d2] }
  | _ => none }
def U256ShiftsWrongFalsely : Prop := u256ShiftsRow.holds Try.pinned (OpenSpec.ofChange u256ShiftsWrong)

/-- 'florinlaw05.TargetBack': WHATEVER THE INPUT: true; the input reads as it did. -/
def targetBackSpec : ChangeSpec := { name := "targetBack", fn := fun _ => fun
  | [d] => { results := [.lit (.bool true)], args := [d] }
  | _ => none }
def targetBackRow : OpenClaim := { program := "ytkjlnloionbdbaa", sum := "6df34031395215a1de3e15269cd022a21cfb7ca3b5af231134d5054ef8d33e1b", func := "florin/florinlaw05.TargetBack", spec := "targetBack", inPlace := ["math/bits.Add64", "math/bits.Sub64"], apart := false }
def TargetBackSaid : Prop := targetBackRow.holds Try.pinned (OpenSpec.ofChange targetBackSpec)

/-- ITS FALSE NEIGHBOUR: 'it returns false'. Refute it at one input. -/
def targetBackWrong : ChangeSpec := { name := "targetBack", fn := fun _ => fun
  | [d] => { results := [.lit (.bool false)], args := [d] }
  | _ => none }
def TargetBackWrongFalsely : Prop := targetBackRow.holds Try.pinned (OpenSpec.ofChange targetBackWrong)

/-- 'florinlaw05.TargetWork': WHATEVER THE INPUT: true; the input reads as it did. -/
def targetWorkSpec : ChangeSpec := { name := "targetWork", fn := fun _ => fun
  | [d1, d2] => { results := [.lit (.bool true)], args := [d1, d2] }
  | _ => none }
def targetWorkRow : OpenClaim := { program := "ytkjlnloionbdbaa", sum := "6df34031395215a1de3e15269cd022a21cfb7ca3b5af231134d5054ef8d33e1b", func := "florin/florinlaw05.TargetWork", spec := "targetWork", inPlace := ["math/bits.Add64", "math/bits.Sub64"], apart := false }
def TargetWorkSaid : Prop := targetWorkRow.holds Try.pinned (OpenSpec.ofChange targetWorkSpec)

/-- ITS FALSE NEIGHBOUR: 'it returns false'. Refute it at one input. -/
def targetWorkWrong : ChangeSpec := { name := "targetWork", fn := fun _ => fun
  | [d1, d2] => { results := [.lit (.bool false)], args := [d1, d2] }
  | _ => none }
def TargetWorkWrongFalsely : Prop := targetWorkRow.holds Try.pinned (OpenSpec.ofChange targetWorkWrong)

/-- 'florinlaw05.TargetMeets': WHATEVER THE INPUT: true; the input reads as it did. -/
def targetMeetsSpec : ChangeSpec := { name := "targetMeets", fn := fun _ => fun
  | [d1, d2, d3, d4] => { results := [.lit (.bool true)], args := [d1, d2, d3, d4] }
  | _ => none }
def targetMeetsRow : OpenClaim := { program := "ytkjlnloionbdbaa", sum := "6df34031395215a1de3e15269cd022a21cfb7ca3b5af231134d5054ef8d33e1b", func := "florin/florinlaw05.TargetMeets", spec := "targetMeets", inPlace := ["math/bits.Add64", "math/bits.Sub64"], apart := false }
def TargetMeetsSaid : Prop := targetMeetsRow.holds Try.pinned (OpenSpec.ofChange targetMeetsSpec)

/-- ITS FALSE NEIGHBOUR: 'it returns false'. Refute it at one input. -/
def targetMeetsWrong : ChangeSpec := { name := "targetMeets", fn := fun _ => fun
  | [d1, d2, d3, d4] => { results := [.lit (.bool false)], args := [d1, d2, d3, d4] }
  | _ => none }
def TargetMeetsWrongFalsely : Prop := targetMeetsRow.holds Try.pinned (OpenSpec.ofChange targetMeetsWrong)

/-- 'florinlaw05.TargetSums': WHATEVER THE INPUT: true; the input reads as it did. -/
def targetSumsSpec : ChangeSpec := { name := "targetSums", fn := fun _ => fun
  | [d1, d2, d3] => { results := [.lit (.bool true)], args := [d1, d2, d3] }
  | _ => none }
def targetSumsRow : OpenClaim := { program := "ytkjlnloionbdbaa", sum := "6df34031395215a1de3e15269cd022a21cfb7ca3b5af231134d5054ef8d33e1b", func := "florin/florinlaw05.TargetSums", spec := "targetSums", inPlace := ["math/bits.Add64", "math/bits.Sub64"], apart := false }
def TargetSumsSaid : Prop := targetSumsRow.holds Try.pinned (OpenSpec.ofChange targetSumsSpec)

/-- ITS FALSE NEIGHBOUR: 'it returns false'. Refute it at one input. -/
def targetSumsWrong : ChangeSpec := { name := "targetSums", fn := fun _ => fun
  | [d1, d2, d3] => { results := [.lit (.bool false)], args := [d1, d2, d3] }
  | _ => none }
def TargetSumsWrongFalsely : Prop := targetSumsRow.holds Try.pinned (OpenSpec.ofChange targetSumsWrong)

/-- 'florinlaw13.RetargetIs': WHATEVER THE INPUT: true; the input reads as it did. -/
def retargetIsSpec : ChangeSpec := { name := "retargetIs", fn := fun _ => fun
  | [d1, d2, d3, d4, d5, d6] => { results := [.lit (.bool true)], args := [d1, d2, d3, d4, d5, d6] }
  | _ => none }
def retargetIsRow : OpenClaim := { program := "ytkjlnloionbdbaa", sum := "6df34031395215a1de3e15269cd022a21cfb7ca3b5af231134d5054ef8d33e1b", func := "florin/florinlaw13.RetargetIs", spec := "retargetIs", inPlace := ["math/bits.Add64", "math/bits.Sub64"], apart := false }
def RetargetIsSaid : Prop := retargetIsRow.holds Try.pinned (OpenSpec.ofChange retargetIsSpec)

/-- ITS FALSE NEIGHBOUR: 'it returns false'. Refute it at one input. -/
def retargetIsWrong : ChangeSpec := { name := "retargetIs", fn := fun _ => fun
  | [d1, d2, d3, d4, d5, d6] => { results := [.lit (.bool false)], args := [d1, d2, d3, d4, d5, d6] }
  | _ => none }
def RetargetIsWrongFalsely : Prop := retargetIsRow.holds Try.pinned (OpenSpec.ofChange retargetIsWrong)

/-- 'florinlaw13.RetargetHolds': WHATEVER THE INPUT: true; the input reads as it did. -/
def retargetHoldsSpec : ChangeSpec := { name := "retargetHolds", fn := fun _ => fun
  | [d1, d2, d3, d4] => { results := [.lit (.bool true)], args := [d1, d2, d3, d4] }
  | _ => none }
def retargetHoldsRow : OpenClaim := { program := "ytkjlnloionbdbaa", sum := "6df34031395215a1de3e15269cd022a21cfb7ca3b5af231134d5054ef8d33e1b", func := "florin/florinlaw13.RetargetHolds", spec := "retargetHolds", inPlace := ["math/bits.Add64", "math/bits.Sub64"], apart := false }
def RetargetHoldsSaid : Prop := retargetHoldsRow.holds Try.pinned (OpenSpec.ofChange retargetHoldsSpec)

/-- ITS FALSE NEIGHBOUR: 'it returns false'. Refute it at one input. -/
def retargetHoldsWrong : ChangeSpec := { name := "retargetHolds", fn := fun _ => fun
  | [d1, d2, d3, d4] => { results := [.lit (.bool false)], args := [d1, d2, d3, d4] }
  | _ => none }
def RetargetHoldsWrongFalsely : Prop := retargetHoldsRow.holds Try.pinned (OpenSpec.ofChange retargetHoldsWrong)

/-- 'florinlaw13.RetargetFold': WHATEVER THE INPUT: true; the input reads as it did. -/
def retargetFoldSpec : ChangeSpec := { name := "retargetFold", fn := fun _ => fun
  | [d1, d2, d3] => { results := [.lit (.bool true)], args := [d1, d2, d3] }
  | _ => none }
def retargetFoldRow : OpenClaim := { program := "ytkjlnloionbdbaa", sum := "6df34031395215a1de3e15269cd022a21cfb7ca3b5af231134d5054ef8d33e1b", func := "florin/florinlaw13.RetargetFold", spec := "retargetFold", inPlace := ["math/bits.Add64", "math/bits.Sub64"], apart := false }
def RetargetFoldSaid : Prop := retargetFoldRow.holds Try.pinned (OpenSpec.ofChange retargetFoldSpec)

/-- ITS FALSE NEIGHBOUR: 'it returns false'. Refute it at one input. -/
def retargetFoldWrong : ChangeSpec := { name := "retargetFold", fn := fun _ => fun
  | [d1, d2, d3] => { results := [.lit (.bool false)], args := [d1, d2, d3] }
  | _ => none }
def RetargetFoldWrongFalsely : Prop := retargetFoldRow.holds Try.pinned (OpenSpec.ofChange retargetFoldWrong)

/-- 'florinlaw13.RetargetClamp': WHATEVER THE INPUT: true; the input reads as it did. -/
def retargetClampSpec : ChangeSpec := { name := "retargetClamp", fn := fun _ => fun
  | [d1, d2, d3, d4, d5] => { results := [.lit (.bool true)], args := [d1, d2, d3, d4, d5] }
  | _ => none }
def retargetClampRow : OpenClaim := { program := "ytkjlnloionbdbaa", sum := "6df34031395215a1de3e15269cd022a21cfb7ca3b5af231134d5054ef8d33e1b", func := "florin/florinlaw13.RetargetClamp", spec := "retargetClamp", inPlace := ["math/bits.Add64", "math/bits.Sub64"], apart := false }
def RetargetClampSaid : Prop := retargetClampRow.holds Try.pinned (OpenSpec.ofChange retargetClampSpec)

/-- ITS FALSE NEIGHBOUR: 'it returns false'. Refute it at one input. -/
def retargetClampWrong : ChangeSpec := { name := "retargetClamp", fn := fun _ => fun
  | [d1, d2, d3, d4, d5] => { results := [.lit (.bool false)], args := [d1, d2, d3, d4, d5] }
  | _ => none }
def RetargetClampWrongFalsely : Prop := retargetClampRow.holds Try.pinned (OpenSpec.ofChange retargetClampWrong)

/-- 'florinlaw13.RetargetChain': WHATEVER THE INPUT: true; the input reads as it did. -/
def retargetChainSpec : ChangeSpec := { name := "retargetChain", fn := fun _ => fun
  | [d1, d2] => { results := [.lit (.bool true)], args := [d1, d2] }
  | _ => none }
def retargetChainRow : OpenClaim := { program := "ytkjlnloionbdbaa", sum := "6df34031395215a1de3e15269cd022a21cfb7ca3b5af231134d5054ef8d33e1b", func := "florin/florinlaw13.RetargetChain", spec := "retargetChain", inPlace := ["math/bits.Add64", "math/bits.Sub64"], apart := false }
def RetargetChainSaid : Prop := retargetChainRow.holds Try.pinned (OpenSpec.ofChange retargetChainSpec)

/-- ITS FALSE NEIGHBOUR: 'it returns false'. Refute it at one input. -/
def retargetChainWrong : ChangeSpec := { name := "retargetChain", fn := fun _ => fun
  | [d1, d2] => { results := [.lit (.bool false)], args := [d1, d2] }
  | _ => none }
def RetargetChainWrongFalsely : Prop := retargetChainRow.holds Try.pinned (OpenSpec.ofChange retargetChainWrong)

/- THE SECOND FORM. 'bulk': how many values and letters a reading holds, each counted each time it is reached (what is shared counts as often as it is met; a slice's spare places count too). A statement '..UptoSaid' is the law's where the arguments, and the package variables that the reading takes, are together of bulk at most 1048576: NARROWER than '..Said'. Prove '..Said' where nothing that the law and all that it calls make is longer than what came in: it says more and counts as full. Else prove '..UptoSaid'. A law counts once. -/
mutual
def uptoBulk {H : Type} : DataW H → Nat
  | .lit (.string bytes) => bytes.length + 1
  | .lit _ => 1
  | .nil => 1
  | .ptr d => uptoBulk d + 1
  | .slice elems spare => uptoBulkAll elems + uptoBulkAll spare + 1
  | .agg parts => uptoBulkAll parts + 1
  | .iface _ d => uptoBulk d + 1
  | .map entries => uptoBulkEntries entries + 1
  | .held _ => 1
def uptoBulkAll {H : Type} : List (DataW H) → Nat
  | [] => 0
  | d :: r => uptoBulk d + uptoBulkAll r
def uptoBulkEntries {H : Type} : List (Lit × DataW H) → Nat
  | [] => 0
  | x :: r => uptoBulkEntry x + uptoBulkEntries r
def uptoBulkEntry {H : Type} : Lit × DataW H → Nat
  | (.string bytes, d) => bytes.length + uptoBulk d + 1
  | (_, d) => uptoBulk d + 1
 end
def uptoSmall : (H : Type) → List (DataW H) → Bool := fun _ ds => decide (uptoBulkAll ds ≤ 1048576)
def OpenSpec.upto (s : _root_.Go.ChangeSpec) : _root_.Go.OpenSpec := { _root_.Go.OpenSpec.ofChange s with cond := some uptoSmall }

/-- 'florinlaw01.U256Back', WHERE WHAT IT READS IS OF BULK AT MOST 1048576: true; the input reads as it did. -/
def u256BackUptoRow : OpenClaim := { program := "ytkjlnloionbdbaa", sum := "6df34031395215a1de3e15269cd022a21cfb7ca3b5af231134d5054ef8d33e1b", func := "florin/florinlaw01.U256Back", spec := "u256Back", inPlace := ["math/bits.Add64"], apart := false, narrowed := true }
def U256BackUptoSaid : Prop := u256BackUptoRow.holds Try.pinned (OpenSpec.upto u256BackSpec)

/-- 'florinlaw01.U256Divides', WHERE WHAT IT READS IS OF BULK AT MOST 1048576: true; the input reads as it did. -/
def u256DividesUptoRow : OpenClaim := { program := "ytkjlnloionbdbaa", sum := "6df34031395215a1de3e15269cd022a21cfb7ca3b5af231134d5054ef8d33e1b", func := "florin/florinlaw01.U256Divides", spec := "u256Divides", inPlace := ["math/bits.Add64", "math/bits.Sub64"], apart := false, narrowed := true }
def U256DividesUptoSaid : Prop := u256DividesUptoRow.holds Try.pinned (OpenSpec.upto u256DividesSpec)

/-- 'florinlaw01.U256Shifts', WHERE WHAT IT READS IS OF BULK AT MOST 1048576: true; the input reads as it did. -/
def u256ShiftsUptoRow : OpenClaim := { program := "ytkjlnloionbdbaa", sum := "6df34031395215a1de3e15269cd022a21cfb7ca3b5af231134d5054ef8d33e1b", func := "florin/florinlaw01.U256Shifts", spec := "u256Shifts", inPlace := ["math/bits.Add64", "math/bits.Sub64"], apart := false, narrowed := true }
def U256ShiftsUptoSaid : Prop := u256ShiftsUptoRow.holds Try.pinned (OpenSpec.upto u256ShiftsSpec)

/-- 'florinlaw05.TargetBack', WHERE WHAT IT READS IS OF BULK AT MOST 1048576: true; the input reads as it did. -/
def targetBackUptoRow : OpenClaim := { program := "ytkjlnloionbdbaa", sum := "6df34031395215a1de3e15269cd022a21cfb7ca3b5af231134d5054ef8d33e1b", func := "florin/florinlaw05.TargetBack", spec := "targetBack", inPlace := ["math/bits.Add64", "math/bits.Sub64"], apart := false, narrowed := true }
def TargetBackUptoSaid : Prop := targetBackUptoRow.holds Try.pinned (OpenSpec.upto targetBackSpec)

/-- 'florinlaw05.TargetWork', WHERE WHAT IT READS IS OF BULK AT MOST 1048576: true; the input reads as it did. -/
def targetWorkUptoRow : OpenClaim := { program := "ytkjlnloionbdbaa", sum := "6df34031395215a1de3e15269cd022a21cfb7ca3b5af231134d5054ef8d33e1b", func := "florin/florinlaw05.TargetWork", spec := "targetWork", inPlace := ["math/bits.Add64", "math/bits.Sub64"], apart := false, narrowed := true }
def TargetWorkUptoSaid : Prop := targetWorkUptoRow.holds Try.pinned (OpenSpec.upto targetWorkSpec)

/-- 'florinlaw05.TargetMeets', WHERE WHAT IT READS IS OF BULK AT MOST 1048576: true; the input reads as it did. -/
def targetMeetsUptoRow : OpenClaim := { program := "ytkjlnloionbdbaa", sum := "6df34031395215a1de3e15269cd022a21cfb7ca3b5af231134d5054ef8d33e1b", func := "florin/florinlaw05.TargetMeets", spec := "targetMeets", inPlace := ["math/bits.Add64", "math/bits.Sub64"], apart := false, narrowed := true }
def TargetMeetsUptoSaid : Prop := targetMeetsUptoRow.holds Try.pinned (OpenSpec.upto targetMeetsSpec)

/-- 'florinlaw05.TargetSums', WHERE WHAT IT READS IS OF BULK AT MOST 1048576: true; the input reads as it did. -/
def targetSumsUptoRow : OpenClaim := { program := "ytkjlnloionbdbaa", sum := "6df34031395215a1de3e15269cd022a21cfb7ca3b5af231134d5054ef8d33e1b", func := "florin/florinlaw05.TargetSums", spec := "targetSums", inPlace := ["math/bits.Add64", "math/bits.Sub64"], apart := false, narrowed := true }
def TargetSumsUptoSaid : Prop := targetSumsUptoRow.holds Try.pinned (OpenSpec.upto targetSumsSpec)

/-- 'florinlaw13.RetargetIs', WHERE WHAT IT READS IS OF BULK AT MOST 1048576: true; the input reads as it did. -/
def retargetIsUptoRow : OpenClaim := { program := "ytkjlnloionbdbaa", sum := "6df34031395215a1de3e15269cd022a21cfb7ca3b5af231134d5054ef8d33e1b", func := "florin/florinlaw13.RetargetIs", spec := "retargetIs", inPlace := ["math/bits.Add64", "math/bits.Sub64"], apart := false, narrowed := true }
def RetargetIsUptoSaid : Prop := retargetIsUptoRow.holds Try.pinned (OpenSpec.upto retargetIsSpec)

/-- 'florinlaw13.RetargetHolds', WHERE WHAT IT READS IS OF BULK AT MOST 1048576: true; the input reads as it did. -/
def retargetHoldsUptoRow : OpenClaim := { program := "ytkjlnloionbdbaa", sum := "6df34031395215a1de3e15269cd022a21cfb7ca3b5af231134d5054ef8d33e1b", func := "florin/florinlaw13.RetargetHolds", spec := "retargetHolds", inPlace := ["math/bits.Add64", "math/bits.Sub64"], apart := false, narrowed := true }
def RetargetHoldsUptoSaid : Prop := retargetHoldsUptoRow.holds Try.pinned (OpenSpec.upto retargetHoldsSpec)

/-- 'florinlaw13.RetargetFold', WHERE WHAT IT READS IS OF BULK AT MOST 1048576: true; the input reads as it did. -/
def retargetFoldUptoRow : OpenClaim := { program := "ytkjlnloionbdbaa", sum := "6df34031395215a1de3e15269cd022a21cfb7ca3b5af231134d5054ef8d33e1b", func := "florin/florinlaw13.RetargetFold", spec := "retargetFold", inPlace := ["math/bits.Add64", "math/bits.Sub64"], apart := false, narrowed := true }
def RetargetFoldUptoSaid : Prop := retargetFoldUptoRow.holds Try.pinned (OpenSpec.upto retargetFoldSpec)

/-- 'florinlaw13.RetargetClamp', WHERE WHAT IT READS IS OF BULK AT MOST 1048576: true; the input reads as it did. -/
def retargetClampUptoRow : OpenClaim := { program := "ytkjlnloionbdbaa", sum := "6df34031395215a1de3e15269cd022a21cfb7ca3b5af231134d5054ef8d33e1b", func := "florin/florinlaw13.RetargetClamp", spec := "retargetClamp", inPlace := ["math/bits.Add64", "math/bits.Sub64"], apart := false, narrowed := true }
def RetargetClampUptoSaid : Prop := retargetClampUptoRow.holds Try.pinned (OpenSpec.upto retargetClampSpec)

/-- 'florinlaw13.RetargetChain', WHERE WHAT IT READS IS OF BULK AT MOST 1048576: true; the input reads as it did. -/
def retargetChainUptoRow : OpenClaim := { program := "ytkjlnloionbdbaa", sum := "6df34031395215a1de3e15269cd022a21cfb7ca3b5af231134d5054ef8d33e1b", func := "florin/florinlaw13.RetargetChain", spec := "retargetChain", inPlace := ["math/bits.Add64", "math/bits.Sub64"], apart := false, narrowed := true }
def RetargetChainUptoSaid : Prop := retargetChainUptoRow.holds Try.pinned (OpenSpec.upto retargetChainSpec)

end Rows
end Go.Proofs.Ytkjlnloionbdbaa
