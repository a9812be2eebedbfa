/-
  NARROWER THAN 'FOR EVERY INPUT', by the rows' own cells (each row's printed sentence says how): HashIs: laid · HeaderIs: laid · MerkleIs: laid · MerkleClimbs: laid · MerkleLevels: laid · MerkleDoubled: laid · MerkleHalves: laid · MerkleAlike: laid.
  DERIVED. THE GIVEN ROWS OF THIS SEAT. 8 by the template 'for every input the law returns true; each argument reads behind the call as it read before'; 0 by the template 'total and deterministic' (their statements: YtddcceifblpmbaaDoorTotals.lean).
  GIVEN WITH THE SEED: the statements are not yours to turn. If you find one false, say at which input.
  Laid BY PROGRAM, IN A SANDBOX (cutbox-rows.mjs): the forced cells as the released guide's own fill.sh prints them over the translation cd11264f1ac7f7d8… (all of the seat's roots in one cut). By AI agents, Wed Nov 11 2026. No macro, syntax, notation, axiom, sorry.
-/
import Derived.Test.YtddcceifblpmbaaDoorChecked
import GoSem.Claim
import GoSem.ClaimJoined
import GoSem.ClaimMapViews
import Derived.JoinedTies
import Derived.KernelRfl
namespace Go.Proofs.YtddcceifblpmbaaDoor
/- THE CELL 'sum', in the pinned program and in every row, IS THE sha256 OF THE DUMP (.gsa) THAT YtddcceifblpmbaaDoorProg.lean LOADS. Nothing in Lean hashes anything: it is a label: what it is worth is what the hold of that sum in a sandbox is worth. -/
noncomputable def Tryd.pinned : Pinned := { name := "ytddcceifblpmbaadoor", sum := "cd11264f1ac7f7d8780ec0776fd1dd2bfdb0b555e5336ae23870190aeb5b15a7", checked := Tryd.checked }
namespace Rows
def none {H : Type} : Left H := { results := [], args := [] }

/- WHAT THE LISTED PACKAGE-LEVEL VARIABLES READ AS WHEN THE CALL BEGINS. Each datum BY PROGRAM (the guide's laid-datum.mjs) off the statement by which the dump's own 'gosem.cut.vars' lays the variable. In a bare row this is a premise. The card (YtddcceifblpmbaaDoorCards.lean) ties it to the program's text. -/
def laid_florin_sha2_constants {H : Type} : DataW H := .agg [.lit (.int .u32 1116352408), .lit (.int .u32 1899447441), .lit (.int .u32 3049323471), .lit (.int .u32 3921009573), .lit (.int .u32 961987163), .lit (.int .u32 1508970993), .lit (.int .u32 2453635748), .lit (.int .u32 2870763221), .lit (.int .u32 3624381080), .lit (.int .u32 310598401), .lit (.int .u32 607225278), .lit (.int .u32 1426881987), .lit (.int .u32 1925078388), .lit (.int .u32 2162078206), .lit (.int .u32 2614888103), .lit (.int .u32 3248222580), .lit (.int .u32 3835390401), .lit (.int .u32 4022224774), .lit (.int .u32 264347078), .lit (.int .u32 604807628), .lit (.int .u32 770255983), .lit (.int .u32 1249150122), .lit (.int .u32 1555081692), .lit (.int .u32 1996064986), .lit (.int .u32 2554220882), .lit (.int .u32 2821834349), .lit (.int .u32 2952996808), .lit (.int .u32 3210313671), .lit (.int .u32 3336571891), .lit (.int .u32 3584528711), .lit (.int .u32 113926993), .lit (.int .u32 338241895), .lit (.int .u32 666307205), .lit (.int .u32 773529912), .lit (.int .u32 1294757372), .lit (.int .u32 1396182291), .lit (.int .u32 1695183700), .lit (.int .u32 1986661051), .lit (.int .u32 2177026350), .lit (.int .u32 2456956037), .lit (.int .u32 2730485921), .lit (.int .u32 2820302411), .lit (.int .u32 3259730800), .lit (.int .u32 3345764771), .lit (.int .u32 3516065817), .lit (.int .u32 3600352804), .lit (.int .u32 4094571909), .lit (.int .u32 275423344), .lit (.int .u32 430227734), .lit (.int .u32 506948616), .lit (.int .u32 659060556), .lit (.int .u32 883997877), .lit (.int .u32 958139571), .lit (.int .u32 1322822218), .lit (.int .u32 1537002063), .lit (.int .u32 1747873779), .lit (.int .u32 1955562222), .lit (.int .u32 2024104815), .lit (.int .u32 2227730452), .lit (.int .u32 2361852424), .lit (.int .u32 2428436474), .lit (.int .u32 2756734187), .lit (.int .u32 3204031479), .lit (.int .u32 3329325298)]
def laid_florin_sha2_initials {H : Type} : DataW H := .agg [.lit (.int .u32 1779033703), .lit (.int .u32 3144134277), .lit (.int .u32 1013904242), .lit (.int .u32 2773480762), .lit (.int .u32 1359893119), .lit (.int .u32 2600822924), .lit (.int .u32 528734635), .lit (.int .u32 1541459225)]

/-- 'florinlaw03.HashIs': WHATEVER THE INPUT: true; the input reads as it did. -/
def hashIsSpec : ChangeSpec := { name := "hashIs", fn := fun _ => fun
  | [d1, d2, d3, d4, d5, d6] => { results := [.lit (.bool true)], args := [d1, d2, d3, d4, d5, d6] }
  | _ => none }
def hashIsRow : OpenClaim := { program := "ytddcceifblpmbaadoor", sum := "cd11264f1ac7f7d8780ec0776fd1dd2bfdb0b555e5336ae23870190aeb5b15a7", func := "florin/florinlaw03.HashIs", spec := "hashIs", named := ["florin/sha2.initials", "florin/sha2.constants"], apart := false, laid := [("florin/sha2.constants", laid_florin_sha2_constants), ("florin/sha2.initials", laid_florin_sha2_initials)] }
def HashIsSaid : Prop := hashIsRow.holds Tryd.pinned (OpenSpec.ofChange hashIsSpec)

/-- ITS FALSE NEIGHBOUR: 'it returns false'. Refute it at one input. -/
def hashIsWrong : ChangeSpec := { name := "hashIs", fn := fun _ => fun
  | [d1, d2, d3, d4, d5, d6] => { results := [.lit (.bool false)], args := [d1, d2, d3, d4, d5, d6] }
  | _ => none }
def HashIsWrongFalsely : Prop := hashIsRow.holds Tryd.pinned (OpenSpec.ofChange hashIsWrong)

/-- 'florinlaw07.HeaderIs': WHATEVER THE INPUT: true; the input reads as it did. -/
def headerIsSpec : ChangeSpec := { name := "headerIs", fn := fun _ => fun
  | [d1, d2, d3, d4, d5] => { results := [.lit (.bool true)], args := [d1, d2, d3, d4, d5] }
  | _ => none }
def headerIsRow : OpenClaim := { program := "ytddcceifblpmbaadoor", sum := "cd11264f1ac7f7d8780ec0776fd1dd2bfdb0b555e5336ae23870190aeb5b15a7", func := "florin/florinlaw07.HeaderIs", spec := "headerIs", named := ["florin/sha2.initials", "florin/sha2.constants"], apart := false, laid := [("florin/sha2.constants", laid_florin_sha2_constants), ("florin/sha2.initials", laid_florin_sha2_initials)] }
def HeaderIsSaid : Prop := headerIsRow.holds Tryd.pinned (OpenSpec.ofChange headerIsSpec)

/-- ITS FALSE NEIGHBOUR: 'it returns false'. Refute it at one input. -/
def headerIsWrong : ChangeSpec := { name := "headerIs", fn := fun _ => fun
  | [d1, d2, d3, d4, d5] => { results := [.lit (.bool false)], args := [d1, d2, d3, d4, d5] }
  | _ => none }
def HeaderIsWrongFalsely : Prop := headerIsRow.holds Tryd.pinned (OpenSpec.ofChange headerIsWrong)

/-- 'florinlaw10.MerkleIs': WHATEVER THE INPUT: true; the input reads as it did. -/
def merkleIsSpec : ChangeSpec := { name := "merkleIs", fn := fun _ => fun
  | [d1, d2, d3, d4, d5, d6] => { results := [.lit (.bool true)], args := [d1, d2, d3, d4, d5, d6] }
  | _ => none }
def merkleIsRow : OpenClaim := { program := "ytddcceifblpmbaadoor", sum := "cd11264f1ac7f7d8780ec0776fd1dd2bfdb0b555e5336ae23870190aeb5b15a7", func := "florin/florinlaw10.MerkleIs", spec := "merkleIs", unfollowed := true, recurses := true, named := ["florin/sha2.initials", "florin/sha2.constants"], apart := false, laid := [("florin/sha2.constants", laid_florin_sha2_constants), ("florin/sha2.initials", laid_florin_sha2_initials)] }
def MerkleIsSaid : Prop := merkleIsRow.holds Tryd.pinned (OpenSpec.ofChange merkleIsSpec)

/-- ITS FALSE NEIGHBOUR: 'it returns false'. Refute it at one input. -/
def merkleIsWrong : ChangeSpec := { name := "merkleIs", fn := fun _ => fun
  | [d1, d2, d3, d4, d5, d6] => { results := [.lit (.bool false)], args := [d1, d2, d3, d4, d5, d6] }
  | _ => none }
def MerkleIsWrongFalsely : Prop := merkleIsRow.holds Tryd.pinned (OpenSpec.ofChange merkleIsWrong)

/-- 'florinlaw10.MerkleClimbs': WHATEVER THE INPUT: true; the input reads as it did. -/
def merkleClimbsSpec : ChangeSpec := { name := "merkleClimbs", fn := fun _ => fun
  | [d1, d2] => { results := [.lit (.bool true)], args := [d1, d2] }
  | _ => none }
def merkleClimbsRow : OpenClaim := { program := "ytddcceifblpmbaadoor", sum := "cd11264f1ac7f7d8780ec0776fd1dd2bfdb0b555e5336ae23870190aeb5b15a7", func := "florin/florinlaw10.MerkleClimbs", spec := "merkleClimbs", unfollowed := true, recurses := true, named := ["florin/sha2.initials", "florin/sha2.constants"], apart := false, laid := [("florin/sha2.constants", laid_florin_sha2_constants), ("florin/sha2.initials", laid_florin_sha2_initials)] }
def MerkleClimbsSaid : Prop := merkleClimbsRow.holds Tryd.pinned (OpenSpec.ofChange merkleClimbsSpec)

/-- ITS FALSE NEIGHBOUR: 'it returns false'. Refute it at one input. -/
def merkleClimbsWrong : ChangeSpec := { name := "merkleClimbs", fn := fun _ => fun
  | [d1, d2] => { results := [.lit (.bool false)], args := [d1, d2] }
  | _ => none }
def MerkleClimbsWrongFalsely : Prop := merkleClimbsRow.holds Tryd.pinned (OpenSpec.ofChange merkleClimbsWrong)

/-- 'florinlaw10.MerkleLevels': WHATEVER THE INPUT: true; the input reads as it did. -/
def merkleLevelsSpec : ChangeSpec := { name := "merkleLevels", fn := fun _ => fun
  | [d] => { results := [.lit (.bool true)], args := [d] }
  | _ => none }
def merkleLevelsRow : OpenClaim := { program := "ytddcceifblpmbaadoor", sum := "cd11264f1ac7f7d8780ec0776fd1dd2bfdb0b555e5336ae23870190aeb5b15a7", func := "florin/florinlaw10.MerkleLevels", spec := "merkleLevels", unfollowed := true, recurses := true, named := ["florin/sha2.initials", "florin/sha2.constants"], apart := false, laid := [("florin/sha2.constants", laid_florin_sha2_constants), ("florin/sha2.initials", laid_florin_sha2_initials)] }
def MerkleLevelsSaid : Prop := merkleLevelsRow.holds Tryd.pinned (OpenSpec.ofChange merkleLevelsSpec)

/-- ITS FALSE NEIGHBOUR: 'it returns false'. Refute it at one input. -/
def merkleLevelsWrong : ChangeSpec := { name := "merkleLevels", fn := fun _ => fun
  | [d] => { results := [.lit (.bool false)], args := [d] }
  | _ => none }
def MerkleLevelsWrongFalsely : Prop := merkleLevelsRow.holds Tryd.pinned (OpenSpec.ofChange merkleLevelsWrong)

/-- 'florinlaw10.MerkleDoubled': WHATEVER THE INPUT: true; the input reads as it did. -/
def merkleDoubledSpec : ChangeSpec := { name := "merkleDoubled", fn := fun _ => fun
  | [d] => { results := [.lit (.bool true)], args := [d] }
  | _ => none }
def merkleDoubledRow : OpenClaim := { program := "ytddcceifblpmbaadoor", sum := "cd11264f1ac7f7d8780ec0776fd1dd2bfdb0b555e5336ae23870190aeb5b15a7", func := "florin/florinlaw10.MerkleDoubled", spec := "merkleDoubled", unfollowed := true, recurses := true, named := ["florin/sha2.initials", "florin/sha2.constants"], apart := false, laid := [("florin/sha2.constants", laid_florin_sha2_constants), ("florin/sha2.initials", laid_florin_sha2_initials)] }
def MerkleDoubledSaid : Prop := merkleDoubledRow.holds Tryd.pinned (OpenSpec.ofChange merkleDoubledSpec)

/-- ITS FALSE NEIGHBOUR: 'it returns false'. Refute it at one input. -/
def merkleDoubledWrong : ChangeSpec := { name := "merkleDoubled", fn := fun _ => fun
  | [d] => { results := [.lit (.bool false)], args := [d] }
  | _ => none }
def MerkleDoubledWrongFalsely : Prop := merkleDoubledRow.holds Tryd.pinned (OpenSpec.ofChange merkleDoubledWrong)

/-- 'florinlaw10.MerkleHalves': WHATEVER THE INPUT: true; the input reads as it did. -/
def merkleHalvesSpec : ChangeSpec := { name := "merkleHalves", fn := fun _ => fun
  | [d1, d2] => { results := [.lit (.bool true)], args := [d1, d2] }
  | _ => none }
def merkleHalvesRow : OpenClaim := { program := "ytddcceifblpmbaadoor", sum := "cd11264f1ac7f7d8780ec0776fd1dd2bfdb0b555e5336ae23870190aeb5b15a7", func := "florin/florinlaw10.MerkleHalves", spec := "merkleHalves", unfollowed := true, recurses := true, named := ["florin/sha2.initials", "florin/sha2.constants"], apart := false, laid := [("florin/sha2.constants", laid_florin_sha2_constants), ("florin/sha2.initials", laid_florin_sha2_initials)] }
def MerkleHalvesSaid : Prop := merkleHalvesRow.holds Tryd.pinned (OpenSpec.ofChange merkleHalvesSpec)

/-- ITS FALSE NEIGHBOUR: 'it returns false'. Refute it at one input. -/
def merkleHalvesWrong : ChangeSpec := { name := "merkleHalves", fn := fun _ => fun
  | [d1, d2] => { results := [.lit (.bool false)], args := [d1, d2] }
  | _ => none }
def MerkleHalvesWrongFalsely : Prop := merkleHalvesRow.holds Tryd.pinned (OpenSpec.ofChange merkleHalvesWrong)

/-- 'florinlaw10.MerkleAlike': WHATEVER THE INPUT: true; the input reads as it did. -/
def merkleAlikeSpec : ChangeSpec := { name := "merkleAlike", fn := fun _ => fun
  | [d1, d2] => { results := [.lit (.bool true)], args := [d1, d2] }
  | _ => none }
def merkleAlikeRow : OpenClaim := { program := "ytddcceifblpmbaadoor", sum := "cd11264f1ac7f7d8780ec0776fd1dd2bfdb0b555e5336ae23870190aeb5b15a7", func := "florin/florinlaw10.MerkleAlike", spec := "merkleAlike", unfollowed := true, recurses := true, named := ["florin/sha2.initials", "florin/sha2.constants"], apart := false, laid := [("florin/sha2.constants", laid_florin_sha2_constants), ("florin/sha2.initials", laid_florin_sha2_initials)] }
def MerkleAlikeSaid : Prop := merkleAlikeRow.holds Tryd.pinned (OpenSpec.ofChange merkleAlikeSpec)

/-- ITS FALSE NEIGHBOUR: 'it returns false'. Refute it at one input. -/
def merkleAlikeWrong : ChangeSpec := { name := "merkleAlike", fn := fun _ => fun
  | [d1, d2] => { results := [.lit (.bool false)], args := [d1, d2] }
  | _ => none }
def MerkleAlikeWrongFalsely : Prop := merkleAlikeRow.holds Tryd.pinned (OpenSpec.ofChange merkleAlikeWrong)

/- THE SECOND FORM. 'bulk': how many values and letters a reading holds, each counted each time it is reached (what is shared counts as often as it is met; a slice's spare places count too). A statement '..UptoSaid' is the law's where the arguments, and the package variables that the reading takes, are together of bulk at most 1048576: NARROWER than '..Said'. Prove '..Said' where nothing that the law and all that it calls make is longer than what came in: it says more and counts as full. Else prove '..UptoSaid'. A law counts once. -/
mutual
def uptoBulk {H : Type} : DataW H → Nat
  | .lit (.string bytes) => bytes.length + 1
  | .lit _ => 1
  | .nil => 1
  | .ptr d => uptoBulk d + 1
  | .slice elems spare => uptoBulkAll elems + uptoBulkAll spare + 1
  | .agg parts => uptoBulkAll parts + 1
  | .iface _ d => uptoBulk d + 1
  | .map entries => uptoBulkEntries entries + 1
  | .held _ => 1
def uptoBulkAll {H : Type} : List (DataW H) → Nat
  | [] => 0
  | d :: r => uptoBulk d + uptoBulkAll r
def uptoBulkEntries {H : Type} : List (Lit × DataW H) → Nat
  | [] => 0
  | x :: r => uptoBulkEntry x + uptoBulkEntries r
def uptoBulkEntry {H : Type} : Lit × DataW H → Nat
  | (.string bytes, d) => bytes.length + uptoBulk d + 1
  | (_, d) => uptoBulk d + 1
 end
def uptoSmall : (H : Type) → List (DataW H) → Bool := fun _ ds => decide (uptoBulkAll ds ≤ 1048576)
def OpenSpec.upto (s : _root_.Go.ChangeSpec) : _root_.Go.OpenSpec := { _root_.Go.OpenSpec.ofChange s with cond := some uptoSmall }

/-- 'florinlaw03.HashIs', WHERE WHAT IT READS IS OF BULK AT MOST 1048576: true; the input reads as it did. -/
def hashIsUptoRow : OpenClaim := { program := "ytddcceifblpmbaadoor", sum := "cd11264f1ac7f7d8780ec0776fd1dd2bfdb0b555e5336ae23870190aeb5b15a7", func := "florin/florinlaw03.HashIs", spec := "hashIs", named := ["florin/sha2.initials", "florin/sha2.constants"], apart := false, laid := [("florin/sha2.constants", laid_florin_sha2_constants), ("florin/sha2.initials", laid_florin_sha2_initials)], narrowed := true }
def HashIsUptoSaid : Prop := hashIsUptoRow.holds Tryd.pinned (OpenSpec.upto hashIsSpec)

/-- 'florinlaw07.HeaderIs', WHERE WHAT IT READS IS OF BULK AT MOST 1048576: true; the input reads as it did. -/
def headerIsUptoRow : OpenClaim := { program := "ytddcceifblpmbaadoor", sum := "cd11264f1ac7f7d8780ec0776fd1dd2bfdb0b555e5336ae23870190aeb5b15a7", func := "florin/florinlaw07.HeaderIs", spec := "headerIs", named := ["florin/sha2.initials", "florin/sha2.constants"], apart := false, laid := [("florin/sha2.constants", laid_florin_sha2_constants), ("florin/sha2.initials", laid_florin_sha2_initials)], narrowed := true }
def HeaderIsUptoSaid : Prop := headerIsUptoRow.holds Tryd.pinned (OpenSpec.upto headerIsSpec)

/-- 'florinlaw10.MerkleIs', WHERE WHAT IT READS IS OF BULK AT MOST 1048576: true; the input reads as it did. -/
def merkleIsUptoRow : OpenClaim := { program := "ytddcceifblpmbaadoor", sum := "cd11264f1ac7f7d8780ec0776fd1dd2bfdb0b555e5336ae23870190aeb5b15a7", func := "florin/florinlaw10.MerkleIs", spec := "merkleIs", unfollowed := true, recurses := true, named := ["florin/sha2.initials", "florin/sha2.constants"], apart := false, laid := [("florin/sha2.constants", laid_florin_sha2_constants), ("florin/sha2.initials", laid_florin_sha2_initials)], narrowed := true }
def MerkleIsUptoSaid : Prop := merkleIsUptoRow.holds Tryd.pinned (OpenSpec.upto merkleIsSpec)

/-- 'florinlaw10.MerkleClimbs', WHERE WHAT IT READS IS OF BULK AT MOST 1048576: true; the input reads as it did. -/
def merkleClimbsUptoRow : OpenClaim := { program := "ytddcceifblpmbaadoor", sum := "cd11264f1ac7f7d8780ec0776fd1dd2bfdb0b555e5336ae23870190aeb5b15a7", func := "florin/florinlaw10.MerkleClimbs", spec := "merkleClimbs", unfollowed := true, recurses := true, named := ["florin/sha2.initials", "florin/sha2.constants"], apart := false, laid := [("florin/sha2.constants", laid_florin_sha2_constants), ("florin/sha2.initials", laid_florin_sha2_initials)], narrowed := true }
def MerkleClimbsUptoSaid : Prop := merkleClimbsUptoRow.holds Tryd.pinned (OpenSpec.upto merkleClimbsSpec)

/-- 'florinlaw10.MerkleLevels', WHERE WHAT IT READS IS OF BULK AT MOST 1048576: true; the input reads as it did. -/
def merkleLevelsUptoRow : OpenClaim := { program := "ytddcceifblpmbaadoor", sum := "cd11264f1ac7f7d8780ec0776fd1dd2bfdb0b555e5336ae23870190aeb5b15a7", func := "florin/florinlaw10.MerkleLevels", spec := "merkleLevels", unfollowed := true, recurses := true, named := ["florin/sha2.initials", "florin/sha2.constants"], apart := false, laid := [("florin/sha2.constants", laid_florin_sha2_constants), ("florin/sha2.initials", laid_florin_sha2_initials)], narrowed := true }
def MerkleLevelsUptoSaid : Prop := merkleLevelsUptoRow.holds Tryd.pinned (OpenSpec.upto merkleLevelsSpec)

/-- 'florinlaw10.MerkleDoubled', WHERE WHAT IT READS IS OF BULK AT MOST 1048576: true; the input reads as it did. -/
def merkleDoubledUptoRow : OpenClaim := { program := "ytddcceifblpmbaadoor", sum := "cd11264f1ac7f7d8780ec0776fd1dd2bfdb0b555e5336ae23870190aeb5b15a7", func := "florin/florinlaw10.MerkleDoubled", spec := "merkleDoubled", unfollowed := true, recurses := true, named := ["florin/sha2.initials", "florin/sha2.constants"], apart := false, laid := [("florin/sha2.constants", laid_florin_sha2_constants), ("florin/sha2.initials", laid_florin_sha2_initials)], narrowed := true }
def MerkleDoubledUptoSaid : Prop := merkleDoubledUptoRow.holds Tryd.pinned (OpenSpec.upto merkleDoubledSpec)

/-- 'florinlaw10.MerkleHalves', WHERE WHAT IT READS IS OF BULK AT MOST 1048576: true; the input reads as it did. -/
def merkleHalvesUptoRow : OpenClaim := { program := "ytddcceifblpmbaadoor", sum := "cd11264f1ac7f7d8780ec0776fd1dd2bfdb0b555e5336ae23870190aeb5b15a7", func := "florin/florinlaw10.MerkleHalves", spec := "merkleHalves", unfollowed := true, recurses := true, named := ["florin/sha2.initials", "florin/sha2.constants"], apart := false, laid := [("florin/sha2.constants", laid_florin_sha2_constants), ("florin/sha2.initials", laid_florin_sha2_initials)], narrowed := true }
def MerkleHalvesUptoSaid : Prop := merkleHalvesUptoRow.holds Tryd.pinned (OpenSpec.upto merkleHalvesSpec)

/-- 'florinlaw10.MerkleAlike', WHERE WHAT IT READS IS OF BULK AT MOST 1048576: true; the input reads as it did. -/
def merkleAlikeUptoRow : OpenClaim := { program := "ytddcceifblpmbaadoor", sum := "cd11264f1ac7f7d8780ec0776fd1dd2bfdb0b555e5336ae23870190aeb5b15a7", func := "florin/florinlaw10.MerkleAlike", spec := "merkleAlike", unfollowed := true, recurses := true, named := ["florin/sha2.initials", "florin/sha2.constants"], apart := false, laid := [("florin/sha2.constants", laid_florin_sha2_constants), ("florin/sha2.initials", laid_florin_sha2_initials)], narrowed := true }
def MerkleAlikeUptoSaid : Prop := merkleAlikeUptoRow.holds Tryd.pinned (OpenSpec.upto merkleAlikeSpec)

end Rows
end Go.Proofs.YtddcceifblpmbaaDoor
