/-
  NARROWER THAN 'FOR EVERY INPUT', by the rows' own cells (each row's printed sentence says how): Sha2Is: laid · Sha2Roots: laid · HashIs: laid · HeaderIs: laid · HeaderBytes: laid · MerkleIs: laid · MerkleClimbs: laid · MerkleLevels: laid · MerkleDoubled: laid · MerkleHalves: laid · MerkleAlike: laid · ScriptIs: laid · ScriptBack: laid · ScriptGood: laid · ScriptRows: laid.
  DERIVED. THE GIVEN ROWS OF THIS SEAT. 15 by the template 'for every input the law returns true; each argument reads behind the call as it read before'; 0 by the template 'total and deterministic' (their statements: YtpdgeiflmnhkfaaDoorTotals.lean).
  GIVEN WITH THE SEED: the statements are not yours to turn. If you find one false, say at which input.
  Laid BY PROGRAM, IN A SANDBOX (cutbox-rows.mjs): the forced cells as the released guide's own fill.sh prints them over the translation 3476a28d765cce2c… (all of the seat's roots in one cut). By AI agents, Wed Nov 11 2026. No macro, syntax, notation, axiom, sorry.
-/
import Derived.Test.YtpdgeiflmnhkfaaDoorChecked
import GoSem.Claim
import GoSem.ClaimJoined
import GoSem.ClaimMapViews
import Derived.JoinedTies
import Derived.KernelRfl
namespace Go.Proofs.YtpdgeiflmnhkfaaDoor
/- THE CELL 'sum', in the pinned program and in every row, IS THE sha256 OF THE DUMP (.gsa) THAT YtpdgeiflmnhkfaaDoorProg.lean LOADS. Nothing in Lean hashes anything: it is a label: what it is worth is what the hold of that sum in a sandbox is worth. -/
noncomputable def Tryd.pinned : Pinned := { name := "ytpdgeiflmnhkfaadoor", sum := "3476a28d765cce2ccba200c1f35c622ac713c595e950bca1edc8cbdfab09532b", checked := Tryd.checked }
namespace Rows
def none {H : Type} : Left H := { results := [], args := [] }

/- WHAT THE LISTED PACKAGE-LEVEL VARIABLES READ AS WHEN THE CALL BEGINS. Each datum BY PROGRAM (the guide's laid-datum.mjs) off the statement by which the dump's own 'gosem.cut.vars' lays the variable. In a bare row this is a premise. The card (YtpdgeiflmnhkfaaDoorCards.lean) ties it to the program's text. -/
def laid_florin_sha2_constants {H : Type} : DataW H := .agg [.lit (.int .u32 1116352408), .lit (.int .u32 1899447441), .lit (.int .u32 3049323471), .lit (.int .u32 3921009573), .lit (.int .u32 961987163), .lit (.int .u32 1508970993), .lit (.int .u32 2453635748), .lit (.int .u32 2870763221), .lit (.int .u32 3624381080), .lit (.int .u32 310598401), .lit (.int .u32 607225278), .lit (.int .u32 1426881987), .lit (.int .u32 1925078388), .lit (.int .u32 2162078206), .lit (.int .u32 2614888103), .lit (.int .u32 3248222580), .lit (.int .u32 3835390401), .lit (.int .u32 4022224774), .lit (.int .u32 264347078), .lit (.int .u32 604807628), .lit (.int .u32 770255983), .lit (.int .u32 1249150122), .lit (.int .u32 1555081692), .lit (.int .u32 1996064986), .lit (.int .u32 2554220882), .lit (.int .u32 2821834349), .lit (.int .u32 2952996808), .lit (.int .u32 3210313671), .lit (.int .u32 3336571891), .lit (.int .u32 3584528711), .lit (.int .u32 113926993), .lit (.int .u32 338241895), .lit (.int .u32 666307205), .lit (.int .u32 773529912), .lit (.int .u32 1294757372), .lit (.int .u32 1396182291), .lit (.int .u32 1695183700), .lit (.int .u32 1986661051), .lit (.int .u32 2177026350), .lit (.int .u32 2456956037), .lit (.int .u32 2730485921), .lit (.int .u32 2820302411), .lit (.int .u32 3259730800), .lit (.int .u32 3345764771), .lit (.int .u32 3516065817), .lit (.int .u32 3600352804), .lit (.int .u32 4094571909), .lit (.int .u32 275423344), .lit (.int .u32 430227734), .lit (.int .u32 506948616), .lit (.int .u32 659060556), .lit (.int .u32 883997877), .lit (.int .u32 958139571), .lit (.int .u32 1322822218), .lit (.int .u32 1537002063), .lit (.int .u32 1747873779), .lit (.int .u32 1955562222), .lit (.int .u32 2024104815), .lit (.int .u32 2227730452), .lit (.int .u32 2361852424), .lit (.int .u32 2428436474), .lit (.int .u32 2756734187), .lit (.int .u32 3204031479), .lit (.int .u32 3329325298)]
def laid_florin_sha2_initials {H : Type} : DataW H := .agg [.lit (.int .u32 1779033703), .lit (.int .u32 3144134277), .lit (.int .u32 1013904242), .lit (.int .u32 2773480762), .lit (.int .u32 1359893119), .lit (.int .u32 2600822924), .lit (.int .u32 528734635), .lit (.int .u32 1541459225)]
def laid_florin_script_names {H : Type} : DataW H := .agg [.lit (.string [99, 111, 110, 110, 101, 99, 116]), .lit (.string [98, 121, 116, 101, 115]), .lit (.string [116, 105, 99, 107]), .lit (.string [119, 97, 116, 99, 104]), .lit (.string [97, 115, 107]), .lit (.string [116, 105, 112]), .lit (.string [116, 120]), .lit (.string [115, 121, 110, 99]), .lit (.string [99, 114, 97, 115, 104]), .lit (.string [99, 111, 109, 112, 97, 99, 116])]

/-- 'florinlaw02.Sha2Is': WHATEVER THE INPUT: true; the input reads as it did. -/
def sha2IsSpec : ChangeSpec := { name := "sha2Is", fn := fun _ => fun
  | [d1, d2, d3] => { results := [.lit (.bool true)], args := [d1, d2, d3] }
  | _ => none }
def sha2IsRow : OpenClaim := { program := "ytpdgeiflmnhkfaadoor", sum := "3476a28d765cce2ccba200c1f35c622ac713c595e950bca1edc8cbdfab09532b", func := "florin/florinlaw02.Sha2Is", spec := "sha2Is", named := ["florin/sha2.initials", "florin/sha2.constants"], apart := false, laid := [("florin/sha2.constants", laid_florin_sha2_constants), ("florin/sha2.initials", laid_florin_sha2_initials)] }
def Sha2IsSaid : Prop := sha2IsRow.holds Tryd.pinned (OpenSpec.ofChange sha2IsSpec)

/-- ITS FALSE NEIGHBOUR: 'it returns false'. Refute it at one input. -/
def sha2IsWrong : ChangeSpec := { name := "sha2Is", fn := fun _ => fun
  | [d1, d2, d3] => { results := [.lit (.bool false)], args := [d1, d2, d3] }
  | _ => none }
def Sha2IsWrongFalsely : Prop := sha2IsRow.holds Tryd.pinned (OpenSpec.ofChange sha2IsWrong)

/-- 'florinlaw02.Sha2Roots': WHATEVER THE INPUT: true; the input reads as it did. -/
def sha2RootsSpec : ChangeSpec := { name := "sha2Roots", fn := fun _ => fun
  | [d] => { results := [.lit (.bool true)], args := [d] }
  | _ => none }
def sha2RootsRow : OpenClaim := { program := "ytpdgeiflmnhkfaadoor", sum := "3476a28d765cce2ccba200c1f35c622ac713c595e950bca1edc8cbdfab09532b", func := "florin/florinlaw02.Sha2Roots", spec := "sha2Roots", inPlace := ["math/bits.Add64"], named := ["florin/sha2.initials", "florin/sha2.constants"], apart := false, laid := [("florin/sha2.constants", laid_florin_sha2_constants), ("florin/sha2.initials", laid_florin_sha2_initials)] }
def Sha2RootsSaid : Prop := sha2RootsRow.holds Tryd.pinned (OpenSpec.ofChange sha2RootsSpec)

/-- ITS FALSE NEIGHBOUR: 'it returns false'. Refute it at one input. -/
def sha2RootsWrong : ChangeSpec := { name := "sha2Roots", fn := fun _ => fun
  | [d] => { results := [.lit (.bool false)], args := [d] }
  | _ => none }
def Sha2RootsWrongFalsely : Prop := sha2RootsRow.holds Tryd.pinned (OpenSpec.ofChange sha2RootsWrong)

/-- 'florinlaw03.HashIs': WHATEVER THE INPUT: true; the input reads as it did. -/
def hashIsSpec : ChangeSpec := { name := "hashIs", fn := fun _ => fun
  | [d1, d2, d3, d4, d5, d6] => { results := [.lit (.bool true)], args := [d1, d2, d3, d4, d5, d6] }
  | _ => none }
def hashIsRow : OpenClaim := { program := "ytpdgeiflmnhkfaadoor", sum := "3476a28d765cce2ccba200c1f35c622ac713c595e950bca1edc8cbdfab09532b", func := "florin/florinlaw03.HashIs", spec := "hashIs", named := ["florin/sha2.initials", "florin/sha2.constants"], apart := false, laid := [("florin/sha2.constants", laid_florin_sha2_constants), ("florin/sha2.initials", laid_florin_sha2_initials)] }
def HashIsSaid : Prop := hashIsRow.holds Tryd.pinned (OpenSpec.ofChange hashIsSpec)

/-- ITS FALSE NEIGHBOUR: 'it returns false'. Refute it at one input. -/
def hashIsWrong : ChangeSpec := { name := "hashIs", fn := fun _ => fun
  | [d1, d2, d3, d4, d5, d6] => { results := [.lit (.bool false)], args := [d1, d2, d3, d4, d5, d6] }
  | _ => none }
def HashIsWrongFalsely : Prop := hashIsRow.holds Tryd.pinned (OpenSpec.ofChange hashIsWrong)

/-- 'florinlaw07.HeaderIs': WHATEVER THE INPUT: true; the input reads as it did. -/
def headerIsSpec : ChangeSpec := { name := "headerIs", fn := fun _ => fun
  | [d1, d2, d3, d4, d5] => { results := [.lit (.bool true)], args := [d1, d2, d3, d4, d5] }
  | _ => none }
def headerIsRow : OpenClaim := { program := "ytpdgeiflmnhkfaadoor", sum := "3476a28d765cce2ccba200c1f35c622ac713c595e950bca1edc8cbdfab09532b", func := "florin/florinlaw07.HeaderIs", spec := "headerIs", named := ["florin/sha2.initials", "florin/sha2.constants"], apart := false, laid := [("florin/sha2.constants", laid_florin_sha2_constants), ("florin/sha2.initials", laid_florin_sha2_initials)] }
def HeaderIsSaid : Prop := headerIsRow.holds Tryd.pinned (OpenSpec.ofChange headerIsSpec)

/-- ITS FALSE NEIGHBOUR: 'it returns false'. Refute it at one input. -/
def headerIsWrong : ChangeSpec := { name := "headerIs", fn := fun _ => fun
  | [d1, d2, d3, d4, d5] => { results := [.lit (.bool false)], args := [d1, d2, d3, d4, d5] }
  | _ => none }
def HeaderIsWrongFalsely : Prop := headerIsRow.holds Tryd.pinned (OpenSpec.ofChange headerIsWrong)

/-- 'florinlaw07.HeaderBytes': WHATEVER THE INPUT: true; the input reads as it did. -/
def headerBytesSpec : ChangeSpec := { name := "headerBytes", fn := fun _ => fun
  | [d1, d2] => { results := [.lit (.bool true)], args := [d1, d2] }
  | _ => none }
def headerBytesRow : OpenClaim := { program := "ytpdgeiflmnhkfaadoor", sum := "3476a28d765cce2ccba200c1f35c622ac713c595e950bca1edc8cbdfab09532b", func := "florin/florinlaw07.HeaderBytes", spec := "headerBytes", named := ["florin/sha2.initials", "florin/sha2.constants"], apart := false, laid := [("florin/sha2.constants", laid_florin_sha2_constants), ("florin/sha2.initials", laid_florin_sha2_initials)] }
def HeaderBytesSaid : Prop := headerBytesRow.holds Tryd.pinned (OpenSpec.ofChange headerBytesSpec)

/-- ITS FALSE NEIGHBOUR: 'it returns false'. Refute it at one input. -/
def headerBytesWrong : ChangeSpec := { name := "headerBytes", fn := fun _ => fun
  | [d1, d2] => { results := [.lit (.bool false)], args := [d1, d2] }
  | _ => none }
def HeaderBytesWrongFalsely : Prop := headerBytesRow.holds Tryd.pinned (OpenSpec.ofChange headerBytesWrong)

/-- 'florinlaw10.MerkleIs': WHATEVER THE INPUT: true; the input reads as it did. -/
def merkleIsSpec : ChangeSpec := { name := "merkleIs", fn := fun _ => fun
  | [d1, d2, d3, d4, d5, d6] => { results := [.lit (.bool true)], args := [d1, d2, d3, d4, d5, d6] }
  | _ => none }
def merkleIsRow : OpenClaim := { program := "ytpdgeiflmnhkfaadoor", sum := "3476a28d765cce2ccba200c1f35c622ac713c595e950bca1edc8cbdfab09532b", func := "florin/florinlaw10.MerkleIs", spec := "merkleIs", unfollowed := true, recurses := true, named := ["florin/sha2.initials", "florin/sha2.constants"], apart := false, laid := [("florin/sha2.constants", laid_florin_sha2_constants), ("florin/sha2.initials", laid_florin_sha2_initials)] }
def MerkleIsSaid : Prop := merkleIsRow.holds Tryd.pinned (OpenSpec.ofChange merkleIsSpec)

/-- ITS FALSE NEIGHBOUR: 'it returns false'. Refute it at one input. -/
def merkleIsWrong : ChangeSpec := { name := "merkleIs", fn := fun _ => fun
  | [d1, d2, d3, d4, d5, d6] => { results := [.lit (.bool false)], args := [d1, d2, d3, d4, d5, d6] }
  | _ => none }
def MerkleIsWrongFalsely : Prop := merkleIsRow.holds Tryd.pinned (OpenSpec.ofChange merkleIsWrong)

/-- 'florinlaw10.MerkleClimbs': WHATEVER THE INPUT: true; the input reads as it did. -/
def merkleClimbsSpec : ChangeSpec := { name := "merkleClimbs", fn := fun _ => fun
  | [d1, d2] => { results := [.lit (.bool true)], args := [d1, d2] }
  | _ => none }
def merkleClimbsRow : OpenClaim := { program := "ytpdgeiflmnhkfaadoor", sum := "3476a28d765cce2ccba200c1f35c622ac713c595e950bca1edc8cbdfab09532b", func := "florin/florinlaw10.MerkleClimbs", spec := "merkleClimbs", unfollowed := true, recurses := true, named := ["florin/sha2.initials", "florin/sha2.constants"], apart := false, laid := [("florin/sha2.constants", laid_florin_sha2_constants), ("florin/sha2.initials", laid_florin_sha2_initials)] }
def MerkleClimbsSaid : Prop := merkleClimbsRow.holds Tryd.pinned (OpenSpec.ofChange merkleClimbsSpec)

/-- ITS FALSE NEIGHBOUR: 'it returns false'. Refute it at one input. -/
def merkleClimbsWrong : ChangeSpec := { name := "merkleClimbs", fn := fun _ => fun
  | [d1, d2] => { results := [.lit (.bool false)], args := [d1, d2] }
  | _ => none }
def MerkleClimbsWrongFalsely : Prop := merkleClimbsRow.holds Tryd.pinned (OpenSpec.ofChange merkleClimbsWrong)

/-- 'florinlaw10.MerkleLevels': WHATEVER THE INPUT: true; the input reads as it did. -/
def merkleLevelsSpec : ChangeSpec := { name := "merkleLevels", fn := fun _ => fun
  | [d] => { results := [.lit (.bool true)], args := [d] }
  | _ => none }
def merkleLevelsRow : OpenClaim := { program := "ytpdgeiflmnhkfaadoor", sum := "3476a28d765cce2ccba200c1f35c622ac713c595e950bca1edc8cbdfab09532b", func := "florin/florinlaw10.MerkleLevels", spec := "merkleLevels", unfollowed := true, recurses := true, named := ["florin/sha2.initials", "florin/sha2.constants"], apart := false, laid := [("florin/sha2.constants", laid_florin_sha2_constants), ("florin/sha2.initials", laid_florin_sha2_initials)] }
def MerkleLevelsSaid : Prop := merkleLevelsRow.holds Tryd.pinned (OpenSpec.ofChange merkleLevelsSpec)

/-- ITS FALSE NEIGHBOUR: 'it returns false'. Refute it at one input. -/
def merkleLevelsWrong : ChangeSpec := { name := "merkleLevels", fn := fun _ => fun
  | [d] => { results := [.lit (.bool false)], args := [d] }
  | _ => none }
def MerkleLevelsWrongFalsely : Prop := merkleLevelsRow.holds Tryd.pinned (OpenSpec.ofChange merkleLevelsWrong)

/-- 'florinlaw10.MerkleDoubled': WHATEVER THE INPUT: true; the input reads as it did. -/
def merkleDoubledSpec : ChangeSpec := { name := "merkleDoubled", fn := fun _ => fun
  | [d] => { results := [.lit (.bool true)], args := [d] }
  | _ => none }
def merkleDoubledRow : OpenClaim := { program := "ytpdgeiflmnhkfaadoor", sum := "3476a28d765cce2ccba200c1f35c622ac713c595e950bca1edc8cbdfab09532b", func := "florin/florinlaw10.MerkleDoubled", spec := "merkleDoubled", unfollowed := true, recurses := true, named := ["florin/sha2.initials", "florin/sha2.constants"], apart := false, laid := [("florin/sha2.constants", laid_florin_sha2_constants), ("florin/sha2.initials", laid_florin_sha2_initials)] }
def MerkleDoubledSaid : Prop := merkleDoubledRow.holds Tryd.pinned (OpenSpec.ofChange merkleDoubledSpec)

/-- ITS FALSE NEIGHBOUR: 'it returns false'. Refute it at one input. -/
def merkleDoubledWrong : ChangeSpec := { name := "merkleDoubled", fn := fun _ => fun
  | [d] => { results := [.lit (.bool false)], args := [d] }
  | _ => none }
def MerkleDoubledWrongFalsely : Prop := merkleDoubledRow.holds Tryd.pinned (OpenSpec.ofChange merkleDoubledWrong)

/-- 'florinlaw10.MerkleHalves': WHATEVER THE INPUT: true; the input reads as it did. -/
def merkleHalvesSpec : ChangeSpec := { name := "merkleHalves", fn := fun _ => fun
  | [d1, d2] => { results := [.lit (.bool true)], args := [d1, d2] }
  | _ => none }
def merkleHalvesRow : OpenClaim := { program := "ytpdgeiflmnhkfaadoor", sum := "3476a28d765cce2ccba200c1f35c622ac713c595e950bca1edc8cbdfab09532b", func := "florin/florinlaw10.MerkleHalves", spec := "merkleHalves", unfollowed := true, recurses := true, named := ["florin/sha2.initials", "florin/sha2.constants"], apart := false, laid := [("florin/sha2.constants", laid_florin_sha2_constants), ("florin/sha2.initials", laid_florin_sha2_initials)] }
def MerkleHalvesSaid : Prop := merkleHalvesRow.holds Tryd.pinned (OpenSpec.ofChange merkleHalvesSpec)

/-- ITS FALSE NEIGHBOUR: 'it returns false'. Refute it at one input. -/
def merkleHalvesWrong : ChangeSpec := { name := "merkleHalves", fn := fun _ => fun
  | [d1, d2] => { results := [.lit (.bool false)], args := [d1, d2] }
  | _ => none }
def MerkleHalvesWrongFalsely : Prop := merkleHalvesRow.holds Tryd.pinned (OpenSpec.ofChange merkleHalvesWrong)

/-- 'florinlaw10.MerkleAlike': WHATEVER THE INPUT: true; the input reads as it did. -/
def merkleAlikeSpec : ChangeSpec := { name := "merkleAlike", fn := fun _ => fun
  | [d1, d2] => { results := [.lit (.bool true)], args := [d1, d2] }
  | _ => none }
def merkleAlikeRow : OpenClaim := { program := "ytpdgeiflmnhkfaadoor", sum := "3476a28d765cce2ccba200c1f35c622ac713c595e950bca1edc8cbdfab09532b", func := "florin/florinlaw10.MerkleAlike", spec := "merkleAlike", unfollowed := true, recurses := true, named := ["florin/sha2.initials", "florin/sha2.constants"], apart := false, laid := [("florin/sha2.constants", laid_florin_sha2_constants), ("florin/sha2.initials", laid_florin_sha2_initials)] }
def MerkleAlikeSaid : Prop := merkleAlikeRow.holds Tryd.pinned (OpenSpec.ofChange merkleAlikeSpec)

/-- ITS FALSE NEIGHBOUR: 'it returns false'. Refute it at one input. -/
def merkleAlikeWrong : ChangeSpec := { name := "merkleAlike", fn := fun _ => fun
  | [d1, d2] => { results := [.lit (.bool false)], args := [d1, d2] }
  | _ => none }
def MerkleAlikeWrongFalsely : Prop := merkleAlikeRow.holds Tryd.pinned (OpenSpec.ofChange merkleAlikeWrong)

/-- 'florinlaw23.ScriptIs': WHATEVER THE INPUT: true; the input reads as it did. -/
def scriptIsSpec : ChangeSpec := { name := "scriptIs", fn := fun _ => fun
  | [d1, d2, d3] => { results := [.lit (.bool true)], args := [d1, d2, d3] }
  | _ => none }
def scriptIsRow : OpenClaim := { program := "ytpdgeiflmnhkfaadoor", sum := "3476a28d765cce2ccba200c1f35c622ac713c595e950bca1edc8cbdfab09532b", func := "florin/florinlaw23.ScriptIs", spec := "scriptIs", named := ["florin/script.names"], apart := false, laid := [("florin/script.names", laid_florin_script_names)] }
def ScriptIsSaid : Prop := scriptIsRow.holds Tryd.pinned (OpenSpec.ofChange scriptIsSpec)

/-- ITS FALSE NEIGHBOUR: 'it returns false'. Refute it at one input. -/
def scriptIsWrong : ChangeSpec := { name := "scriptIs", fn := fun _ => fun
  | [d1, d2, d3] => { results := [.lit (.bool false)], args := [d1, d2, d3] }
  | _ => none }
def ScriptIsWrongFalsely : Prop := scriptIsRow.holds Tryd.pinned (OpenSpec.ofChange scriptIsWrong)

/-- 'florinlaw23.ScriptBack': WHATEVER THE INPUT: true; the input reads as it did. -/
def scriptBackSpec : ChangeSpec := { name := "scriptBack", fn := fun _ => fun
  | [d] => { results := [.lit (.bool true)], args := [d] }
  | _ => none }
def scriptBackRow : OpenClaim := { program := "ytpdgeiflmnhkfaadoor", sum := "3476a28d765cce2ccba200c1f35c622ac713c595e950bca1edc8cbdfab09532b", func := "florin/florinlaw23.ScriptBack", spec := "scriptBack", named := ["florin/script.names"], apart := false, laid := [("florin/script.names", laid_florin_script_names)] }
def ScriptBackSaid : Prop := scriptBackRow.holds Tryd.pinned (OpenSpec.ofChange scriptBackSpec)

/-- ITS FALSE NEIGHBOUR: 'it returns false'. Refute it at one input. -/
def scriptBackWrong : ChangeSpec := { name := "scriptBack", fn := fun _ => fun
  | [d] => { results := [.lit (.bool false)], args := [d] }
  | _ => none }
def ScriptBackWrongFalsely : Prop := scriptBackRow.holds Tryd.pinned (OpenSpec.ofChange scriptBackWrong)

/-- 'florinlaw23.ScriptGood': WHATEVER THE INPUT: true; the input reads as it did. -/
def scriptGoodSpec : ChangeSpec := { name := "scriptGood", fn := fun _ => fun
  | [d] => { results := [.lit (.bool true)], args := [d] }
  | _ => none }
def scriptGoodRow : OpenClaim := { program := "ytpdgeiflmnhkfaadoor", sum := "3476a28d765cce2ccba200c1f35c622ac713c595e950bca1edc8cbdfab09532b", func := "florin/florinlaw23.ScriptGood", spec := "scriptGood", named := ["florin/script.names"], apart := false, laid := [("florin/script.names", laid_florin_script_names)] }
def ScriptGoodSaid : Prop := scriptGoodRow.holds Tryd.pinned (OpenSpec.ofChange scriptGoodSpec)

/-- ITS FALSE NEIGHBOUR: 'it returns false'. Refute it at one input. -/
def scriptGoodWrong : ChangeSpec := { name := "scriptGood", fn := fun _ => fun
  | [d] => { results := [.lit (.bool false)], args := [d] }
  | _ => none }
def ScriptGoodWrongFalsely : Prop := scriptGoodRow.holds Tryd.pinned (OpenSpec.ofChange scriptGoodWrong)

/-- 'florinlaw23.ScriptRows': WHATEVER THE INPUT: true; the input reads as it did. -/
def scriptRowsSpec : ChangeSpec := { name := "scriptRows", fn := fun _ => fun
  | [d1, d2] => { results := [.lit (.bool true)], args := [d1, d2] }
  | _ => none }
def scriptRowsRow : OpenClaim := { program := "ytpdgeiflmnhkfaadoor", sum := "3476a28d765cce2ccba200c1f35c622ac713c595e950bca1edc8cbdfab09532b", func := "florin/florinlaw23.ScriptRows", spec := "scriptRows", named := ["florin/script.names"], apart := false, laid := [("florin/script.names", laid_florin_script_names)] }
def ScriptRowsSaid : Prop := scriptRowsRow.holds Tryd.pinned (OpenSpec.ofChange scriptRowsSpec)

/-- ITS FALSE NEIGHBOUR: 'it returns false'. Refute it at one input. -/
def scriptRowsWrong : ChangeSpec := { name := "scriptRows", fn := fun _ => fun
  | [d1, d2] => { results := [.lit (.bool false)], args := [d1, d2] }
  | _ => none }
def ScriptRowsWrongFalsely : Prop := scriptRowsRow.holds Tryd.pinned (OpenSpec.ofChange scriptRowsWrong)

/- THE SECOND FORM. 'bulk': how many values and letters a reading holds, each counted each time it is reached (what is shared counts as often as it is met; a slice's spare places count too). A statement '..UptoSaid' is the law's where the arguments, and the package variables that the reading takes, are together of bulk at most 1048576: NARROWER than '..Said'. Prove '..Said' where nothing that the law and all that it calls make is longer than what came in: it says more and counts as full. Else prove '..UptoSaid'. A law counts once. -/
mutual
def uptoBulk {H : Type} : DataW H → Nat
  | .lit (.string bytes) => bytes.length + 1
  | .lit _ => 1
  | .nil => 1
  | .ptr d => uptoBulk d + 1
  | .slice elems spare => uptoBulkAll elems + uptoBulkAll spare + 1
  | .agg parts => uptoBulkAll parts + 1
  | .iface _ d => uptoBulk d + 1
  | .map entries => uptoBulkEntries entries + 1
  | .held _ => 1
def uptoBulkAll {H : Type} : List (DataW H) → Nat
  | [] => 0
  | d :: r => uptoBulk d + uptoBulkAll r
def uptoBulkEntries {H : Type} : List (Lit × DataW H) → Nat
  | [] => 0
  | x :: r => uptoBulkEntry x + uptoBulkEntries r
def uptoBulkEntry {H : Type} : Lit × DataW H → Nat
  | (.string bytes, d) => bytes.length + uptoBulk d + 1
  | (_, d) => uptoBulk d + 1
 end
def uptoSmall : (H : Type) → List (DataW H) → Bool := fun _ ds => decide (uptoBulkAll ds ≤ 1048576)
def OpenSpec.upto (s : _root_.Go.ChangeSpec) : _root_.Go.OpenSpec := { _root_.Go.OpenSpec.ofChange s with cond := some uptoSmall }

/-- 'florinlaw02.Sha2Is', WHERE WHAT IT READS IS OF BULK AT MOST 1048576: true; the input reads as it did. -/
def sha2IsUptoRow : OpenClaim := { program := "ytpdgeiflmnhkfaadoor", sum := "3476a28d765cce2ccba200c1f35c622ac713c595e950bca1edc8cbdfab09532b", func := "florin/florinlaw02.Sha2Is", spec := "sha2Is", named := ["florin/sha2.initials", "florin/sha2.constants"], apart := false, laid := [("florin/sha2.constants", laid_florin_sha2_constants), ("florin/sha2.initials", laid_florin_sha2_initials)], narrowed := true }
def Sha2IsUptoSaid : Prop := sha2IsUptoRow.holds Tryd.pinned (OpenSpec.upto sha2IsSpec)

/-- 'florinlaw02.Sha2Roots', WHERE WHAT IT READS IS OF BULK AT MOST 1048576: true; the input reads as it did. -/
def sha2RootsUptoRow : OpenClaim := { program := "ytpdgeiflmnhkfaadoor", sum := "3476a28d765cce2ccba200c1f35c622ac713c595e950bca1edc8cbdfab09532b", func := "florin/florinlaw02.Sha2Roots", spec := "sha2Roots", inPlace := ["math/bits.Add64"], named := ["florin/sha2.initials", "florin/sha2.constants"], apart := false, laid := [("florin/sha2.constants", laid_florin_sha2_constants), ("florin/sha2.initials", laid_florin_sha2_initials)], narrowed := true }
def Sha2RootsUptoSaid : Prop := sha2RootsUptoRow.holds Tryd.pinned (OpenSpec.upto sha2RootsSpec)

/-- 'florinlaw03.HashIs', WHERE WHAT IT READS IS OF BULK AT MOST 1048576: true; the input reads as it did. -/
def hashIsUptoRow : OpenClaim := { program := "ytpdgeiflmnhkfaadoor", sum := "3476a28d765cce2ccba200c1f35c622ac713c595e950bca1edc8cbdfab09532b", func := "florin/florinlaw03.HashIs", spec := "hashIs", named := ["florin/sha2.initials", "florin/sha2.constants"], apart := false, laid := [("florin/sha2.constants", laid_florin_sha2_constants), ("florin/sha2.initials", laid_florin_sha2_initials)], narrowed := true }
def HashIsUptoSaid : Prop := hashIsUptoRow.holds Tryd.pinned (OpenSpec.upto hashIsSpec)

/-- 'florinlaw07.HeaderIs', WHERE WHAT IT READS IS OF BULK AT MOST 1048576: true; the input reads as it did. -/
def headerIsUptoRow : OpenClaim := { program := "ytpdgeiflmnhkfaadoor", sum := "3476a28d765cce2ccba200c1f35c622ac713c595e950bca1edc8cbdfab09532b", func := "florin/florinlaw07.HeaderIs", spec := "headerIs", named := ["florin/sha2.initials", "florin/sha2.constants"], apart := false, laid := [("florin/sha2.constants", laid_florin_sha2_constants), ("florin/sha2.initials", laid_florin_sha2_initials)], narrowed := true }
def HeaderIsUptoSaid : Prop := headerIsUptoRow.holds Tryd.pinned (OpenSpec.upto headerIsSpec)

/-- 'florinlaw07.HeaderBytes', WHERE WHAT IT READS IS OF BULK AT MOST 1048576: true; the input reads as it did. -/
def headerBytesUptoRow : OpenClaim := { program := "ytpdgeiflmnhkfaadoor", sum := "3476a28d765cce2ccba200c1f35c622ac713c595e950bca1edc8cbdfab09532b", func := "florin/florinlaw07.HeaderBytes", spec := "headerBytes", named := ["florin/sha2.initials", "florin/sha2.constants"], apart := false, laid := [("florin/sha2.constants", laid_florin_sha2_constants), ("florin/sha2.initials", laid_florin_sha2_initials)], narrowed := true }
def HeaderBytesUptoSaid : Prop := headerBytesUptoRow.holds Tryd.pinned (OpenSpec.upto headerBytesSpec)

/-- 'florinlaw10.MerkleIs', WHERE WHAT IT READS IS OF BULK AT MOST 1048576: true; the input reads as it did. -/
def merkleIsUptoRow : OpenClaim := { program := "ytpdgeiflmnhkfaadoor", sum := "3476a28d765cce2ccba200c1f35c622ac713c595e950bca1edc8cbdfab09532b", func := "florin/florinlaw10.MerkleIs", spec := "merkleIs", unfollowed := true, recurses := true, named := ["florin/sha2.initials", "florin/sha2.constants"], apart := false, laid := [("florin/sha2.constants", laid_florin_sha2_constants), ("florin/sha2.initials", laid_florin_sha2_initials)], narrowed := true }
def MerkleIsUptoSaid : Prop := merkleIsUptoRow.holds Tryd.pinned (OpenSpec.upto merkleIsSpec)

/-- 'florinlaw10.MerkleClimbs', WHERE WHAT IT READS IS OF BULK AT MOST 1048576: true; the input reads as it did. -/
def merkleClimbsUptoRow : OpenClaim := { program := "ytpdgeiflmnhkfaadoor", sum := "3476a28d765cce2ccba200c1f35c622ac713c595e950bca1edc8cbdfab09532b", func := "florin/florinlaw10.MerkleClimbs", spec := "merkleClimbs", unfollowed := true, recurses := true, named := ["florin/sha2.initials", "florin/sha2.constants"], apart := false, laid := [("florin/sha2.constants", laid_florin_sha2_constants), ("florin/sha2.initials", laid_florin_sha2_initials)], narrowed := true }
def MerkleClimbsUptoSaid : Prop := merkleClimbsUptoRow.holds Tryd.pinned (OpenSpec.upto merkleClimbsSpec)

/-- 'florinlaw10.MerkleLevels', WHERE WHAT IT READS IS OF BULK AT MOST 1048576: true; the input reads as it did. -/
def merkleLevelsUptoRow : OpenClaim := { program := "ytpdgeiflmnhkfaadoor", sum := "3476a28d765cce2ccba200c1f35c622ac713c595e950bca1edc8cbdfab09532b", func := "florin/florinlaw10.MerkleLevels", spec := "merkleLevels", unfollowed := true, recurses := true, named := ["florin/sha2.initials", "florin/sha2.constants"], apart := false, laid := [("florin/sha2.constants", laid_florin_sha2_constants), ("florin/sha2.initials", laid_florin_sha2_initials)], narrowed := true }
def MerkleLevelsUptoSaid : Prop := merkleLevelsUptoRow.holds Tryd.pinned (OpenSpec.upto merkleLevelsSpec)

/-- 'florinlaw10.MerkleDoubled', WHERE WHAT IT READS IS OF BULK AT MOST 1048576: true; the input reads as it did. -/
def merkleDoubledUptoRow : OpenClaim := { program := "ytpdgeiflmnhkfaadoor", sum := "3476a28d765cce2ccba200c1f35c622ac713c595e950bca1edc8cbdfab09532b", func := "florin/florinlaw10.MerkleDoubled", spec := "merkleDoubled", unfollowed := true, recurses := true, named := ["florin/sha2.initials", "florin/sha2.constants"], apart := false, laid := [("florin/sha2.constants", laid_florin_sha2_constants), ("florin/sha2.initials", laid_florin_sha2_initials)], narrowed := true }
def MerkleDoubledUptoSaid : Prop := merkleDoubledUptoRow.holds Tryd.pinned (OpenSpec.upto merkleDoubledSpec)

/-- 'florinlaw10.MerkleHalves', WHERE WHAT IT READS IS OF BULK AT MOST 1048576: true; the input reads as it did. -/
def merkleHalvesUptoRow : OpenClaim := { program := "ytpdgeiflmnhkfaadoor", sum := "3476a28d765cce2ccba200c1f35c622ac713c595e950bca1edc8cbdfab09532b", func := "florin/florinlaw10.MerkleHalves", spec := "merkleHalves", unfollowed := true, recurses := true, named := ["florin/sha2.initials", "florin/sha2.constants"], apart := false, laid := [("florin/sha2.constants", laid_florin_sha2_constants), ("florin/sha2.initials", laid_florin_sha2_initials)], narrowed := true }
def MerkleHalvesUptoSaid : Prop := merkleHalvesUptoRow.holds Tryd.pinned (OpenSpec.upto merkleHalvesSpec)

/-- 'florinlaw10.MerkleAlike', WHERE WHAT IT READS IS OF BULK AT MOST 1048576: true; the input reads as it did. -/
def merkleAlikeUptoRow : OpenClaim := { program := "ytpdgeiflmnhkfaadoor", sum := "3476a28d765cce2ccba200c1f35c622ac713c595e950bca1edc8cbdfab09532b", func := "florin/florinlaw10.MerkleAlike", spec := "merkleAlike", unfollowed := true, recurses := true, named := ["florin/sha2.initials", "florin/sha2.constants"], apart := false, laid := [("florin/sha2.constants", laid_florin_sha2_constants), ("florin/sha2.initials", laid_florin_sha2_initials)], narrowed := true }
def MerkleAlikeUptoSaid : Prop := merkleAlikeUptoRow.holds Tryd.pinned (OpenSpec.upto merkleAlikeSpec)

/-- 'florinlaw23.ScriptIs', WHERE WHAT IT READS IS OF BULK AT MOST 1048576: true; the input reads as it did. -/
def scriptIsUptoRow : OpenClaim := { program := "ytpdgeiflmnhkfaadoor", sum := "3476a28d765cce2ccba200c1f35c622ac713c595e950bca1edc8cbdfab09532b", func := "florin/florinlaw23.ScriptIs", spec := "scriptIs", named := ["florin/script.names"], apart := false, laid := [("florin/script.names", laid_florin_script_names)], narrowed := true }
def ScriptIsUptoSaid : Prop := scriptIsUptoRow.holds Tryd.pinned (OpenSpec.upto scriptIsSpec)

/-- 'florinlaw23.ScriptBack', WHERE WHAT IT READS IS OF BULK AT MOST 1048576: true; the input reads as it did. -/
def scriptBackUptoRow : OpenClaim := { program := "ytpdgeiflmnhkfaadoor", sum := "3476a28d765cce2ccba200c1f35c622ac713c595e950bca1edc8cbdfab09532b", func := "florin/florinlaw23.ScriptBack", spec := "scriptBack", named := ["florin/script.names"], apart := false, laid := [("florin/script.names", laid_florin_script_names)], narrowed := true }
def ScriptBackUptoSaid : Prop := scriptBackUptoRow.holds Tryd.pinned (OpenSpec.upto scriptBackSpec)

/-- 'florinlaw23.ScriptGood', WHERE WHAT IT READS IS OF BULK AT MOST 1048576: true; the input reads as it did. -/
def scriptGoodUptoRow : OpenClaim := { program := "ytpdgeiflmnhkfaadoor", sum := "3476a28d765cce2ccba200c1f35c622ac713c595e950bca1edc8cbdfab09532b", func := "florin/florinlaw23.ScriptGood", spec := "scriptGood", named := ["florin/script.names"], apart := false, laid := [("florin/script.names", laid_florin_script_names)], narrowed := true }
def ScriptGoodUptoSaid : Prop := scriptGoodUptoRow.holds Tryd.pinned (OpenSpec.upto scriptGoodSpec)

/-- 'florinlaw23.ScriptRows', WHERE WHAT IT READS IS OF BULK AT MOST 1048576: true; the input reads as it did. -/
def scriptRowsUptoRow : OpenClaim := { program := "ytpdgeiflmnhkfaadoor", sum := "3476a28d765cce2ccba200c1f35c622ac713c595e950bca1edc8cbdfab09532b", func := "florin/florinlaw23.ScriptRows", spec := "scriptRows", named := ["florin/script.names"], apart := false, laid := [("florin/script.names", laid_florin_script_names)], narrowed := true }
def ScriptRowsUptoSaid : Prop := scriptRowsUptoRow.holds Tryd.pinned (OpenSpec.upto scriptRowsSpec)

end Rows
end Go.Proofs.YtpdgeiflmnhkfaaDoor
