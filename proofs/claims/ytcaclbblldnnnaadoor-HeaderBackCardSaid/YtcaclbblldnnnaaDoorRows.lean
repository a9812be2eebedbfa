/-
  NARROWER THAN 'FOR EVERY INPUT', by the rows' own cells (each row's printed sentence says how): Sha2Roots: laid · Sha2Cut: laid · Sha2Blocks: laid · HeaderBack: laid · HeaderOnce: laid · HeaderMines: laid · HeaderChain: laid · HeaderBytes: laid.
  DERIVED. THE GIVEN ROWS OF THIS SEAT. 8 by the template 'for every input the law returns true; each argument reads behind the call as it read before'; 0 by the template 'total and deterministic' (their statements: YtcaclbblldnnnaaDoorTotals.lean).
  GIVEN WITH THE SEED: the statements are not yours to turn. If you find one false, say at which input.
  Laid BY PROGRAM, IN A SANDBOX (cutbox-rows.mjs): the forced cells as the released guide's own fill.sh prints them over the translation b1b0709d67f1129b… (all of the seat's roots in one cut). By AI agents, Wed Nov 11 2026. No macro, syntax, notation, axiom, sorry.
-/
import Derived.Test.YtcaclbblldnnnaaDoorChecked
import GoSem.Claim
import GoSem.ClaimJoined
import GoSem.ClaimMapViews
import Derived.JoinedTies
import Derived.KernelRfl
namespace Go.Proofs.YtcaclbblldnnnaaDoor
/- THE CELL 'sum', in the pinned program and in every row, IS THE sha256 OF THE DUMP (.gsa) THAT YtcaclbblldnnnaaDoorProg.lean LOADS. Nothing in Lean hashes anything: it is a label: what it is worth is what the hold of that sum in a sandbox is worth. -/
noncomputable def Tryd.pinned : Pinned := { name := "ytcaclbblldnnnaadoor", sum := "b1b0709d67f1129b282842b0762e7cff25c243fd32625592b47b344176dbbf6b", checked := Tryd.checked }
namespace Rows
def none {H : Type} : Left H := { results := [], args := [] }

/- WHAT THE LISTED PACKAGE-LEVEL VARIABLES READ AS WHEN THE CALL BEGINS. Each datum BY PROGRAM (the guide's laid-datum.mjs) off the statement by which the dump's own 'gosem.cut.vars' lays the variable. In a bare row this is a premise. The card (YtcaclbblldnnnaaDoorCards.lean) ties it to the program's text. -/
def laid_florin_sha2_constants {H : Type} : DataW H := .agg [.lit (.int .u32 1116352408), .lit (.int .u32 1899447441), .lit (.int .u32 3049323471), .lit (.int .u32 3921009573), .lit (.int .u32 961987163), .lit (.int .u32 1508970993), .lit (.int .u32 2453635748), .lit (.int .u32 2870763221), .lit (.int .u32 3624381080), .lit (.int .u32 310598401), .lit (.int .u32 607225278), .lit (.int .u32 1426881987), .lit (.int .u32 1925078388), .lit (.int .u32 2162078206), .lit (.int .u32 2614888103), .lit (.int .u32 3248222580), .lit (.int .u32 3835390401), .lit (.int .u32 4022224774), .lit (.int .u32 264347078), .lit (.int .u32 604807628), .lit (.int .u32 770255983), .lit (.int .u32 1249150122), .lit (.int .u32 1555081692), .lit (.int .u32 1996064986), .lit (.int .u32 2554220882), .lit (.int .u32 2821834349), .lit (.int .u32 2952996808), .lit (.int .u32 3210313671), .lit (.int .u32 3336571891), .lit (.int .u32 3584528711), .lit (.int .u32 113926993), .lit (.int .u32 338241895), .lit (.int .u32 666307205), .lit (.int .u32 773529912), .lit (.int .u32 1294757372), .lit (.int .u32 1396182291), .lit (.int .u32 1695183700), .lit (.int .u32 1986661051), .lit (.int .u32 2177026350), .lit (.int .u32 2456956037), .lit (.int .u32 2730485921), .lit (.int .u32 2820302411), .lit (.int .u32 3259730800), .lit (.int .u32 3345764771), .lit (.int .u32 3516065817), .lit (.int .u32 3600352804), .lit (.int .u32 4094571909), .lit (.int .u32 275423344), .lit (.int .u32 430227734), .lit (.int .u32 506948616), .lit (.int .u32 659060556), .lit (.int .u32 883997877), .lit (.int .u32 958139571), .lit (.int .u32 1322822218), .lit (.int .u32 1537002063), .lit (.int .u32 1747873779), .lit (.int .u32 1955562222), .lit (.int .u32 2024104815), .lit (.int .u32 2227730452), .lit (.int .u32 2361852424), .lit (.int .u32 2428436474), .lit (.int .u32 2756734187), .lit (.int .u32 3204031479), .lit (.int .u32 3329325298)]
def laid_florin_sha2_initials {H : Type} : DataW H := .agg [.lit (.int .u32 1779033703), .lit (.int .u32 3144134277), .lit (.int .u32 1013904242), .lit (.int .u32 2773480762), .lit (.int .u32 1359893119), .lit (.int .u32 2600822924), .lit (.int .u32 528734635), .lit (.int .u32 1541459225)]

/-- 'florinlaw02.Sha2Roots': WHATEVER THE INPUT: true; the input reads as it did. -/
def sha2RootsSpec : ChangeSpec := { name := "sha2Roots", fn := fun _ => fun
  | [d] => { results := [.lit (.bool true)], args := [d] }
  | _ => none }
def sha2RootsRow : OpenClaim := { program := "ytcaclbblldnnnaadoor", sum := "b1b0709d67f1129b282842b0762e7cff25c243fd32625592b47b344176dbbf6b", func := "florin/florinlaw02.Sha2Roots", spec := "sha2Roots", inPlace := ["math/bits.Add64"], named := ["florin/sha2.initials", "florin/sha2.constants"], apart := false, laid := [("florin/sha2.constants", laid_florin_sha2_constants), ("florin/sha2.initials", laid_florin_sha2_initials)] }
def Sha2RootsSaid : Prop := sha2RootsRow.holds Tryd.pinned (OpenSpec.ofChange sha2RootsSpec)

/-- ITS FALSE NEIGHBOUR: 'it returns false'. Refute it at one input. -/
def sha2RootsWrong : ChangeSpec := { name := "sha2Roots", fn := fun _ => fun
  | [d] => { results := [.lit (.bool false)], args := [d] }
  | _ => none }
def Sha2RootsWrongFalsely : Prop := sha2RootsRow.holds Tryd.pinned (OpenSpec.ofChange sha2RootsWrong)

/-- 'florinlaw02.Sha2Cut': WHATEVER THE INPUT: true; the input reads as it did. -/
def sha2CutSpec : ChangeSpec := { name := "sha2Cut", fn := fun _ => fun
  | [d1, d2, d3] => { results := [.lit (.bool true)], args := [d1, d2, d3] }
  | _ => none }
def sha2CutRow : OpenClaim := { program := "ytcaclbblldnnnaadoor", sum := "b1b0709d67f1129b282842b0762e7cff25c243fd32625592b47b344176dbbf6b", func := "florin/florinlaw02.Sha2Cut", spec := "sha2Cut", named := ["florin/sha2.initials", "florin/sha2.constants"], apart := false, laid := [("florin/sha2.constants", laid_florin_sha2_constants), ("florin/sha2.initials", laid_florin_sha2_initials)] }
def Sha2CutSaid : Prop := sha2CutRow.holds Tryd.pinned (OpenSpec.ofChange sha2CutSpec)

/-- ITS FALSE NEIGHBOUR: 'it returns false'. Refute it at one input. -/
def sha2CutWrong : ChangeSpec := { name := "sha2Cut", fn := fun _ => fun
  | [d1, d2, d3] => { results := [.lit (.bool false)], args := [d1, d2, d3] }
  | _ => none }
def Sha2CutWrongFalsely : Prop := sha2CutRow.holds Tryd.pinned (OpenSpec.ofChange sha2CutWrong)

/-- 'florinlaw02.Sha2Blocks': WHATEVER THE INPUT: true; the input reads as it did. -/
def sha2BlocksSpec : ChangeSpec := { name := "sha2Blocks", fn := fun _ => fun
  | [d1, d2] => { results := [.lit (.bool true)], args := [d1, d2] }
  | _ => none }
def sha2BlocksRow : OpenClaim := { program := "ytcaclbblldnnnaadoor", sum := "b1b0709d67f1129b282842b0762e7cff25c243fd32625592b47b344176dbbf6b", func := "florin/florinlaw02.Sha2Blocks", spec := "sha2Blocks", named := ["florin/sha2.initials", "florin/sha2.constants"], apart := false, laid := [("florin/sha2.constants", laid_florin_sha2_constants), ("florin/sha2.initials", laid_florin_sha2_initials)] }
def Sha2BlocksSaid : Prop := sha2BlocksRow.holds Tryd.pinned (OpenSpec.ofChange sha2BlocksSpec)

/-- ITS FALSE NEIGHBOUR: 'it returns false'. Refute it at one input. -/
def sha2BlocksWrong : ChangeSpec := { name := "sha2Blocks", fn := fun _ => fun
  | [d1, d2] => { results := [.lit (.bool false)], args := [d1, d2] }
  | _ => none }
def Sha2BlocksWrongFalsely : Prop := sha2BlocksRow.holds Tryd.pinned (OpenSpec.ofChange sha2BlocksWrong)

/-- 'florinlaw07.HeaderBack': WHATEVER THE INPUT: true; the input reads as it did. -/
def headerBackSpec : ChangeSpec := { name := "headerBack", fn := fun _ => fun
  | [d1, d2] => { results := [.lit (.bool true)], args := [d1, d2] }
  | _ => none }
def headerBackRow : OpenClaim := { program := "ytcaclbblldnnnaadoor", sum := "b1b0709d67f1129b282842b0762e7cff25c243fd32625592b47b344176dbbf6b", func := "florin/florinlaw07.HeaderBack", spec := "headerBack", named := ["florin/sha2.initials", "florin/sha2.constants"], apart := false, laid := [("florin/sha2.constants", laid_florin_sha2_constants), ("florin/sha2.initials", laid_florin_sha2_initials)] }
def HeaderBackSaid : Prop := headerBackRow.holds Tryd.pinned (OpenSpec.ofChange headerBackSpec)

/-- ITS FALSE NEIGHBOUR: 'it returns false'. Refute it at one input. -/
def headerBackWrong : ChangeSpec := { name := "headerBack", fn := fun _ => fun
  | [d1, d2] => { results := [.lit (.bool false)], args := [d1, d2] }
  | _ => none }
def HeaderBackWrongFalsely : Prop := headerBackRow.holds Tryd.pinned (OpenSpec.ofChange headerBackWrong)

/-- 'florinlaw07.HeaderOnce': WHATEVER THE INPUT: true; the input reads as it did. -/
def headerOnceSpec : ChangeSpec := { name := "headerOnce", fn := fun _ => fun
  | [d] => { results := [.lit (.bool true)], args := [d] }
  | _ => none }
def headerOnceRow : OpenClaim := { program := "ytcaclbblldnnnaadoor", sum := "b1b0709d67f1129b282842b0762e7cff25c243fd32625592b47b344176dbbf6b", func := "florin/florinlaw07.HeaderOnce", spec := "headerOnce", named := ["florin/sha2.initials", "florin/sha2.constants"], apart := false, laid := [("florin/sha2.constants", laid_florin_sha2_constants), ("florin/sha2.initials", laid_florin_sha2_initials)] }
def HeaderOnceSaid : Prop := headerOnceRow.holds Tryd.pinned (OpenSpec.ofChange headerOnceSpec)

/-- ITS FALSE NEIGHBOUR: 'it returns false'. Refute it at one input. -/
def headerOnceWrong : ChangeSpec := { name := "headerOnce", fn := fun _ => fun
  | [d] => { results := [.lit (.bool false)], args := [d] }
  | _ => none }
def HeaderOnceWrongFalsely : Prop := headerOnceRow.holds Tryd.pinned (OpenSpec.ofChange headerOnceWrong)

/-- 'florinlaw07.HeaderMines': WHATEVER THE INPUT: true; the input reads as it did. -/
def headerMinesSpec : ChangeSpec := { name := "headerMines", fn := fun _ => fun
  | [d1, d2, d3] => { results := [.lit (.bool true)], args := [d1, d2, d3] }
  | _ => none }
def headerMinesRow : OpenClaim := { program := "ytcaclbblldnnnaadoor", sum := "b1b0709d67f1129b282842b0762e7cff25c243fd32625592b47b344176dbbf6b", func := "florin/florinlaw07.HeaderMines", spec := "headerMines", named := ["florin/sha2.initials", "florin/sha2.constants"], apart := false, laid := [("florin/sha2.constants", laid_florin_sha2_constants), ("florin/sha2.initials", laid_florin_sha2_initials)] }
def HeaderMinesSaid : Prop := headerMinesRow.holds Tryd.pinned (OpenSpec.ofChange headerMinesSpec)

/-- ITS FALSE NEIGHBOUR: 'it returns false'. Refute it at one input. -/
def headerMinesWrong : ChangeSpec := { name := "headerMines", fn := fun _ => fun
  | [d1, d2, d3] => { results := [.lit (.bool false)], args := [d1, d2, d3] }
  | _ => none }
def HeaderMinesWrongFalsely : Prop := headerMinesRow.holds Tryd.pinned (OpenSpec.ofChange headerMinesWrong)

/-- 'florinlaw07.HeaderChain': WHATEVER THE INPUT: true; the input reads as it did. -/
def headerChainSpec : ChangeSpec := { name := "headerChain", fn := fun _ => fun
  | [d1, d2] => { results := [.lit (.bool true)], args := [d1, d2] }
  | _ => none }
def headerChainRow : OpenClaim := { program := "ytcaclbblldnnnaadoor", sum := "b1b0709d67f1129b282842b0762e7cff25c243fd32625592b47b344176dbbf6b", func := "florin/florinlaw07.HeaderChain", spec := "headerChain", named := ["florin/sha2.initials", "florin/sha2.constants"], apart := false, laid := [("florin/sha2.constants", laid_florin_sha2_constants), ("florin/sha2.initials", laid_florin_sha2_initials)] }
def HeaderChainSaid : Prop := headerChainRow.holds Tryd.pinned (OpenSpec.ofChange headerChainSpec)

/-- ITS FALSE NEIGHBOUR: 'it returns false'. Refute it at one input. -/
def headerChainWrong : ChangeSpec := { name := "headerChain", fn := fun _ => fun
  | [d1, d2] => { results := [.lit (.bool false)], args := [d1, d2] }
  | _ => none }
def HeaderChainWrongFalsely : Prop := headerChainRow.holds Tryd.pinned (OpenSpec.ofChange headerChainWrong)

/-- 'florinlaw07.HeaderBytes': WHATEVER THE INPUT: true; the input reads as it did. -/
def headerBytesSpec : ChangeSpec := { name := "headerBytes", fn := fun _ => fun
  | [d1, d2] => { results := [.lit (.bool true)], args := [d1, d2] }
  | _ => none }
def headerBytesRow : OpenClaim := { program := "ytcaclbblldnnnaadoor", sum := "b1b0709d67f1129b282842b0762e7cff25c243fd32625592b47b344176dbbf6b", func := "florin/florinlaw07.HeaderBytes", spec := "headerBytes", named := ["florin/sha2.initials", "florin/sha2.constants"], apart := false, laid := [("florin/sha2.constants", laid_florin_sha2_constants), ("florin/sha2.initials", laid_florin_sha2_initials)] }
def HeaderBytesSaid : Prop := headerBytesRow.holds Tryd.pinned (OpenSpec.ofChange headerBytesSpec)

/-- ITS FALSE NEIGHBOUR: 'it returns false'. Refute it at one input. -/
def headerBytesWrong : ChangeSpec := { name := "headerBytes", fn := fun _ => fun
  | [d1, d2] => { results := [.lit (.bool false)], args := [d1, d2] }
  | _ => none }
def HeaderBytesWrongFalsely : Prop := headerBytesRow.holds Tryd.pinned (OpenSpec.ofChange headerBytesWrong)

/- THE SECOND FORM. 'bulk': how many values and letters a reading holds, each counted each time it is reached (what is shared counts as often as it is met; a slice's spare places count too). A statement '..UptoSaid' is the law's where the arguments, and the package variables that the reading takes, are together of bulk at most 1048576: NARROWER than '..Said'. Prove '..Said' where nothing that the law and all that it calls make is longer than what came in: it says more and counts as full. Else prove '..UptoSaid'. A law counts once. -/
mutual
def uptoBulk {H : Type} : DataW H → Nat
  | .lit (.string bytes) => bytes.length + 1
  | .lit _ => 1
  | .nil => 1
  | .ptr d => uptoBulk d + 1
  | .slice elems spare => uptoBulkAll elems + uptoBulkAll spare + 1
  | .agg parts => uptoBulkAll parts + 1
  | .iface _ d => uptoBulk d + 1
  | .map entries => uptoBulkEntries entries + 1
  | .held _ => 1
def uptoBulkAll {H : Type} : List (DataW H) → Nat
  | [] => 0
  | d :: r => uptoBulk d + uptoBulkAll r
def uptoBulkEntries {H : Type} : List (Lit × DataW H) → Nat
  | [] => 0
  | x :: r => uptoBulkEntry x + uptoBulkEntries r
def uptoBulkEntry {H : Type} : Lit × DataW H → Nat
  | (.string bytes, d) => bytes.length + uptoBulk d + 1
  | (_, d) => uptoBulk d + 1
 end
def uptoSmall : (H : Type) → List (DataW H) → Bool := fun _ ds => decide (uptoBulkAll ds ≤ 1048576)
def OpenSpec.upto (s : _root_.Go.ChangeSpec) : _root_.Go.OpenSpec := { _root_.Go.OpenSpec.ofChange s with cond := some uptoSmall }

/-- 'florinlaw02.Sha2Roots', WHERE WHAT IT READS IS OF BULK AT MOST 1048576: true; the input reads as it did. -/
def sha2RootsUptoRow : OpenClaim := { program := "ytcaclbblldnnnaadoor", sum := "b1b0709d67f1129b282842b0762e7cff25c243fd32625592b47b344176dbbf6b", func := "florin/florinlaw02.Sha2Roots", spec := "sha2Roots", inPlace := ["math/bits.Add64"], named := ["florin/sha2.initials", "florin/sha2.constants"], apart := false, laid := [("florin/sha2.constants", laid_florin_sha2_constants), ("florin/sha2.initials", laid_florin_sha2_initials)], narrowed := true }
def Sha2RootsUptoSaid : Prop := sha2RootsUptoRow.holds Tryd.pinned (OpenSpec.upto sha2RootsSpec)

/-- 'florinlaw02.Sha2Cut', WHERE WHAT IT READS IS OF BULK AT MOST 1048576: true; the input reads as it did. -/
def sha2CutUptoRow : OpenClaim := { program := "ytcaclbblldnnnaadoor", sum := "b1b0709d67f1129b282842b0762e7cff25c243fd32625592b47b344176dbbf6b", func := "florin/florinlaw02.Sha2Cut", spec := "sha2Cut", named := ["florin/sha2.initials", "florin/sha2.constants"], apart := false, laid := [("florin/sha2.constants", laid_florin_sha2_constants), ("florin/sha2.initials", laid_florin_sha2_initials)], narrowed := true }
def Sha2CutUptoSaid : Prop := sha2CutUptoRow.holds Tryd.pinned (OpenSpec.upto sha2CutSpec)

/-- 'florinlaw02.Sha2Blocks', WHERE WHAT IT READS IS OF BULK AT MOST 1048576: true; the input reads as it did. -/
def sha2BlocksUptoRow : OpenClaim := { program := "ytcaclbblldnnnaadoor", sum := "b1b0709d67f1129b282842b0762e7cff25c243fd32625592b47b344176dbbf6b", func := "florin/florinlaw02.Sha2Blocks", spec := "sha2Blocks", named := ["florin/sha2.initials", "florin/sha2.constants"], apart := false, laid := [("florin/sha2.constants", laid_florin_sha2_constants), ("florin/sha2.initials", laid_florin_sha2_initials)], narrowed := true }
def Sha2BlocksUptoSaid : Prop := sha2BlocksUptoRow.holds Tryd.pinned (OpenSpec.upto sha2BlocksSpec)

/-- 'florinlaw07.HeaderBack', WHERE WHAT IT READS IS OF BULK AT MOST 1048576: true; the input reads as it did. -/
def headerBackUptoRow : OpenClaim := { program := "ytcaclbblldnnnaadoor", sum := "b1b0709d67f1129b282842b0762e7cff25c243fd32625592b47b344176dbbf6b", func := "florin/florinlaw07.HeaderBack", spec := "headerBack", named := ["florin/sha2.initials", "florin/sha2.constants"], apart := false, laid := [("florin/sha2.constants", laid_florin_sha2_constants), ("florin/sha2.initials", laid_florin_sha2_initials)], narrowed := true }
def HeaderBackUptoSaid : Prop := headerBackUptoRow.holds Tryd.pinned (OpenSpec.upto headerBackSpec)

/-- 'florinlaw07.HeaderOnce', WHERE WHAT IT READS IS OF BULK AT MOST 1048576: true; the input reads as it did. -/
def headerOnceUptoRow : OpenClaim := { program := "ytcaclbblldnnnaadoor", sum := "b1b0709d67f1129b282842b0762e7cff25c243fd32625592b47b344176dbbf6b", func := "florin/florinlaw07.HeaderOnce", spec := "headerOnce", named := ["florin/sha2.initials", "florin/sha2.constants"], apart := false, laid := [("florin/sha2.constants", laid_florin_sha2_constants), ("florin/sha2.initials", laid_florin_sha2_initials)], narrowed := true }
def HeaderOnceUptoSaid : Prop := headerOnceUptoRow.holds Tryd.pinned (OpenSpec.upto headerOnceSpec)

/-- 'florinlaw07.HeaderMines', WHERE WHAT IT READS IS OF BULK AT MOST 1048576: true; the input reads as it did. -/
def headerMinesUptoRow : OpenClaim := { program := "ytcaclbblldnnnaadoor", sum := "b1b0709d67f1129b282842b0762e7cff25c243fd32625592b47b344176dbbf6b", func := "florin/florinlaw07.HeaderMines", spec := "headerMines", named := ["florin/sha2.initials", "florin/sha2.constants"], apart := false, laid := [("florin/sha2.constants", laid_florin_sha2_constants), ("florin/sha2.initials", laid_florin_sha2_initials)], narrowed := true }
def HeaderMinesUptoSaid : Prop := headerMinesUptoRow.holds Tryd.pinned (OpenSpec.upto headerMinesSpec)

/-- 'florinlaw07.HeaderChain', WHERE WHAT IT READS IS OF BULK AT MOST 1048576: true; the input reads as it did. -/
def headerChainUptoRow : OpenClaim := { program := "ytcaclbblldnnnaadoor", sum := "b1b0709d67f1129b282842b0762e7cff25c243fd32625592b47b344176dbbf6b", func := "florin/florinlaw07.HeaderChain", spec := "headerChain", named := ["florin/sha2.initials", "florin/sha2.constants"], apart := false, laid := [("florin/sha2.constants", laid_florin_sha2_constants), ("florin/sha2.initials", laid_florin_sha2_initials)], narrowed := true }
def HeaderChainUptoSaid : Prop := headerChainUptoRow.holds Tryd.pinned (OpenSpec.upto headerChainSpec)

/-- 'florinlaw07.HeaderBytes', WHERE WHAT IT READS IS OF BULK AT MOST 1048576: true; the input reads as it did. -/
def headerBytesUptoRow : OpenClaim := { program := "ytcaclbblldnnnaadoor", sum := "b1b0709d67f1129b282842b0762e7cff25c243fd32625592b47b344176dbbf6b", func := "florin/florinlaw07.HeaderBytes", spec := "headerBytes", named := ["florin/sha2.initials", "florin/sha2.constants"], apart := false, laid := [("florin/sha2.constants", laid_florin_sha2_constants), ("florin/sha2.initials", laid_florin_sha2_initials)], narrowed := true }
def HeaderBytesUptoSaid : Prop := headerBytesUptoRow.holds Tryd.pinned (OpenSpec.upto headerBytesSpec)

end Rows
end Go.Proofs.YtcaclbblldnnnaaDoor
