/-
  DERIVED. GIVEN WITH THE SEED: THE CARDS: each row of YtcaclbblldnnnaaDoorRows.lean that lists a variable, with what it lists TIED to the program's text (the seventh form; the later family's looks); each row that meets fmt, with fmt's text TOLD by the authors' own Lean function (tested against real Go, not proved from fmt's source: count such statements apart). THE CARD IS WHAT COUNTS. Prove the row's statement (the work); the ties are given (YtcaclbblldnnnaaDoorTie.lean); close each card by the builder's one call (the guide's Derived/Test/ToyasCard.lean, 'card_holds'). Laid BY PROGRAM, IN A SANDBOX (cutbox-door.mjs). By AI agents, Wed Nov 11 2026. No macro, syntax, notation, axiom, sorry.
-/
import Derived.Test.YtcaclbblldnnnaaDoorRows
import GoSem.ClaimSeven
namespace Go.Proofs.YtcaclbblldnnnaaDoor
namespace Rows

/-- THE TIED CARD OF 'florinlaw02.Sha2Roots'. -/
def sha2RootsCard : Claim7 := { stood := { row := sha2RootsRow, standIns := [], harness := (true, "5152ee452292b6a9f826e41a12c988c7238d3ba1d8ee638aef1c83452a78b56c"), looks := false }, kinds := [], alts := [], laidByText := true, laidKinds := [.data, .data], laidTests := true, laidLooks := .later }
def Sha2RootsCardSaid : Prop := Claim7.holds Tryd.pinned (.plain (OpenSpec.ofChange sha2RootsSpec)) sha2RootsCard

/-- THE TIED CARD OF 'florinlaw02.Sha2Cut'. -/
def sha2CutCard : Claim7 := { stood := { row := sha2CutRow, standIns := [], harness := (true, "5152ee452292b6a9f826e41a12c988c7238d3ba1d8ee638aef1c83452a78b56c"), looks := false }, kinds := [], alts := [], laidByText := true, laidKinds := [.data, .data], laidTests := true, laidLooks := .later }
def Sha2CutCardSaid : Prop := Claim7.holds Tryd.pinned (.plain (OpenSpec.ofChange sha2CutSpec)) sha2CutCard

/-- THE TIED CARD OF 'florinlaw02.Sha2Blocks'. -/
def sha2BlocksCard : Claim7 := { stood := { row := sha2BlocksRow, standIns := [], harness := (true, "5152ee452292b6a9f826e41a12c988c7238d3ba1d8ee638aef1c83452a78b56c"), looks := false }, kinds := [], alts := [], laidByText := true, laidKinds := [.data, .data], laidTests := true, laidLooks := .later }
def Sha2BlocksCardSaid : Prop := Claim7.holds Tryd.pinned (.plain (OpenSpec.ofChange sha2BlocksSpec)) sha2BlocksCard

/-- THE TIED CARD OF 'florinlaw07.HeaderBack'. -/
def headerBackCard : Claim7 := { stood := { row := headerBackRow, standIns := [], harness := (true, "5152ee452292b6a9f826e41a12c988c7238d3ba1d8ee638aef1c83452a78b56c"), looks := false }, kinds := [], alts := [], laidByText := true, laidKinds := [.data, .data], laidTests := true, laidLooks := .later }
def HeaderBackCardSaid : Prop := Claim7.holds Tryd.pinned (.plain (OpenSpec.ofChange headerBackSpec)) headerBackCard

/-- THE TIED CARD OF 'florinlaw07.HeaderOnce'. -/
def headerOnceCard : Claim7 := { stood := { row := headerOnceRow, standIns := [], harness := (true, "5152ee452292b6a9f826e41a12c988c7238d3ba1d8ee638aef1c83452a78b56c"), looks := false }, kinds := [], alts := [], laidByText := true, laidKinds := [.data, .data], laidTests := true, laidLooks := .later }
def HeaderOnceCardSaid : Prop := Claim7.holds Tryd.pinned (.plain (OpenSpec.ofChange headerOnceSpec)) headerOnceCard

/-- THE TIED CARD OF 'florinlaw07.HeaderMines'. -/
def headerMinesCard : Claim7 := { stood := { row := headerMinesRow, standIns := [], harness := (true, "5152ee452292b6a9f826e41a12c988c7238d3ba1d8ee638aef1c83452a78b56c"), looks := false }, kinds := [], alts := [], laidByText := true, laidKinds := [.data, .data], laidTests := true, laidLooks := .later }
def HeaderMinesCardSaid : Prop := Claim7.holds Tryd.pinned (.plain (OpenSpec.ofChange headerMinesSpec)) headerMinesCard

/-- THE TIED CARD OF 'florinlaw07.HeaderChain'. -/
def headerChainCard : Claim7 := { stood := { row := headerChainRow, standIns := [], harness := (true, "5152ee452292b6a9f826e41a12c988c7238d3ba1d8ee638aef1c83452a78b56c"), looks := false }, kinds := [], alts := [], laidByText := true, laidKinds := [.data, .data], laidTests := true, laidLooks := .later }
def HeaderChainCardSaid : Prop := Claim7.holds Tryd.pinned (.plain (OpenSpec.ofChange headerChainSpec)) headerChainCard

/-- THE TIED CARD OF 'florinlaw07.HeaderBytes'. -/
def headerBytesCard : Claim7 := { stood := { row := headerBytesRow, standIns := [], harness := (true, "5152ee452292b6a9f826e41a12c988c7238d3ba1d8ee638aef1c83452a78b56c"), looks := false }, kinds := [], alts := [], laidByText := true, laidKinds := [.data, .data], laidTests := true, laidLooks := .later }
def HeaderBytesCardSaid : Prop := Claim7.holds Tryd.pinned (.plain (OpenSpec.ofChange headerBytesSpec)) headerBytesCard

/-- THE SECOND FORM's CARD OF 'florinlaw02.Sha2Roots'. -/
def sha2RootsUptoCard : Claim7 := { stood := { row := sha2RootsUptoRow, standIns := [], harness := (true, "5152ee452292b6a9f826e41a12c988c7238d3ba1d8ee638aef1c83452a78b56c"), looks := false }, kinds := [], alts := [], laidByText := true, laidKinds := [.data, .data], laidTests := true, laidLooks := .later }
def Sha2RootsUptoCardSaid : Prop := Claim7.holds Tryd.pinned (.plain (OpenSpec.upto sha2RootsSpec)) sha2RootsUptoCard

/-- THE SECOND FORM's CARD OF 'florinlaw02.Sha2Cut'. -/
def sha2CutUptoCard : Claim7 := { stood := { row := sha2CutUptoRow, standIns := [], harness := (true, "5152ee452292b6a9f826e41a12c988c7238d3ba1d8ee638aef1c83452a78b56c"), looks := false }, kinds := [], alts := [], laidByText := true, laidKinds := [.data, .data], laidTests := true, laidLooks := .later }
def Sha2CutUptoCardSaid : Prop := Claim7.holds Tryd.pinned (.plain (OpenSpec.upto sha2CutSpec)) sha2CutUptoCard

/-- THE SECOND FORM's CARD OF 'florinlaw02.Sha2Blocks'. -/
def sha2BlocksUptoCard : Claim7 := { stood := { row := sha2BlocksUptoRow, standIns := [], harness := (true, "5152ee452292b6a9f826e41a12c988c7238d3ba1d8ee638aef1c83452a78b56c"), looks := false }, kinds := [], alts := [], laidByText := true, laidKinds := [.data, .data], laidTests := true, laidLooks := .later }
def Sha2BlocksUptoCardSaid : Prop := Claim7.holds Tryd.pinned (.plain (OpenSpec.upto sha2BlocksSpec)) sha2BlocksUptoCard

/-- THE SECOND FORM's CARD OF 'florinlaw07.HeaderBack'. -/
def headerBackUptoCard : Claim7 := { stood := { row := headerBackUptoRow, standIns := [], harness := (true, "5152ee452292b6a9f826e41a12c988c7238d3ba1d8ee638aef1c83452a78b56c"), looks := false }, kinds := [], alts := [], laidByText := true, laidKinds := [.data, .data], laidTests := true, laidLooks := .later }
def HeaderBackUptoCardSaid : Prop := Claim7.holds Tryd.pinned (.plain (OpenSpec.upto headerBackSpec)) headerBackUptoCard

/-- THE SECOND FORM's CARD OF 'florinlaw07.HeaderOnce'. -/
def headerOnceUptoCard : Claim7 := { stood := { row := headerOnceUptoRow, standIns := [], harness := (true, "5152ee452292b6a9f826e41a12c988c7238d3ba1d8ee638aef1c83452a78b56c"), looks := false }, kinds := [], alts := [], laidByText := true, laidKinds := [.data, .data], laidTests := true, laidLooks := .later }
def HeaderOnceUptoCardSaid : Prop := Claim7.holds Tryd.pinned (.plain (OpenSpec.upto headerOnceSpec)) headerOnceUptoCard

/-- THE SECOND FORM's CARD OF 'florinlaw07.HeaderMines'. -/
def headerMinesUptoCard : Claim7 := { stood := { row := headerMinesUptoRow, standIns := [], harness := (true, "5152ee452292b6a9f826e41a12c988c7238d3ba1d8ee638aef1c83452a78b56c"), looks := false }, kinds := [], alts := [], laidByText := true, laidKinds := [.data, .data], laidTests := true, laidLooks := .later }
def HeaderMinesUptoCardSaid : Prop := Claim7.holds Tryd.pinned (.plain (OpenSpec.upto headerMinesSpec)) headerMinesUptoCard

/-- THE SECOND FORM's CARD OF 'florinlaw07.HeaderChain'. -/
def headerChainUptoCard : Claim7 := { stood := { row := headerChainUptoRow, standIns := [], harness := (true, "5152ee452292b6a9f826e41a12c988c7238d3ba1d8ee638aef1c83452a78b56c"), looks := false }, kinds := [], alts := [], laidByText := true, laidKinds := [.data, .data], laidTests := true, laidLooks := .later }
def HeaderChainUptoCardSaid : Prop := Claim7.holds Tryd.pinned (.plain (OpenSpec.upto headerChainSpec)) headerChainUptoCard

/-- THE SECOND FORM's CARD OF 'florinlaw07.HeaderBytes'. -/
def headerBytesUptoCard : Claim7 := { stood := { row := headerBytesUptoRow, standIns := [], harness := (true, "5152ee452292b6a9f826e41a12c988c7238d3ba1d8ee638aef1c83452a78b56c"), looks := false }, kinds := [], alts := [], laidByText := true, laidKinds := [.data, .data], laidTests := true, laidLooks := .later }
def HeaderBytesUptoCardSaid : Prop := Claim7.holds Tryd.pinned (.plain (OpenSpec.upto headerBytesSpec)) headerBytesUptoCard
end Rows
end Go.Proofs.YtcaclbblldnnnaaDoor
