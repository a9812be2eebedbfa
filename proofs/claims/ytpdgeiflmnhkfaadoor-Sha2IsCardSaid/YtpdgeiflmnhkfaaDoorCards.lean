/-
  DERIVED. GIVEN WITH THE SEED: THE CARDS: each row of YtpdgeiflmnhkfaaDoorRows.lean that lists a variable, with what it lists TIED to the program's text (the seventh form; the later family's looks); each row that meets fmt, with fmt's text TOLD by the authors' own Lean function (tested against real Go, not proved from fmt's source: count such statements apart). THE CARD IS WHAT COUNTS. Prove the row's statement (the work); the ties are given (YtpdgeiflmnhkfaaDoorTie.lean); close each card by the builder's one call (the guide's Derived/Test/ToyasCard.lean, 'card_holds'). Laid BY PROGRAM, IN A SANDBOX (cutbox-door.mjs). By AI agents, Wed Nov 11 2026. No macro, syntax, notation, axiom, sorry.
-/
import Derived.Test.YtpdgeiflmnhkfaaDoorRows
import GoSem.ClaimSeven
namespace Go.Proofs.YtpdgeiflmnhkfaaDoor
namespace Rows

/-- THE TIED CARD OF 'florinlaw02.Sha2Is'. -/
def sha2IsCard : Claim7 := { stood := { row := sha2IsRow, standIns := [], harness := (true, "88caba9fe4921e7a760741548135b70281097f10851700b1cfc800daaea6c867"), looks := false }, kinds := [], alts := [], laidByText := true, laidKinds := [.data, .data], laidTests := true, laidLooks := .later }
def Sha2IsCardSaid : Prop := Claim7.holds Tryd.pinned (.plain (OpenSpec.ofChange sha2IsSpec)) sha2IsCard

/-- THE TIED CARD OF 'florinlaw02.Sha2Roots'. -/
def sha2RootsCard : Claim7 := { stood := { row := sha2RootsRow, standIns := [], harness := (true, "88caba9fe4921e7a760741548135b70281097f10851700b1cfc800daaea6c867"), looks := false }, kinds := [], alts := [], laidByText := true, laidKinds := [.data, .data], laidTests := true, laidLooks := .later }
def Sha2RootsCardSaid : Prop := Claim7.holds Tryd.pinned (.plain (OpenSpec.ofChange sha2RootsSpec)) sha2RootsCard

/-- THE TIED CARD OF 'florinlaw03.HashIs'. -/
def hashIsCard : Claim7 := { stood := { row := hashIsRow, standIns := [], harness := (true, "88caba9fe4921e7a760741548135b70281097f10851700b1cfc800daaea6c867"), looks := false }, kinds := [], alts := [], laidByText := true, laidKinds := [.data, .data], laidTests := true, laidLooks := .later }
def HashIsCardSaid : Prop := Claim7.holds Tryd.pinned (.plain (OpenSpec.ofChange hashIsSpec)) hashIsCard

/-- THE TIED CARD OF 'florinlaw07.HeaderIs'. -/
def headerIsCard : Claim7 := { stood := { row := headerIsRow, standIns := [], harness := (true, "88caba9fe4921e7a760741548135b70281097f10851700b1cfc800daaea6c867"), looks := false }, kinds := [], alts := [], laidByText := true, laidKinds := [.data, .data], laidTests := true, laidLooks := .later }
def HeaderIsCardSaid : Prop := Claim7.holds Tryd.pinned (.plain (OpenSpec.ofChange headerIsSpec)) headerIsCard

/-- THE TIED CARD OF 'florinlaw07.HeaderBytes'. -/
def headerBytesCard : Claim7 := { stood := { row := headerBytesRow, standIns := [], harness := (true, "88caba9fe4921e7a760741548135b70281097f10851700b1cfc800daaea6c867"), looks := false }, kinds := [], alts := [], laidByText := true, laidKinds := [.data, .data], laidTests := true, laidLooks := .later }
def HeaderBytesCardSaid : Prop := Claim7.holds Tryd.pinned (.plain (OpenSpec.ofChange headerBytesSpec)) headerBytesCard

/-- THE TIED CARD OF 'florinlaw10.MerkleIs'. -/
def merkleIsCard : Claim7 := { stood := { row := merkleIsRow, standIns := [], harness := (true, "88caba9fe4921e7a760741548135b70281097f10851700b1cfc800daaea6c867"), looks := false }, kinds := [], alts := [], laidByText := true, laidKinds := [.data, .data], laidTests := true, laidLooks := .later }
def MerkleIsCardSaid : Prop := Claim7.holds Tryd.pinned (.plain (OpenSpec.ofChange merkleIsSpec)) merkleIsCard

/-- THE TIED CARD OF 'florinlaw10.MerkleClimbs'. -/
def merkleClimbsCard : Claim7 := { stood := { row := merkleClimbsRow, standIns := [], harness := (true, "88caba9fe4921e7a760741548135b70281097f10851700b1cfc800daaea6c867"), looks := false }, kinds := [], alts := [], laidByText := true, laidKinds := [.data, .data], laidTests := true, laidLooks := .later }
def MerkleClimbsCardSaid : Prop := Claim7.holds Tryd.pinned (.plain (OpenSpec.ofChange merkleClimbsSpec)) merkleClimbsCard

/-- THE TIED CARD OF 'florinlaw10.MerkleLevels'. -/
def merkleLevelsCard : Claim7 := { stood := { row := merkleLevelsRow, standIns := [], harness := (true, "88caba9fe4921e7a760741548135b70281097f10851700b1cfc800daaea6c867"), looks := false }, kinds := [], alts := [], laidByText := true, laidKinds := [.data, .data], laidTests := true, laidLooks := .later }
def MerkleLevelsCardSaid : Prop := Claim7.holds Tryd.pinned (.plain (OpenSpec.ofChange merkleLevelsSpec)) merkleLevelsCard

/-- THE TIED CARD OF 'florinlaw10.MerkleDoubled'. -/
def merkleDoubledCard : Claim7 := { stood := { row := merkleDoubledRow, standIns := [], harness := (true, "88caba9fe4921e7a760741548135b70281097f10851700b1cfc800daaea6c867"), looks := false }, kinds := [], alts := [], laidByText := true, laidKinds := [.data, .data], laidTests := true, laidLooks := .later }
def MerkleDoubledCardSaid : Prop := Claim7.holds Tryd.pinned (.plain (OpenSpec.ofChange merkleDoubledSpec)) merkleDoubledCard

/-- THE TIED CARD OF 'florinlaw10.MerkleHalves'. -/
def merkleHalvesCard : Claim7 := { stood := { row := merkleHalvesRow, standIns := [], harness := (true, "88caba9fe4921e7a760741548135b70281097f10851700b1cfc800daaea6c867"), looks := false }, kinds := [], alts := [], laidByText := true, laidKinds := [.data, .data], laidTests := true, laidLooks := .later }
def MerkleHalvesCardSaid : Prop := Claim7.holds Tryd.pinned (.plain (OpenSpec.ofChange merkleHalvesSpec)) merkleHalvesCard

/-- THE TIED CARD OF 'florinlaw10.MerkleAlike'. -/
def merkleAlikeCard : Claim7 := { stood := { row := merkleAlikeRow, standIns := [], harness := (true, "88caba9fe4921e7a760741548135b70281097f10851700b1cfc800daaea6c867"), looks := false }, kinds := [], alts := [], laidByText := true, laidKinds := [.data, .data], laidTests := true, laidLooks := .later }
def MerkleAlikeCardSaid : Prop := Claim7.holds Tryd.pinned (.plain (OpenSpec.ofChange merkleAlikeSpec)) merkleAlikeCard

/-- THE TIED CARD OF 'florinlaw23.ScriptIs'. -/
def scriptIsCard : Claim7 := { stood := { row := scriptIsRow, standIns := [], harness := (true, "88caba9fe4921e7a760741548135b70281097f10851700b1cfc800daaea6c867"), looks := false }, kinds := [], alts := [], laidByText := true, laidKinds := [.data], laidTests := true, laidLooks := .later }
def ScriptIsCardSaid : Prop := Claim7.holds Tryd.pinned (.plain (OpenSpec.ofChange scriptIsSpec)) scriptIsCard

/-- THE TIED CARD OF 'florinlaw23.ScriptBack'. -/
def scriptBackCard : Claim7 := { stood := { row := scriptBackRow, standIns := [], harness := (true, "88caba9fe4921e7a760741548135b70281097f10851700b1cfc800daaea6c867"), looks := false }, kinds := [], alts := [], laidByText := true, laidKinds := [.data], laidTests := true, laidLooks := .later }
def ScriptBackCardSaid : Prop := Claim7.holds Tryd.pinned (.plain (OpenSpec.ofChange scriptBackSpec)) scriptBackCard

/-- THE TIED CARD OF 'florinlaw23.ScriptGood'. -/
def scriptGoodCard : Claim7 := { stood := { row := scriptGoodRow, standIns := [], harness := (true, "88caba9fe4921e7a760741548135b70281097f10851700b1cfc800daaea6c867"), looks := false }, kinds := [], alts := [], laidByText := true, laidKinds := [.data], laidTests := true, laidLooks := .later }
def ScriptGoodCardSaid : Prop := Claim7.holds Tryd.pinned (.plain (OpenSpec.ofChange scriptGoodSpec)) scriptGoodCard

/-- THE TIED CARD OF 'florinlaw23.ScriptRows'. -/
def scriptRowsCard : Claim7 := { stood := { row := scriptRowsRow, standIns := [], harness := (true, "88caba9fe4921e7a760741548135b70281097f10851700b1cfc800daaea6c867"), looks := false }, kinds := [], alts := [], laidByText := true, laidKinds := [.data], laidTests := true, laidLooks := .later }
def ScriptRowsCardSaid : Prop := Claim7.holds Tryd.pinned (.plain (OpenSpec.ofChange scriptRowsSpec)) scriptRowsCard

/-- THE SECOND FORM's CARD OF 'florinlaw02.Sha2Is'. -/
def sha2IsUptoCard : Claim7 := { stood := { row := sha2IsUptoRow, standIns := [], harness := (true, "88caba9fe4921e7a760741548135b70281097f10851700b1cfc800daaea6c867"), looks := false }, kinds := [], alts := [], laidByText := true, laidKinds := [.data, .data], laidTests := true, laidLooks := .later }
def Sha2IsUptoCardSaid : Prop := Claim7.holds Tryd.pinned (.plain (OpenSpec.upto sha2IsSpec)) sha2IsUptoCard

/-- THE SECOND FORM's CARD OF 'florinlaw02.Sha2Roots'. -/
def sha2RootsUptoCard : Claim7 := { stood := { row := sha2RootsUptoRow, standIns := [], harness := (true, "88caba9fe4921e7a760741548135b70281097f10851700b1cfc800daaea6c867"), looks := false }, kinds := [], alts := [], laidByText := true, laidKinds := [.data, .data], laidTests := true, laidLooks := .later }
def Sha2RootsUptoCardSaid : Prop := Claim7.holds Tryd.pinned (.plain (OpenSpec.upto sha2RootsSpec)) sha2RootsUptoCard

/-- THE SECOND FORM's CARD OF 'florinlaw03.HashIs'. -/
def hashIsUptoCard : Claim7 := { stood := { row := hashIsUptoRow, standIns := [], harness := (true, "88caba9fe4921e7a760741548135b70281097f10851700b1cfc800daaea6c867"), looks := false }, kinds := [], alts := [], laidByText := true, laidKinds := [.data, .data], laidTests := true, laidLooks := .later }
def HashIsUptoCardSaid : Prop := Claim7.holds Tryd.pinned (.plain (OpenSpec.upto hashIsSpec)) hashIsUptoCard

/-- THE SECOND FORM's CARD OF 'florinlaw07.HeaderIs'. -/
def headerIsUptoCard : Claim7 := { stood := { row := headerIsUptoRow, standIns := [], harness := (true, "88caba9fe4921e7a760741548135b70281097f10851700b1cfc800daaea6c867"), looks := false }, kinds := [], alts := [], laidByText := true, laidKinds := [.data, .data], laidTests := true, laidLooks := .later }
def HeaderIsUptoCardSaid : Prop := Claim7.holds Tryd.pinned (.plain (OpenSpec.upto headerIsSpec)) headerIsUptoCard

/-- THE SECOND FORM's CARD OF 'florinlaw07.HeaderBytes'. -/
def headerBytesUptoCard : Claim7 := { stood := { row := headerBytesUptoRow, standIns := [], harness := (true, "88caba9fe4921e7a760741548135b70281097f10851700b1cfc800daaea6c867"), looks := false }, kinds := [], alts := [], laidByText := true, laidKinds := [.data, .data], laidTests := true, laidLooks := .later }
def HeaderBytesUptoCardSaid : Prop := Claim7.holds Tryd.pinned (.plain (OpenSpec.upto headerBytesSpec)) headerBytesUptoCard

/-- THE SECOND FORM's CARD OF 'florinlaw10.MerkleIs'. -/
def merkleIsUptoCard : Claim7 := { stood := { row := merkleIsUptoRow, standIns := [], harness := (true, "88caba9fe4921e7a760741548135b70281097f10851700b1cfc800daaea6c867"), looks := false }, kinds := [], alts := [], laidByText := true, laidKinds := [.data, .data], laidTests := true, laidLooks := .later }
def MerkleIsUptoCardSaid : Prop := Claim7.holds Tryd.pinned (.plain (OpenSpec.upto merkleIsSpec)) merkleIsUptoCard

/-- THE SECOND FORM's CARD OF 'florinlaw10.MerkleClimbs'. -/
def merkleClimbsUptoCard : Claim7 := { stood := { row := merkleClimbsUptoRow, standIns := [], harness := (true, "88caba9fe4921e7a760741548135b70281097f10851700b1cfc800daaea6c867"), looks := false }, kinds := [], alts := [], laidByText := true, laidKinds := [.data, .data], laidTests := true, laidLooks := .later }
def MerkleClimbsUptoCardSaid : Prop := Claim7.holds Tryd.pinned (.plain (OpenSpec.upto merkleClimbsSpec)) merkleClimbsUptoCard

/-- THE SECOND FORM's CARD OF 'florinlaw10.MerkleLevels'. -/
def merkleLevelsUptoCard : Claim7 := { stood := { row := merkleLevelsUptoRow, standIns := [], harness := (true, "88caba9fe4921e7a760741548135b70281097f10851700b1cfc800daaea6c867"), looks := false }, kinds := [], alts := [], laidByText := true, laidKinds := [.data, .data], laidTests := true, laidLooks := .later }
def MerkleLevelsUptoCardSaid : Prop := Claim7.holds Tryd.pinned (.plain (OpenSpec.upto merkleLevelsSpec)) merkleLevelsUptoCard

/-- THE SECOND FORM's CARD OF 'florinlaw10.MerkleDoubled'. -/
def merkleDoubledUptoCard : Claim7 := { stood := { row := merkleDoubledUptoRow, standIns := [], harness := (true, "88caba9fe4921e7a760741548135b70281097f10851700b1cfc800daaea6c867"), looks := false }, kinds := [], alts := [], laidByText := true, laidKinds := [.data, .data], laidTests := true, laidLooks := .later }
def MerkleDoubledUptoCardSaid : Prop := Claim7.holds Tryd.pinned (.plain (OpenSpec.upto merkleDoubledSpec)) merkleDoubledUptoCard

/-- THE SECOND FORM's CARD OF 'florinlaw10.MerkleHalves'. -/
def merkleHalvesUptoCard : Claim7 := { stood := { row := merkleHalvesUptoRow, standIns := [], harness := (true, "88caba9fe4921e7a760741548135b70281097f10851700b1cfc800daaea6c867"), looks := false }, kinds := [], alts := [], laidByText := true, laidKinds := [.data, .data], laidTests := true, laidLooks := .later }
def MerkleHalvesUptoCardSaid : Prop := Claim7.holds Tryd.pinned (.plain (OpenSpec.upto merkleHalvesSpec)) merkleHalvesUptoCard

/-- THE SECOND FORM's CARD OF 'florinlaw10.MerkleAlike'. -/
def merkleAlikeUptoCard : Claim7 := { stood := { row := merkleAlikeUptoRow, standIns := [], harness := (true, "88caba9fe4921e7a760741548135b70281097f10851700b1cfc800daaea6c867"), looks := false }, kinds := [], alts := [], laidByText := true, laidKinds := [.data, .data], laidTests := true, laidLooks := .later }
def MerkleAlikeUptoCardSaid : Prop := Claim7.holds Tryd.pinned (.plain (OpenSpec.upto merkleAlikeSpec)) merkleAlikeUptoCard

/-- THE SECOND FORM's CARD OF 'florinlaw23.ScriptIs'. -/
def scriptIsUptoCard : Claim7 := { stood := { row := scriptIsUptoRow, standIns := [], harness := (true, "88caba9fe4921e7a760741548135b70281097f10851700b1cfc800daaea6c867"), looks := false }, kinds := [], alts := [], laidByText := true, laidKinds := [.data], laidTests := true, laidLooks := .later }
def ScriptIsUptoCardSaid : Prop := Claim7.holds Tryd.pinned (.plain (OpenSpec.upto scriptIsSpec)) scriptIsUptoCard

/-- THE SECOND FORM's CARD OF 'florinlaw23.ScriptBack'. -/
def scriptBackUptoCard : Claim7 := { stood := { row := scriptBackUptoRow, standIns := [], harness := (true, "88caba9fe4921e7a760741548135b70281097f10851700b1cfc800daaea6c867"), looks := false }, kinds := [], alts := [], laidByText := true, laidKinds := [.data], laidTests := true, laidLooks := .later }
def ScriptBackUptoCardSaid : Prop := Claim7.holds Tryd.pinned (.plain (OpenSpec.upto scriptBackSpec)) scriptBackUptoCard

/-- THE SECOND FORM's CARD OF 'florinlaw23.ScriptGood'. -/
def scriptGoodUptoCard : Claim7 := { stood := { row := scriptGoodUptoRow, standIns := [], harness := (true, "88caba9fe4921e7a760741548135b70281097f10851700b1cfc800daaea6c867"), looks := false }, kinds := [], alts := [], laidByText := true, laidKinds := [.data], laidTests := true, laidLooks := .later }
def ScriptGoodUptoCardSaid : Prop := Claim7.holds Tryd.pinned (.plain (OpenSpec.upto scriptGoodSpec)) scriptGoodUptoCard

/-- THE SECOND FORM's CARD OF 'florinlaw23.ScriptRows'. -/
def scriptRowsUptoCard : Claim7 := { stood := { row := scriptRowsUptoRow, standIns := [], harness := (true, "88caba9fe4921e7a760741548135b70281097f10851700b1cfc800daaea6c867"), looks := false }, kinds := [], alts := [], laidByText := true, laidKinds := [.data], laidTests := true, laidLooks := .later }
def ScriptRowsUptoCardSaid : Prop := Claim7.holds Tryd.pinned (.plain (OpenSpec.upto scriptRowsSpec)) scriptRowsUptoCard
end Rows
end Go.Proofs.YtpdgeiflmnhkfaaDoor
