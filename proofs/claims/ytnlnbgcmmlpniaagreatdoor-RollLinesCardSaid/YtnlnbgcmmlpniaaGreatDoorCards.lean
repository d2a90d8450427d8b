/-
  DERIVED. GIVEN WITH THE SEED: THE CARDS: each row of YtnlnbgcmmlpniaaGreatDoorRows.lean that lists a variable, with what it lists TIED to the program's text (the seventh form; the later family's looks); each row that meets fmt, with fmt's text TOLD by the authors' own Lean function (tested against real Go, not proved from fmt's source: count such statements apart). THE CARD IS WHAT COUNTS. Prove the row's statement (the work); the ties are given (YtnlnbgcmmlpniaaGreatDoorTie.lean); close each card by the builder's one call (the guide's Derived/Test/ToyasCard.lean, 'card_holds'). Laid BY PROGRAM, IN A SANDBOX (cutbox-door.mjs). By AI agents, Wed Nov 11 2026. No macro, syntax, notation, axiom, sorry.
-/
import Derived.Test.YtnlnbgcmmlpniaaGreatDoorRows
import GoSem.ClaimSeven
namespace Go.Proofs.YtnlnbgcmmlpniaaGreatDoor
namespace Rows

/-- THE TIED CARD OF 'spinneylaw07.RollReach'. -/
def rollReachCard : Claim7 := { stood := { row := rollReachRow, standIns := [], harness := (true, "d09ae28ada1e694395a32a985153de8400c4d5d72dc0d900bd01cc3c29acb389"), looks := true }, kinds := [], alts := [], laidByText := true, laidKinds := [.handle, .sentinel], laidTests := true, laidLooks := .later }
def RollReachCardSaid : Prop := Claim7.holds Tryz.pinned (.plain (OpenSpec.ofChange rollReachSpec)) rollReachCard

/-- THE TIED CARD OF 'spinneylaw07.RollLines'. -/
def rollLinesCard : Claim7 := { stood := { row := rollLinesRow, standIns := [], harness := (true, "d09ae28ada1e694395a32a985153de8400c4d5d72dc0d900bd01cc3c29acb389"), looks := true }, kinds := [], alts := [], laidByText := true, laidKinds := [.handle, .sentinel], laidTests := true, laidLooks := .later }
def RollLinesCardSaid : Prop := Claim7.holds Tryz.pinned (.plain (OpenSpec.ofChange rollLinesSpec)) rollLinesCard

/-- THE TIED CARD OF 'spinneylaw07.RollTakes'. -/
def rollTakesCard : Claim7 := { stood := { row := rollTakesRow, standIns := [], harness := (true, "d09ae28ada1e694395a32a985153de8400c4d5d72dc0d900bd01cc3c29acb389"), looks := true }, kinds := [], alts := [], laidByText := true, laidKinds := [.sentinel], laidTests := true, laidLooks := .later }
def RollTakesCardSaid : Prop := Claim7.holds Tryz.pinned (.plain (OpenSpec.ofChange rollTakesSpec)) rollTakesCard

/-- THE SECOND FORM's CARD OF 'spinneylaw07.RollReach'. -/
def rollReachUptoCard : Claim7 := { stood := { row := rollReachUptoRow, standIns := [], harness := (true, "d09ae28ada1e694395a32a985153de8400c4d5d72dc0d900bd01cc3c29acb389"), looks := true }, kinds := [], alts := [], laidByText := true, laidKinds := [.handle, .sentinel], laidTests := true, laidLooks := .later }
def RollReachUptoCardSaid : Prop := Claim7.holds Tryz.pinned (.plain (OpenSpec.upto rollReachSpec)) rollReachUptoCard

/-- THE SECOND FORM's CARD OF 'spinneylaw07.RollLines'. -/
def rollLinesUptoCard : Claim7 := { stood := { row := rollLinesUptoRow, standIns := [], harness := (true, "d09ae28ada1e694395a32a985153de8400c4d5d72dc0d900bd01cc3c29acb389"), looks := true }, kinds := [], alts := [], laidByText := true, laidKinds := [.handle, .sentinel], laidTests := true, laidLooks := .later }
def RollLinesUptoCardSaid : Prop := Claim7.holds Tryz.pinned (.plain (OpenSpec.upto rollLinesSpec)) rollLinesUptoCard

/-- THE SECOND FORM's CARD OF 'spinneylaw07.RollTakes'. -/
def rollTakesUptoCard : Claim7 := { stood := { row := rollTakesUptoRow, standIns := [], harness := (true, "d09ae28ada1e694395a32a985153de8400c4d5d72dc0d900bd01cc3c29acb389"), looks := true }, kinds := [], alts := [], laidByText := true, laidKinds := [.sentinel], laidTests := true, laidLooks := .later }
def RollTakesUptoCardSaid : Prop := Claim7.holds Tryz.pinned (.plain (OpenSpec.upto rollTakesSpec)) rollTakesUptoCard
end Rows
end Go.Proofs.YtnlnbgcmmlpniaaGreatDoor
