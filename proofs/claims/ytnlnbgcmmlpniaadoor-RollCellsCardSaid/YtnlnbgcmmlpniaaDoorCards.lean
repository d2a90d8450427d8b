/-
  DERIVED. GIVEN WITH THE SEED: THE CARDS: each row of YtnlnbgcmmlpniaaDoorRows.lean that lists a variable, with what it lists TIED to the program's text (the seventh form; the later family's looks); each row that meets fmt, with fmt's text TOLD by the authors' own Lean function (tested against real Go, not proved from fmt's source: count such statements apart). THE CARD IS WHAT COUNTS. Prove the row's statement (the work); the ties are given (YtnlnbgcmmlpniaaDoorTie.lean); close each card by the builder's one call (the guide's Derived/Test/ToyasCard.lean, 'card_holds'). Laid BY PROGRAM, IN A SANDBOX (cutbox-door.mjs). By AI agents, Wed Nov 11 2026. No macro, syntax, notation, axiom, sorry.
-/
import Derived.Test.YtnlnbgcmmlpniaaDoorRows
import GoSem.ClaimSeven
namespace Go.Proofs.YtnlnbgcmmlpniaaDoor
namespace Rows

/-- THE TIED CARD OF 'spinneylaw07.RollCells'. -/
def rollCellsCard : Claim7 := { stood := { row := rollCellsRow, standIns := [], harness := (true, "2571f6bd4453abd18360c07a8770e0ad23ded2d498ed32f978d9d71640bc2370"), looks := true }, kinds := [], alts := [], laidByText := true, laidKinds := [.handle, .sentinel], laidTests := true, laidLooks := .later }
def RollCellsCardSaid : Prop := Claim7.holds Tryd.pinned (.plain (OpenSpec.ofChange rollCellsSpec)) rollCellsCard

/-- THE SECOND FORM's CARD OF 'spinneylaw07.RollCells'. -/
def rollCellsUptoCard : Claim7 := { stood := { row := rollCellsUptoRow, standIns := [], harness := (true, "2571f6bd4453abd18360c07a8770e0ad23ded2d498ed32f978d9d71640bc2370"), looks := true }, kinds := [], alts := [], laidByText := true, laidKinds := [.handle, .sentinel], laidTests := true, laidLooks := .later }
def RollCellsUptoCardSaid : Prop := Claim7.holds Tryd.pinned (.plain (OpenSpec.upto rollCellsSpec)) rollCellsUptoCard
end Rows
end Go.Proofs.YtnlnbgcmmlpniaaDoor
