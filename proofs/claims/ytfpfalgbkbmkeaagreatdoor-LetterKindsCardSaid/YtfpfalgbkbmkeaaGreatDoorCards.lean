/-
  DERIVED. GIVEN WITH THE SEED: THE CARDS: each row of YtfpfalgbkbmkeaaGreatDoorRows.lean that lists a variable, with what it lists TIED to the program's text (the seventh form; the later family's looks); each row that meets fmt, with fmt's text TOLD by the authors' own Lean function (tested against real Go, not proved from fmt's source: count such statements apart). THE CARD IS WHAT COUNTS. Prove the row's statement (the work); the ties are given (YtfpfalgbkbmkeaaGreatDoorTie.lean); close each card by the builder's one call (the guide's Derived/Test/ToyasCard.lean, 'card_holds'). Laid BY PROGRAM, IN A SANDBOX (cutbox-door.mjs). By AI agents, Wed Nov 11 2026. No macro, syntax, notation, axiom, sorry.
-/
import Derived.Test.YtfpfalgbkbmkeaaGreatDoorRows
import GoSem.ClaimSeven
namespace Go.Proofs.YtfpfalgbkbmkeaaGreatDoor
namespace Rows

/-- THE TIED CARD OF 'spinneylaw08.LetterWrites'. -/
def letterWritesCard : Claim7 := { stood := { row := letterWritesRow, standIns := [], harness := (true, "d480fb3a811ad9fd5c6bd915dd9183dbc13300829bccf1afaa064da511f0bbf3"), looks := true }, kinds := [], alts := [], laidByText := true, laidKinds := [.handle, .data, .sentinel], laidTests := true, laidLooks := .later }
def LetterWritesCardSaid : Prop := Claim7.holds Tryz.pinned (.plain (OpenSpec.ofChange letterWritesSpec)) letterWritesCard

/-- THE TIED CARD OF 'spinneylaw08.LetterReads'. -/
def letterReadsCard : Claim7 := { stood := { row := letterReadsRow, standIns := [], harness := (true, "d480fb3a811ad9fd5c6bd915dd9183dbc13300829bccf1afaa064da511f0bbf3"), looks := true }, kinds := [], alts := [], laidByText := true, laidKinds := [.handle, .data, .sentinel], laidTests := true, laidLooks := .later }
def LetterReadsCardSaid : Prop := Claim7.holds Tryz.pinned (.plain (OpenSpec.ofChange letterReadsSpec)) letterReadsCard

/-- THE TIED CARD OF 'spinneylaw08.LetterTurned'. -/
def letterTurnedCard : Claim7 := { stood := { row := letterTurnedRow, standIns := [], harness := (true, "d480fb3a811ad9fd5c6bd915dd9183dbc13300829bccf1afaa064da511f0bbf3"), looks := true }, kinds := [], alts := [], laidByText := true, laidKinds := [.handle, .data, .sentinel], laidTests := true, laidLooks := .later }
def LetterTurnedCardSaid : Prop := Claim7.holds Tryz.pinned (.plain (OpenSpec.ofChange letterTurnedSpec)) letterTurnedCard

/-- THE TIED CARD OF 'spinneylaw08.LetterKinds'. -/
def letterKindsCard : Claim7 := { stood := { row := letterKindsRow, standIns := [], harness := (true, "d480fb3a811ad9fd5c6bd915dd9183dbc13300829bccf1afaa064da511f0bbf3"), looks := true }, kinds := [], alts := [], laidByText := true, laidKinds := [.handle, .data], laidTests := true, laidLooks := .later }
def LetterKindsCardSaid : Prop := Claim7.holds Tryz.pinned (.plain (OpenSpec.ofChange letterKindsSpec)) letterKindsCard

/-- THE SECOND FORM's CARD OF 'spinneylaw08.LetterWrites'. -/
def letterWritesUptoCard : Claim7 := { stood := { row := letterWritesUptoRow, standIns := [], harness := (true, "d480fb3a811ad9fd5c6bd915dd9183dbc13300829bccf1afaa064da511f0bbf3"), looks := true }, kinds := [], alts := [], laidByText := true, laidKinds := [.handle, .data, .sentinel], laidTests := true, laidLooks := .later }
def LetterWritesUptoCardSaid : Prop := Claim7.holds Tryz.pinned (.plain (OpenSpec.upto letterWritesSpec)) letterWritesUptoCard

/-- THE SECOND FORM's CARD OF 'spinneylaw08.LetterReads'. -/
def letterReadsUptoCard : Claim7 := { stood := { row := letterReadsUptoRow, standIns := [], harness := (true, "d480fb3a811ad9fd5c6bd915dd9183dbc13300829bccf1afaa064da511f0bbf3"), looks := true }, kinds := [], alts := [], laidByText := true, laidKinds := [.handle, .data, .sentinel], laidTests := true, laidLooks := .later }
def LetterReadsUptoCardSaid : Prop := Claim7.holds Tryz.pinned (.plain (OpenSpec.upto letterReadsSpec)) letterReadsUptoCard

/-- THE SECOND FORM's CARD OF 'spinneylaw08.LetterTurned'. -/
def letterTurnedUptoCard : Claim7 := { stood := { row := letterTurnedUptoRow, standIns := [], harness := (true, "d480fb3a811ad9fd5c6bd915dd9183dbc13300829bccf1afaa064da511f0bbf3"), looks := true }, kinds := [], alts := [], laidByText := true, laidKinds := [.handle, .data, .sentinel], laidTests := true, laidLooks := .later }
def LetterTurnedUptoCardSaid : Prop := Claim7.holds Tryz.pinned (.plain (OpenSpec.upto letterTurnedSpec)) letterTurnedUptoCard

/-- THE SECOND FORM's CARD OF 'spinneylaw08.LetterKinds'. -/
def letterKindsUptoCard : Claim7 := { stood := { row := letterKindsUptoRow, standIns := [], harness := (true, "d480fb3a811ad9fd5c6bd915dd9183dbc13300829bccf1afaa064da511f0bbf3"), looks := true }, kinds := [], alts := [], laidByText := true, laidKinds := [.handle, .data], laidTests := true, laidLooks := .later }
def LetterKindsUptoCardSaid : Prop := Claim7.holds Tryz.pinned (.plain (OpenSpec.upto letterKindsSpec)) letterKindsUptoCard
end Rows
end Go.Proofs.YtfpfalgbkbmkeaaGreatDoor
