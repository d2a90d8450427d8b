/-
  DERIVED. GIVEN WITH THE SEED: THE CARDS: each row of YtpjleeeligahaaaGreatDoorRows.lean that lists a variable, with what it lists TIED to the program's text (the seventh form; the later family's looks); each row that meets fmt, with fmt's text TOLD by the authors' own Lean function (tested against real Go, not proved from fmt's source: count such statements apart). THE CARD IS WHAT COUNTS. Prove the row's statement (the work); the ties are given (YtpjleeeligahaaaGreatDoorTie.lean); close each card by the builder's one call (the guide's Derived/Test/ToyasCard.lean, 'card_holds'). Laid BY PROGRAM, IN A SANDBOX (cutbox-door.mjs). By AI agents, Wed Nov 11 2026. No macro, syntax, notation, axiom, sorry.
-/
import Derived.Test.YtpjleeeligahaaaGreatDoorRows
import GoSem.ClaimSeven
namespace Go.Proofs.YtpjleeeligahaaaGreatDoor
namespace Rows

/-- THE TIED CARD OF 'spinneylaw07.RollLines'. -/
def rollLinesCard : Claim7 := { stood := { row := rollLinesRow, standIns := [], harness := (true, "6ef2add81abbe084e7c7f3887e64d2dae75b3af3030fbfa69db7f9b8695e9a99"), looks := true }, kinds := [], alts := [], laidByText := true, laidKinds := [.handle, .sentinel], laidTests := true, laidLooks := .later }
def RollLinesCardSaid : Prop := Claim7.holds Tryz.pinned (.plain (OpenSpec.ofChange rollLinesSpec)) rollLinesCard

/-- THE TIED CARD OF 'spinneylaw08.LetterKinds'. -/
def letterKindsCard : Claim7 := { stood := { row := letterKindsRow, standIns := [], harness := (true, "6ef2add81abbe084e7c7f3887e64d2dae75b3af3030fbfa69db7f9b8695e9a99"), looks := true }, kinds := [], alts := [], laidByText := true, laidKinds := [.handle, .data], laidTests := true, laidLooks := .later }
def LetterKindsCardSaid : Prop := Claim7.holds Tryz.pinned (.plain (OpenSpec.ofChange letterKindsSpec)) letterKindsCard

/-- THE TIED CARD OF 'spinneylaw08.LetterTurned'. -/
def letterTurnedCard : Claim7 := { stood := { row := letterTurnedRow, standIns := [], harness := (true, "6ef2add81abbe084e7c7f3887e64d2dae75b3af3030fbfa69db7f9b8695e9a99"), looks := true }, kinds := [], alts := [], laidByText := true, laidKinds := [.handle, .data, .sentinel], laidTests := true, laidLooks := .later }
def LetterTurnedCardSaid : Prop := Claim7.holds Tryz.pinned (.plain (OpenSpec.ofChange letterTurnedSpec)) letterTurnedCard

/-- THE SECOND FORM's CARD OF 'spinneylaw07.RollLines'. -/
def rollLinesUptoCard : Claim7 := { stood := { row := rollLinesUptoRow, standIns := [], harness := (true, "6ef2add81abbe084e7c7f3887e64d2dae75b3af3030fbfa69db7f9b8695e9a99"), looks := true }, kinds := [], alts := [], laidByText := true, laidKinds := [.handle, .sentinel], laidTests := true, laidLooks := .later }
def RollLinesUptoCardSaid : Prop := Claim7.holds Tryz.pinned (.plain (OpenSpec.upto rollLinesSpec)) rollLinesUptoCard

/-- THE SECOND FORM's CARD OF 'spinneylaw08.LetterKinds'. -/
def letterKindsUptoCard : Claim7 := { stood := { row := letterKindsUptoRow, standIns := [], harness := (true, "6ef2add81abbe084e7c7f3887e64d2dae75b3af3030fbfa69db7f9b8695e9a99"), looks := true }, kinds := [], alts := [], laidByText := true, laidKinds := [.handle, .data], laidTests := true, laidLooks := .later }
def LetterKindsUptoCardSaid : Prop := Claim7.holds Tryz.pinned (.plain (OpenSpec.upto letterKindsSpec)) letterKindsUptoCard

/-- THE SECOND FORM's CARD OF 'spinneylaw08.LetterTurned'. -/
def letterTurnedUptoCard : Claim7 := { stood := { row := letterTurnedUptoRow, standIns := [], harness := (true, "6ef2add81abbe084e7c7f3887e64d2dae75b3af3030fbfa69db7f9b8695e9a99"), looks := true }, kinds := [], alts := [], laidByText := true, laidKinds := [.handle, .data, .sentinel], laidTests := true, laidLooks := .later }
def LetterTurnedUptoCardSaid : Prop := Claim7.holds Tryz.pinned (.plain (OpenSpec.upto letterTurnedSpec)) letterTurnedUptoCard
end Rows
end Go.Proofs.YtpjleeeligahaaaGreatDoor
