/-
  DERIVED. GIVEN WITH THE SEED: THE CARDS: each row of YtmilcgikncecnaaDoorRows.lean that lists a variable, with what it lists TIED to the program's text (the seventh form; the later family's looks); each row that meets fmt, with fmt's text TOLD by the authors' own Lean function (tested against real Go, not proved from fmt's source: count such statements apart). THE CARD IS WHAT COUNTS. Prove the row's statement (the work); the ties are given (YtmilcgikncecnaaDoorTie.lean); close each card by the builder's one call (the guide's Derived/Test/ToyasCard.lean, 'card_holds'). Laid BY PROGRAM, IN A SANDBOX (cutbox-door.mjs). By AI agents, Wed Nov 11 2026. No macro, syntax, notation, axiom, sorry.
-/
import Derived.Test.YtmilcgikncecnaaDoorRows
import GoSem.ClaimSeven
namespace Go.Proofs.YtmilcgikncecnaaDoor
namespace Rows

/-- THE TIED CARD OF 'spinneylaw02.DeedKeys'. -/
def deedKeysCard : Claim7 := { stood := { row := deedKeysRow, standIns := [], harness := (true, "fb4e27ecbc22e7f883b3ba63999a544d7a4094553627155be1940c2f9dd76599"), looks := true }, kinds := [], alts := [], laidByText := true, laidKinds := [.data, .data, .data, .data, .sentinel, .sentinel, .pinned], laidTests := true, laidLooks := .later }
def DeedKeysCardSaid : Prop := Claim7.holds Tryd.pinned (.plain (OpenSpec.ofChange deedKeysSpec)) deedKeysCard

/-- THE TIED CARD OF 'spinneylaw02.DeedGood'. -/
def deedGoodCard : Claim7 := { stood := { row := deedGoodRow, standIns := [], harness := (true, "fb4e27ecbc22e7f883b3ba63999a544d7a4094553627155be1940c2f9dd76599"), looks := true }, kinds := [], alts := [], laidByText := true, laidKinds := [.data, .data, .data, .data, .sentinel, .sentinel, .pinned], laidTests := true, laidLooks := .later }
def DeedGoodCardSaid : Prop := Claim7.holds Tryd.pinned (.plain (OpenSpec.ofChange deedGoodSpec)) deedGoodCard

/-- THE TIED CARD OF 'spinneylaw02.DeedDoes'. -/
def deedDoesCard : Claim7 := { stood := { row := deedDoesRow, standIns := [], harness := (true, "fb4e27ecbc22e7f883b3ba63999a544d7a4094553627155be1940c2f9dd76599"), looks := true }, kinds := [], alts := [], laidByText := true, laidKinds := [.data, .data, .data, .data, .sentinel, .sentinel, .pinned], laidTests := true, laidLooks := .later }
def DeedDoesCardSaid : Prop := Claim7.holds Tryd.pinned (.plain (OpenSpec.ofChange deedDoesSpec)) deedDoesCard

/-- THE TIED CARD OF 'spinneylaw02.DeedLines'. -/
def deedLinesCard : Claim7 := { stood := { row := deedLinesRow, standIns := [], harness := (true, "fb4e27ecbc22e7f883b3ba63999a544d7a4094553627155be1940c2f9dd76599"), looks := true }, kinds := [], alts := [], laidByText := true, laidKinds := [.data, .data, .data, .data, .sentinel, .sentinel, .pinned], laidTests := true, laidLooks := .later }
def DeedLinesCardSaid : Prop := Claim7.holds Tryd.pinned (.plain (OpenSpec.ofChange deedLinesSpec)) deedLinesCard

/-- THE TIED CARD OF 'spinneylaw02.DeedReads'. -/
def deedReadsCard : Claim7 := { stood := { row := deedReadsRow, standIns := [], harness := (true, "fb4e27ecbc22e7f883b3ba63999a544d7a4094553627155be1940c2f9dd76599"), looks := true }, kinds := [], alts := [], laidByText := true, laidKinds := [.data, .data, .data, .data, .sentinel, .sentinel, .pinned], laidTests := true, laidLooks := .later }
def DeedReadsCardSaid : Prop := Claim7.holds Tryd.pinned (.plain (OpenSpec.ofChange deedReadsSpec)) deedReadsCard

/-- THE TIED CARD OF 'spinneylaw02.DeedCases'. -/
def deedCasesCard : Claim7 := { stood := { row := deedCasesRow, standIns := [], harness := (true, "fb4e27ecbc22e7f883b3ba63999a544d7a4094553627155be1940c2f9dd76599"), looks := true }, kinds := [], alts := [], laidByText := true, laidKinds := [.data, .data, .data, .data, .sentinel, .sentinel, .pinned], laidTests := true, laidLooks := .later }
def DeedCasesCardSaid : Prop := Claim7.holds Tryd.pinned (.plain (OpenSpec.ofChange deedCasesSpec)) deedCasesCard

/-- THE SECOND FORM's CARD OF 'spinneylaw02.DeedKeys'. -/
def deedKeysUptoCard : Claim7 := { stood := { row := deedKeysUptoRow, standIns := [], harness := (true, "fb4e27ecbc22e7f883b3ba63999a544d7a4094553627155be1940c2f9dd76599"), looks := true }, kinds := [], alts := [], laidByText := true, laidKinds := [.data, .data, .data, .data, .sentinel, .sentinel, .pinned], laidTests := true, laidLooks := .later }
def DeedKeysUptoCardSaid : Prop := Claim7.holds Tryd.pinned (.plain (OpenSpec.upto deedKeysSpec)) deedKeysUptoCard

/-- THE SECOND FORM's CARD OF 'spinneylaw02.DeedGood'. -/
def deedGoodUptoCard : Claim7 := { stood := { row := deedGoodUptoRow, standIns := [], harness := (true, "fb4e27ecbc22e7f883b3ba63999a544d7a4094553627155be1940c2f9dd76599"), looks := true }, kinds := [], alts := [], laidByText := true, laidKinds := [.data, .data, .data, .data, .sentinel, .sentinel, .pinned], laidTests := true, laidLooks := .later }
def DeedGoodUptoCardSaid : Prop := Claim7.holds Tryd.pinned (.plain (OpenSpec.upto deedGoodSpec)) deedGoodUptoCard

/-- THE SECOND FORM's CARD OF 'spinneylaw02.DeedDoes'. -/
def deedDoesUptoCard : Claim7 := { stood := { row := deedDoesUptoRow, standIns := [], harness := (true, "fb4e27ecbc22e7f883b3ba63999a544d7a4094553627155be1940c2f9dd76599"), looks := true }, kinds := [], alts := [], laidByText := true, laidKinds := [.data, .data, .data, .data, .sentinel, .sentinel, .pinned], laidTests := true, laidLooks := .later }
def DeedDoesUptoCardSaid : Prop := Claim7.holds Tryd.pinned (.plain (OpenSpec.upto deedDoesSpec)) deedDoesUptoCard

/-- THE SECOND FORM's CARD OF 'spinneylaw02.DeedLines'. -/
def deedLinesUptoCard : Claim7 := { stood := { row := deedLinesUptoRow, standIns := [], harness := (true, "fb4e27ecbc22e7f883b3ba63999a544d7a4094553627155be1940c2f9dd76599"), looks := true }, kinds := [], alts := [], laidByText := true, laidKinds := [.data, .data, .data, .data, .sentinel, .sentinel, .pinned], laidTests := true, laidLooks := .later }
def DeedLinesUptoCardSaid : Prop := Claim7.holds Tryd.pinned (.plain (OpenSpec.upto deedLinesSpec)) deedLinesUptoCard

/-- THE SECOND FORM's CARD OF 'spinneylaw02.DeedReads'. -/
def deedReadsUptoCard : Claim7 := { stood := { row := deedReadsUptoRow, standIns := [], harness := (true, "fb4e27ecbc22e7f883b3ba63999a544d7a4094553627155be1940c2f9dd76599"), looks := true }, kinds := [], alts := [], laidByText := true, laidKinds := [.data, .data, .data, .data, .sentinel, .sentinel, .pinned], laidTests := true, laidLooks := .later }
def DeedReadsUptoCardSaid : Prop := Claim7.holds Tryd.pinned (.plain (OpenSpec.upto deedReadsSpec)) deedReadsUptoCard

/-- THE SECOND FORM's CARD OF 'spinneylaw02.DeedCases'. -/
def deedCasesUptoCard : Claim7 := { stood := { row := deedCasesUptoRow, standIns := [], harness := (true, "fb4e27ecbc22e7f883b3ba63999a544d7a4094553627155be1940c2f9dd76599"), looks := true }, kinds := [], alts := [], laidByText := true, laidKinds := [.data, .data, .data, .data, .sentinel, .sentinel, .pinned], laidTests := true, laidLooks := .later }
def DeedCasesUptoCardSaid : Prop := Claim7.holds Tryd.pinned (.plain (OpenSpec.upto deedCasesSpec)) deedCasesUptoCard
end Rows
end Go.Proofs.YtmilcgikncecnaaDoor
