/-
  DERIVED. GIVEN WITH THE SEED: THE CARDS: each row of YtfpfalgbkbmkeaaDoorRows.lean that lists a variable, with what it lists TIED to the program's text (the seventh form; the later family's looks); each row that meets fmt, with fmt's text TOLD by the authors' own Lean function (tested against real Go, not proved from fmt's source: count such statements apart). THE CARD IS WHAT COUNTS. Prove the row's statement (the work); the ties are given (YtfpfalgbkbmkeaaDoorTie.lean); close each card by the builder's one call (the guide's Derived/Test/ToyasCard.lean, 'card_holds'). Laid BY PROGRAM, IN A SANDBOX (cutbox-door.mjs). By AI agents, Wed Nov 11 2026. No macro, syntax, notation, axiom, sorry.
-/
import Derived.Test.YtfpfalgbkbmkeaaDoorRows
import GoSem.ClaimSeven
namespace Go.Proofs.YtfpfalgbkbmkeaaDoor
namespace Rows

/-- THE TIED CARD OF 'spinneylaw09.SlateKeeps'. -/
def slateKeepsCard : Claim7 := { stood := { row := slateKeepsRow, standIns := [], harness := (true, "4214b3ae77bf93042c768d64912f74a7fe5f9fd9abdb92a7aa8812e45e7ac318"), looks := true }, kinds := [], alts := [], laidByText := true, laidKinds := [.sentinel], laidTests := true, laidLooks := .later }
def SlateKeepsCardSaid : Prop := Claim7.holds Tryd.pinned (.plain (OpenSpec.ofChange slateKeepsSpec)) slateKeepsCard

/-- THE TIED CARD OF 'spinneylaw09.SlateBudget'. -/
def slateBudgetCard : Claim7 := { stood := { row := slateBudgetRow, standIns := [], harness := (true, "4214b3ae77bf93042c768d64912f74a7fe5f9fd9abdb92a7aa8812e45e7ac318"), looks := true }, kinds := [], alts := [], laidByText := true, laidKinds := [.sentinel], laidTests := true, laidLooks := .later }
def SlateBudgetCardSaid : Prop := Claim7.holds Tryd.pinned (.plain (OpenSpec.ofChange slateBudgetSpec)) slateBudgetCard

/-- THE TIED CARD OF 'spinneylaw09.SlateSpoils'. -/
def slateSpoilsCard : Claim7 := { stood := { row := slateSpoilsRow, standIns := [], harness := (true, "4214b3ae77bf93042c768d64912f74a7fe5f9fd9abdb92a7aa8812e45e7ac318"), looks := true }, kinds := [], alts := [], laidByText := true, laidKinds := [.sentinel], laidTests := true, laidLooks := .later }
def SlateSpoilsCardSaid : Prop := Claim7.holds Tryd.pinned (.plain (OpenSpec.ofChange slateSpoilsSpec)) slateSpoilsCard

/-- THE SECOND FORM's CARD OF 'spinneylaw09.SlateKeeps'. -/
def slateKeepsUptoCard : Claim7 := { stood := { row := slateKeepsUptoRow, standIns := [], harness := (true, "4214b3ae77bf93042c768d64912f74a7fe5f9fd9abdb92a7aa8812e45e7ac318"), looks := true }, kinds := [], alts := [], laidByText := true, laidKinds := [.sentinel], laidTests := true, laidLooks := .later }
def SlateKeepsUptoCardSaid : Prop := Claim7.holds Tryd.pinned (.plain (OpenSpec.upto slateKeepsSpec)) slateKeepsUptoCard

/-- THE SECOND FORM's CARD OF 'spinneylaw09.SlateBudget'. -/
def slateBudgetUptoCard : Claim7 := { stood := { row := slateBudgetUptoRow, standIns := [], harness := (true, "4214b3ae77bf93042c768d64912f74a7fe5f9fd9abdb92a7aa8812e45e7ac318"), looks := true }, kinds := [], alts := [], laidByText := true, laidKinds := [.sentinel], laidTests := true, laidLooks := .later }
def SlateBudgetUptoCardSaid : Prop := Claim7.holds Tryd.pinned (.plain (OpenSpec.upto slateBudgetSpec)) slateBudgetUptoCard

/-- THE SECOND FORM's CARD OF 'spinneylaw09.SlateSpoils'. -/
def slateSpoilsUptoCard : Claim7 := { stood := { row := slateSpoilsUptoRow, standIns := [], harness := (true, "4214b3ae77bf93042c768d64912f74a7fe5f9fd9abdb92a7aa8812e45e7ac318"), looks := true }, kinds := [], alts := [], laidByText := true, laidKinds := [.sentinel], laidTests := true, laidLooks := .later }
def SlateSpoilsUptoCardSaid : Prop := Claim7.holds Tryd.pinned (.plain (OpenSpec.upto slateSpoilsSpec)) slateSpoilsUptoCard
end Rows
end Go.Proofs.YtfpfalgbkbmkeaaDoor
