/-
  DERIVED. GIVEN WITH THE SEED: THE CARDS: each row of YtjbmhbnlanbbkaaDoorRows.lean that lists a variable, with what it lists TIED to the program's text (the seventh form; the later family's looks); each row that meets fmt, with fmt's text TOLD by the authors' own Lean function (tested against real Go, not proved from fmt's source: count such statements apart). THE CARD IS WHAT COUNTS. Prove the row's statement (the work); the ties are given (YtjbmhbnlanbbkaaDoorTie.lean); close each card by the builder's one call (the guide's Derived/Test/ToyasCard.lean, 'card_holds'). Laid BY PROGRAM, IN A SANDBOX (cutbox-door.mjs). By AI agents, Wed Nov 11 2026. No macro, syntax, notation, axiom, sorry.
-/
import Derived.Test.YtjbmhbnlanbbkaaDoorRows
import GoSem.ClaimSeven
namespace Go.Proofs.YtjbmhbnlanbbkaaDoor
namespace Rows

/-- THE TIED CARD OF 'spinneylaw09.SlateBudget'. -/
def slateBudgetCard : Claim7 := { stood := { row := slateBudgetRow, standIns := [], harness := (true, "19773c9d9f832f4cea1d6b003b748d58c38428c08db3e465ccb9e57d5e21085c"), looks := true }, kinds := [], alts := [], laidByText := true, laidKinds := [.sentinel], laidTests := true, laidLooks := .later }
def SlateBudgetCardSaid : Prop := Claim7.holds Tryd.pinned (.plain (OpenSpec.ofChange slateBudgetSpec)) slateBudgetCard

/-- THE SECOND FORM's CARD OF 'spinneylaw09.SlateBudget'. -/
def slateBudgetUptoCard : Claim7 := { stood := { row := slateBudgetUptoRow, standIns := [], harness := (true, "19773c9d9f832f4cea1d6b003b748d58c38428c08db3e465ccb9e57d5e21085c"), looks := true }, kinds := [], alts := [], laidByText := true, laidKinds := [.sentinel], laidTests := true, laidLooks := .later }
def SlateBudgetUptoCardSaid : Prop := Claim7.holds Tryd.pinned (.plain (OpenSpec.upto slateBudgetSpec)) slateBudgetUptoCard
end Rows
end Go.Proofs.YtjbmhbnlanbbkaaDoor
