/-
  DERIVED. GIVEN WITH THE SEED: THE CARDS: each row of YtccdpbcldpmegaaDoorRows.lean that lists a variable, with what it lists TIED to the program's text (the seventh form; the later family's looks); each row that meets fmt, with fmt's text TOLD by the authors' own Lean function (tested against real Go, not proved from fmt's source: count such statements apart). THE CARD IS WHAT COUNTS. Prove the row's statement (the work); the ties are given (YtccdpbcldpmegaaDoorTie.lean); close each card by the builder's one call (the guide's Derived/Test/ToyasCard.lean, 'card_holds'). Laid BY PROGRAM, IN A SANDBOX (cutbox-door.mjs). By AI agents, Wed Nov 11 2026. No macro, syntax, notation, axiom, sorry.
-/
import Derived.Test.YtccdpbcldpmegaaDoorRows
import GoSem.ClaimSeven
namespace Go.Proofs.YtccdpbcldpmegaaDoor
namespace Rows

/-- THE TIED CARD OF 'spinneylaw04.ReachTexts'. -/
def reachTextsCard : Claim7 := { stood := { row := reachTextsRow, standIns := [], harness := (true, "67483135ace5614fcc30bd310b1af15475fb2244f425b7839de129be9cb4fe29"), looks := false }, kinds := [], alts := [], laidByText := true, laidKinds := [.data, .pinned], laidTests := true, laidLooks := .later }
def ReachTextsCardSaid : Prop := Claim7.holds Tryd.pinned (.plain (OpenSpec.ofChange reachTextsSpec)) reachTextsCard

/-- THE SECOND FORM's CARD OF 'spinneylaw04.ReachTexts'. -/
def reachTextsUptoCard : Claim7 := { stood := { row := reachTextsUptoRow, standIns := [], harness := (true, "67483135ace5614fcc30bd310b1af15475fb2244f425b7839de129be9cb4fe29"), looks := false }, kinds := [], alts := [], laidByText := true, laidKinds := [.data, .pinned], laidTests := true, laidLooks := .later }
def ReachTextsUptoCardSaid : Prop := Claim7.holds Tryd.pinned (.plain (OpenSpec.upto reachTextsSpec)) reachTextsUptoCard
end Rows
end Go.Proofs.YtccdpbcldpmegaaDoor
