/-
  DERIVED. GIVEN WITH THE SEED: THE CARDS: each row of YtokkmofcijfmiaaDoorRows.lean that lists a variable, with what it lists TIED to the program's text (the seventh form; the later family's looks); each row that meets fmt, with fmt's text TOLD by the authors' own Lean function (tested against real Go, not proved from fmt's source: count such statements apart). THE CARD IS WHAT COUNTS. Prove the row's statement (the work); the ties are given (YtokkmofcijfmiaaDoorTie.lean); close each card by the builder's one call (the guide's Derived/Test/ToyasCard.lean, 'card_holds'). Laid BY PROGRAM, IN A SANDBOX (cutbox-door.mjs). By AI agents, Wed Nov 11 2026. No macro, syntax, notation, axiom, sorry.
-/
import Derived.Test.YtokkmofcijfmiaaDoorRows
import GoSem.ClaimSeven
namespace Go.Proofs.YtokkmofcijfmiaaDoor
namespace Rows

/-- THE TIED CARD OF 'spinneylaw04.ReachTexts'. -/
def reachTextsCard : Claim7 := { stood := { row := reachTextsRow, standIns := [], harness := (true, "95168d92453ea22a2ac30f846d66274b6454848c224aa186369eb974b1afa83f"), looks := true }, kinds := [], alts := [], laidByText := true, laidKinds := [.data, .pinned], laidTests := true, laidLooks := .later }
def ReachTextsCardSaid : Prop := Claim7.holds Tryd.pinned (.plain (OpenSpec.ofChange reachTextsSpec)) reachTextsCard

/-- THE TIED CARD OF 'spinneylaw06.FrameSeals'. -/
def frameSealsCard : Claim7 := { stood := { row := frameSealsRow, standIns := [], harness := (true, "95168d92453ea22a2ac30f846d66274b6454848c224aa186369eb974b1afa83f"), looks := true }, kinds := [], alts := [], laidByText := true, laidKinds := [.handle, .data], laidTests := true, laidLooks := .later }
def FrameSealsCardSaid : Prop := Claim7.holds Tryd.pinned (.plain (OpenSpec.ofChange frameSealsSpec)) frameSealsCard

/-- THE TIED CARD OF 'spinneylaw06.FrameOpens'. -/
def frameOpensCard : Claim7 := { stood := { row := frameOpensRow, standIns := [], harness := (true, "95168d92453ea22a2ac30f846d66274b6454848c224aa186369eb974b1afa83f"), looks := true }, kinds := [], alts := [], laidByText := true, laidKinds := [.handle, .data], laidTests := true, laidLooks := .later }
def FrameOpensCardSaid : Prop := Claim7.holds Tryd.pinned (.plain (OpenSpec.ofChange frameOpensSpec)) frameOpensCard

/-- THE TIED CARD OF 'spinneylaw06.FrameScans'. -/
def frameScansCard : Claim7 := { stood := { row := frameScansRow, standIns := [], harness := (true, "95168d92453ea22a2ac30f846d66274b6454848c224aa186369eb974b1afa83f"), looks := true }, kinds := [], alts := [], laidByText := true, laidKinds := [.handle, .data], laidTests := true, laidLooks := .later }
def FrameScansCardSaid : Prop := Claim7.holds Tryd.pinned (.plain (OpenSpec.ofChange frameScansSpec)) frameScansCard

/-- THE TIED CARD OF 'spinneylaw06.FrameTurned'. -/
def frameTurnedCard : Claim7 := { stood := { row := frameTurnedRow, standIns := [], harness := (true, "95168d92453ea22a2ac30f846d66274b6454848c224aa186369eb974b1afa83f"), looks := true }, kinds := [], alts := [], laidByText := true, laidKinds := [.handle, .data], laidTests := true, laidLooks := .later }
def FrameTurnedCardSaid : Prop := Claim7.holds Tryd.pinned (.plain (OpenSpec.ofChange frameTurnedSpec)) frameTurnedCard

/-- THE TIED CARD OF 'spinneylaw06.FrameChains'. -/
def frameChainsCard : Claim7 := { stood := { row := frameChainsRow, standIns := [], harness := (true, "95168d92453ea22a2ac30f846d66274b6454848c224aa186369eb974b1afa83f"), looks := true }, kinds := [], alts := [], laidByText := true, laidKinds := [.handle, .data], laidTests := true, laidLooks := .later }
def FrameChainsCardSaid : Prop := Claim7.holds Tryd.pinned (.plain (OpenSpec.ofChange frameChainsSpec)) frameChainsCard

/-- THE TIED CARD OF 'spinneylaw06.FrameGreat'. -/
def frameGreatCard : Claim7 := { stood := { row := frameGreatRow, standIns := [], harness := (true, "95168d92453ea22a2ac30f846d66274b6454848c224aa186369eb974b1afa83f"), looks := true }, kinds := [], alts := [], laidByText := true, laidKinds := [.handle, .data], laidTests := true, laidLooks := .later }
def FrameGreatCardSaid : Prop := Claim7.holds Tryd.pinned (.plain (OpenSpec.ofChange frameGreatSpec)) frameGreatCard

/-- THE SECOND FORM's CARD OF 'spinneylaw04.ReachTexts'. -/
def reachTextsUptoCard : Claim7 := { stood := { row := reachTextsUptoRow, standIns := [], harness := (true, "95168d92453ea22a2ac30f846d66274b6454848c224aa186369eb974b1afa83f"), looks := true }, kinds := [], alts := [], laidByText := true, laidKinds := [.data, .pinned], laidTests := true, laidLooks := .later }
def ReachTextsUptoCardSaid : Prop := Claim7.holds Tryd.pinned (.plain (OpenSpec.upto reachTextsSpec)) reachTextsUptoCard

/-- THE SECOND FORM's CARD OF 'spinneylaw06.FrameSeals'. -/
def frameSealsUptoCard : Claim7 := { stood := { row := frameSealsUptoRow, standIns := [], harness := (true, "95168d92453ea22a2ac30f846d66274b6454848c224aa186369eb974b1afa83f"), looks := true }, kinds := [], alts := [], laidByText := true, laidKinds := [.handle, .data], laidTests := true, laidLooks := .later }
def FrameSealsUptoCardSaid : Prop := Claim7.holds Tryd.pinned (.plain (OpenSpec.upto frameSealsSpec)) frameSealsUptoCard

/-- THE SECOND FORM's CARD OF 'spinneylaw06.FrameOpens'. -/
def frameOpensUptoCard : Claim7 := { stood := { row := frameOpensUptoRow, standIns := [], harness := (true, "95168d92453ea22a2ac30f846d66274b6454848c224aa186369eb974b1afa83f"), looks := true }, kinds := [], alts := [], laidByText := true, laidKinds := [.handle, .data], laidTests := true, laidLooks := .later }
def FrameOpensUptoCardSaid : Prop := Claim7.holds Tryd.pinned (.plain (OpenSpec.upto frameOpensSpec)) frameOpensUptoCard

/-- THE SECOND FORM's CARD OF 'spinneylaw06.FrameScans'. -/
def frameScansUptoCard : Claim7 := { stood := { row := frameScansUptoRow, standIns := [], harness := (true, "95168d92453ea22a2ac30f846d66274b6454848c224aa186369eb974b1afa83f"), looks := true }, kinds := [], alts := [], laidByText := true, laidKinds := [.handle, .data], laidTests := true, laidLooks := .later }
def FrameScansUptoCardSaid : Prop := Claim7.holds Tryd.pinned (.plain (OpenSpec.upto frameScansSpec)) frameScansUptoCard

/-- THE SECOND FORM's CARD OF 'spinneylaw06.FrameTurned'. -/
def frameTurnedUptoCard : Claim7 := { stood := { row := frameTurnedUptoRow, standIns := [], harness := (true, "95168d92453ea22a2ac30f846d66274b6454848c224aa186369eb974b1afa83f"), looks := true }, kinds := [], alts := [], laidByText := true, laidKinds := [.handle, .data], laidTests := true, laidLooks := .later }
def FrameTurnedUptoCardSaid : Prop := Claim7.holds Tryd.pinned (.plain (OpenSpec.upto frameTurnedSpec)) frameTurnedUptoCard

/-- THE SECOND FORM's CARD OF 'spinneylaw06.FrameChains'. -/
def frameChainsUptoCard : Claim7 := { stood := { row := frameChainsUptoRow, standIns := [], harness := (true, "95168d92453ea22a2ac30f846d66274b6454848c224aa186369eb974b1afa83f"), looks := true }, kinds := [], alts := [], laidByText := true, laidKinds := [.handle, .data], laidTests := true, laidLooks := .later }
def FrameChainsUptoCardSaid : Prop := Claim7.holds Tryd.pinned (.plain (OpenSpec.upto frameChainsSpec)) frameChainsUptoCard

/-- THE SECOND FORM's CARD OF 'spinneylaw06.FrameGreat'. -/
def frameGreatUptoCard : Claim7 := { stood := { row := frameGreatUptoRow, standIns := [], harness := (true, "95168d92453ea22a2ac30f846d66274b6454848c224aa186369eb974b1afa83f"), looks := true }, kinds := [], alts := [], laidByText := true, laidKinds := [.handle, .data], laidTests := true, laidLooks := .later }
def FrameGreatUptoCardSaid : Prop := Claim7.holds Tryd.pinned (.plain (OpenSpec.upto frameGreatSpec)) frameGreatUptoCard
end Rows
end Go.Proofs.YtokkmofcijfmiaaDoor
