/-
  DERIVED. GIVEN WITH THE SEED: THE CARDS: each row of YtahmjiomkaibgaaDoorRows.lean that lists a variable, with what it lists TIED to the program's text (the seventh form; the later family's looks); each row that meets fmt, with fmt's text TOLD by the authors' own Lean function (tested against real Go, not proved from fmt's source: count such statements apart). THE CARD IS WHAT COUNTS. Prove the row's statement (the work); the ties are given (YtahmjiomkaibgaaDoorTie.lean); close each card by the builder's one call (the guide's Derived/Test/ToyasCard.lean, 'card_holds'). Laid BY PROGRAM, IN A SANDBOX (cutbox-door.mjs). By AI agents, Wed Nov 11 2026. No macro, syntax, notation, axiom, sorry.
-/
import Derived.Test.YtahmjiomkaibgaaDoorRows
import GoSem.ClaimSeven
namespace Go.Proofs.YtahmjiomkaibgaaDoor
namespace Rows

/-- THE TIED CARD OF 'spinneylaw05.PackPuts'. -/
def packPutsCard : Claim7 := { stood := { row := packPutsRow, standIns := [], harness := (true, "4ef194fd9a11fcf5532aeb5e870726d475a87ce687faa8524e4c02f91f0e9ffa"), looks := true }, kinds := [], alts := [], laidByText := true, laidKinds := [.handle, .sentinel], laidTests := true, laidLooks := .later }
def PackPutsCardSaid : Prop := Claim7.holds Tryd.pinned (.plain (OpenSpec.ofChange packPutsSpec)) packPutsCard

/-- THE TIED CARD OF 'spinneylaw05.PackWrites'. -/
def packWritesCard : Claim7 := { stood := { row := packWritesRow, standIns := [], harness := (true, "4ef194fd9a11fcf5532aeb5e870726d475a87ce687faa8524e4c02f91f0e9ffa"), looks := true }, kinds := [], alts := [], laidByText := true, laidKinds := [.handle, .sentinel], laidTests := true, laidLooks := .later }
def PackWritesCardSaid : Prop := Claim7.holds Tryd.pinned (.plain (OpenSpec.ofChange packWritesSpec)) packWritesCard

/-- THE TIED CARD OF 'spinneylaw05.PackTakes'. -/
def packTakesCard : Claim7 := { stood := { row := packTakesRow, standIns := [], harness := (true, "4ef194fd9a11fcf5532aeb5e870726d475a87ce687faa8524e4c02f91f0e9ffa"), looks := true }, kinds := [], alts := [], laidByText := true, laidKinds := [.handle, .sentinel], laidTests := true, laidLooks := .later }
def PackTakesCardSaid : Prop := Claim7.holds Tryd.pinned (.plain (OpenSpec.ofChange packTakesSpec)) packTakesCard

/-- THE TIED CARD OF 'spinneylaw05.PackStays'. -/
def packStaysCard : Claim7 := { stood := { row := packStaysRow, standIns := [], harness := (true, "4ef194fd9a11fcf5532aeb5e870726d475a87ce687faa8524e4c02f91f0e9ffa"), looks := true }, kinds := [], alts := [], laidByText := true, laidKinds := [.handle, .sentinel], laidTests := true, laidLooks := .later }
def PackStaysCardSaid : Prop := Claim7.holds Tryd.pinned (.plain (OpenSpec.ofChange packStaysSpec)) packStaysCard

/-- THE TIED CARD OF 'spinneylaw05.PackApart'. -/
def packApartCard : Claim7 := { stood := { row := packApartRow, standIns := [], harness := (true, "4ef194fd9a11fcf5532aeb5e870726d475a87ce687faa8524e4c02f91f0e9ffa"), looks := true }, kinds := [], alts := [], laidByText := true, laidKinds := [.handle, .sentinel], laidTests := true, laidLooks := .later }
def PackApartCardSaid : Prop := Claim7.holds Tryd.pinned (.plain (OpenSpec.ofChange packApartSpec)) packApartCard

/-- THE TIED CARD OF 'spinneylaw05.PackGoes'. -/
def packGoesCard : Claim7 := { stood := { row := packGoesRow, standIns := [], harness := (true, "4ef194fd9a11fcf5532aeb5e870726d475a87ce687faa8524e4c02f91f0e9ffa"), looks := true }, kinds := [], alts := [], laidByText := true, laidKinds := [.handle, .sentinel], laidTests := true, laidLooks := .later }
def PackGoesCardSaid : Prop := Claim7.holds Tryd.pinned (.plain (OpenSpec.ofChange packGoesSpec)) packGoesCard

/-- THE SECOND FORM's CARD OF 'spinneylaw05.PackPuts'. -/
def packPutsUptoCard : Claim7 := { stood := { row := packPutsUptoRow, standIns := [], harness := (true, "4ef194fd9a11fcf5532aeb5e870726d475a87ce687faa8524e4c02f91f0e9ffa"), looks := true }, kinds := [], alts := [], laidByText := true, laidKinds := [.handle, .sentinel], laidTests := true, laidLooks := .later }
def PackPutsUptoCardSaid : Prop := Claim7.holds Tryd.pinned (.plain (OpenSpec.upto packPutsSpec)) packPutsUptoCard

/-- THE SECOND FORM's CARD OF 'spinneylaw05.PackWrites'. -/
def packWritesUptoCard : Claim7 := { stood := { row := packWritesUptoRow, standIns := [], harness := (true, "4ef194fd9a11fcf5532aeb5e870726d475a87ce687faa8524e4c02f91f0e9ffa"), looks := true }, kinds := [], alts := [], laidByText := true, laidKinds := [.handle, .sentinel], laidTests := true, laidLooks := .later }
def PackWritesUptoCardSaid : Prop := Claim7.holds Tryd.pinned (.plain (OpenSpec.upto packWritesSpec)) packWritesUptoCard

/-- THE SECOND FORM's CARD OF 'spinneylaw05.PackTakes'. -/
def packTakesUptoCard : Claim7 := { stood := { row := packTakesUptoRow, standIns := [], harness := (true, "4ef194fd9a11fcf5532aeb5e870726d475a87ce687faa8524e4c02f91f0e9ffa"), looks := true }, kinds := [], alts := [], laidByText := true, laidKinds := [.handle, .sentinel], laidTests := true, laidLooks := .later }
def PackTakesUptoCardSaid : Prop := Claim7.holds Tryd.pinned (.plain (OpenSpec.upto packTakesSpec)) packTakesUptoCard

/-- THE SECOND FORM's CARD OF 'spinneylaw05.PackStays'. -/
def packStaysUptoCard : Claim7 := { stood := { row := packStaysUptoRow, standIns := [], harness := (true, "4ef194fd9a11fcf5532aeb5e870726d475a87ce687faa8524e4c02f91f0e9ffa"), looks := true }, kinds := [], alts := [], laidByText := true, laidKinds := [.handle, .sentinel], laidTests := true, laidLooks := .later }
def PackStaysUptoCardSaid : Prop := Claim7.holds Tryd.pinned (.plain (OpenSpec.upto packStaysSpec)) packStaysUptoCard

/-- THE SECOND FORM's CARD OF 'spinneylaw05.PackApart'. -/
def packApartUptoCard : Claim7 := { stood := { row := packApartUptoRow, standIns := [], harness := (true, "4ef194fd9a11fcf5532aeb5e870726d475a87ce687faa8524e4c02f91f0e9ffa"), looks := true }, kinds := [], alts := [], laidByText := true, laidKinds := [.handle, .sentinel], laidTests := true, laidLooks := .later }
def PackApartUptoCardSaid : Prop := Claim7.holds Tryd.pinned (.plain (OpenSpec.upto packApartSpec)) packApartUptoCard

/-- THE SECOND FORM's CARD OF 'spinneylaw05.PackGoes'. -/
def packGoesUptoCard : Claim7 := { stood := { row := packGoesUptoRow, standIns := [], harness := (true, "4ef194fd9a11fcf5532aeb5e870726d475a87ce687faa8524e4c02f91f0e9ffa"), looks := true }, kinds := [], alts := [], laidByText := true, laidKinds := [.handle, .sentinel], laidTests := true, laidLooks := .later }
def PackGoesUptoCardSaid : Prop := Claim7.holds Tryd.pinned (.plain (OpenSpec.upto packGoesSpec)) packGoesUptoCard
end Rows
end Go.Proofs.YtahmjiomkaibgaaDoor
