/-
  WHAT IS PROVED: what the code of package pack's reader reads of the package variables, out of the condition of a row that lists the sentinel alone; a world that meets it.
-/
import Derived.Test.YtnlnbgcmmlpniaaGreatDoorWitP
import Derived.Test.YtnlnbgcmmlpniaaGreatDoorM4
namespace Go.Proofs.YtnlnbgcmmlpniaaGreatDoor
open Go.RowKit

/-- What a row lists that ends no reader. -/
abbrev laidLS : List (String × DataW Unit) := [("spinney/pack.errShort", Rows.laid_spinney_pack_errShort)]
/-- What the condition gives the walks. -/
theorem laidS_of {W : World} (h : laidMetH Tryz.prog laidLS W) : ∃ S, LaidS S W := by
  have h' : laidMet Tryz.prog laidLS W := h
  obtain ⟨a, s, hv, _, _, _⟩ := laid_sentinel h' gS tyS Tryz.underlying94 rowS Tryz.underlying231 Tryz.underlying249 rfl rfl Tryz.underlying9 cellsE cellsT
  exact ⟨a, by unfold LaidS; simpa using World.var?_cell gS hv 0⟩
/-- A world that meets it. -/
theorem door_metS (os : Os) (args : Array Value) : laidMetH Tryz.prog laidLS ((World.doorLaid Tryz.prog 400 os).forCall (fun _ _ => 0) ⟨#[], args, []⟩).memory :=
  laidMetH_of_parts (laidMet_of_run' 8 (by kernel_rfl) (by kernel_rfl)) (by kernel_rfl)
end Go.Proofs.YtnlnbgcmmlpniaaGreatDoor
