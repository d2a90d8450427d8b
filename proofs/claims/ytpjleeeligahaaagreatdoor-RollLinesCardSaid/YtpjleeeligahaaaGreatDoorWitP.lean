/-
  WHAT IS PROVED: what the code of package pack reads of the package variables, out of the rows' own condition; a world that meets it: the witness of each row of this seat.
-/
import Derived.Test.YtpjleeeligahaaaGreatDoorGQ4
import Derived.Test.YtpjleeeligahaaaGreatDoorRows
import Derived.LaidMore
import Derived.LaidHandle
import Derived.Stop.LaidErr
import Derived.Stop.LaidTwo
import Derived.Lay
namespace Go.Proofs.YtpjleeeligahaaaGreatDoor
open Go.RowKit

/-- What each row of this seat lists. -/
abbrev laidL : List (String × DataW Unit) := [("errors.errorType", Rows.laid_errors_errorType), ("spinney/pack.errShort", Rows.laid_spinney_pack_errShort)]
theorem gT : Tryz.prog.globalNamed "errors.errorType" = some 1 := by kernel_rfl
theorem gS : Tryz.prog.globalNamed "spinney/pack.errShort" = some 0 := by kernel_rfl
theorem tyS : (Tryz.prog.globals[0]?).map (·.type) = some 82 := by kernel_rfl
theorem rtR : (Tryz.prog.cutTypes.find? (·.1 == "internal/reflectlite.rtype")).map (·.2) = some 215 := by kernel_rfl
theorem oneRow : ((List.range 288).filter fun t => Tryz.prog.rowNamed t [101, 114, 114, 111, 114]) = [82] := by kernel_rfl
theorem sizeT : Tryz.prog.types.size = 288 := by kernel_rfl
theorem starS : "*" ++ "errors.errorString" = "*errors.errorString" := by decide
theorem rowS (u : TypeId) (h : Tryz.prog.typeName? 3 u = some "*errors.errorString") : u = 258 :=
  typeName_ptr_named (nm := "errors.errorString") (by rw [starS]; kernel_rfl) (by kernel_rfl) (by decide) u (by rw [starS]; exact h)
theorem cellsE : Tryz.prog.cellsOf 276 = 1 := by kernel_rfl
theorem cellsT : Tryz.prog.cellsOf 9 = 1 := by kernel_rfl
/-- What the condition gives the walks. -/
theorem laidP_of {W : World} (h : laidMetH Tryz.prog laidL W) : ∃ S, LaidP S W := by
  have h' : laidMet Tryz.prog [("spinney/pack.errShort", Rows.laid_spinney_pack_errShort)] W ∧ handlesMet Tryz.prog [("errors.errorType", Rows.laid_errors_errorType)] W := h
  obtain ⟨name, u, ty, e1, e2, e3, e4, e5⟩ := h'.2 _ (List.mem_singleton.2 rfl)
  have en : name = [101, 114, 114, 111, 114] := (Option.some.inj e1).symm
  subst en
  obtain rfl := Option.some.inj (rtR.symm.trans e2)
  have hm : ty ∈ (List.range 288).filter fun t => Tryz.prog.rowNamed t [101, 114, 114, 111, 114] := List.mem_filter.2 ⟨List.mem_range.2 (by rw [← sizeT]; exact e3), e4⟩
  rw [oneRow] at hm
  obtain rfl := List.mem_singleton.1 hm
  have hh : typeHandle Tryz.prog 82 = .pointer (some ⟨3, 82, none⟩) := by kernel_rfl
  rw [hh] at e5
  obtain ⟨a, s, hv, _, _, _⟩ := laid_sentinel h'.1 gS tyS Tryz.underlying82 rowS Tryz.underlying258 Tryz.underlying276 rfl rfl Tryz.underlying9 cellsE cellsT
  exact ⟨a, by simpa using World.var?_cell gT e5 0, by simpa using World.var?_cell gS hv 0⟩
/-- A world that meets it. -/
theorem door_met (os : Os) (args : Array Value) : laidMetH Tryz.prog laidL ((World.doorLaid Tryz.prog 400 os).forCall (fun _ _ => 0) ⟨#[], args, []⟩).memory :=
  laidMetH_of_parts (laidMet_of_run' 8 (by kernel_rfl) (by kernel_rfl)) (by kernel_rfl)
end Go.Proofs.YtpjleeeligahaaaGreatDoor
