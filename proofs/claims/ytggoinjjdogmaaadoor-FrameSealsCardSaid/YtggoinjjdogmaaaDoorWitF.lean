/-
  WHAT IS PROVED: what the code of package frame reads of the package variables, out of the rows' own condition; a world that meets it: the witness of each row of this seat.
-/
import Derived.Test.YtggoinjjdogmaaaDoorFrameIface
import Derived.Test.YtggoinjjdogmaaaDoorRows
import Derived.LaidMore
import Derived.LaidHandle
import Derived.Lib.LaidTab
import Derived.Stop.LaidErr
import Derived.Lay
namespace Go.Proofs.YtggoinjjdogmaaaDoor
open Go.RowKit

/-- What each row of this seat lists. -/
abbrev laidL : List (String × DataW Unit) := [("errors.errorType", Rows.laid_errors_errorType), ("spinney/frame.fourBits", Rows.laid_spinney_frame_fourBits)]
theorem gT : Tryd.prog.globalNamed "errors.errorType" = some 1 := by kernel_rfl
theorem gS : Tryd.prog.globalNamed "spinney/frame.fourBits" = some 0 := by kernel_rfl
theorem tyS : (Tryd.prog.globals[0]?).map (·.type) = some 49 := by kernel_rfl
theorem rtR : (Tryd.prog.cutTypes.find? (·.1 == "internal/reflectlite.rtype")).map (·.2) = some 79 := by kernel_rfl
theorem oneRow : ((List.range 121).filter fun t => Tryd.prog.rowNamed t [101, 114, 114, 111, 114]) = [56] := by kernel_rfl
theorem sizeT : Tryd.prog.types.size = 121 := by kernel_rfl
theorem cellsU : Tryd.prog.cellsOf 24 = 1 := by kernel_rfl
theorem cellsT : Tryd.prog.cellsOf 49 = 16 := by kernel_rfl
theorem tabE : (Rows.laid_spinney_frame_fourBits : DataW Unit) = Go.Lib.tabData .u32 (nibT.toList.map fun (z : Nat) => (z : Int)) := rfl
/-- What the condition gives the walks. -/
theorem laidF_of {W : World} (h : laidMetH Tryd.prog laidL W) : LaidF W := by
  have h' : laidMet Tryd.prog [("spinney/frame.fourBits", Rows.laid_spinney_frame_fourBits)] W ∧ handlesMet Tryd.prog [("errors.errorType", Rows.laid_errors_errorType)] W := h
  obtain ⟨name, u, ty, e1, e2, e3, e4, e5⟩ := h'.2 _ (List.mem_singleton.2 rfl)
  have en : name = [101, 114, 114, 111, 114] := (Option.some.inj e1).symm
  subst en
  obtain rfl := Option.some.inj (rtR.symm.trans e2)
  have hm : ty ∈ (List.range 121).filter fun t => Tryd.prog.rowNamed t [101, 114, 114, 111, 114] := List.mem_filter.2 ⟨List.mem_range.2 (by rw [← sizeT]; exact e3), e4⟩
  rw [oneRow] at hm
  obtain rfl := List.mem_singleton.1 hm
  have hh : typeHandle Tryd.prog 56 = .pointer (some ⟨2, 56, none⟩) := by kernel_rfl
  rw [hh] at e5
  refine ⟨fun i hi => ?_, by simpa using World.var?_cell gT e5 0⟩
  obtain ⟨ps, ⟨g0, t0, cs0, f0, p0, q0, hg0, ht0, hv0, hd0, _, _⟩, _, _⟩ := h'.1
  obtain rfl := Option.some.inj (gS.symm.trans hg0)
  obtain rfl := Option.some.inj (tyS.symm.trans ht0)
  rw [tabE] at hd0
  have hcs := Go.Lib.cells_of_tab Tryd.underlying49 Tryd.underlying24 cellsU cellsT hd0
  have hc := World.var?_cell gS hv0 i
  rw [hc, ← Array.getElem?_toList, hcs, List.getElem?_map, List.getElem?_map, Array.getElem?_toList, nibT_at hi]
  rfl
/-- A world that meets it. -/
theorem door_met (os : Os) (args : Array Value) : laidMetH Tryd.prog laidL ((World.doorLaid Tryd.prog 400 os).forCall (fun _ _ => 0) ⟨#[], args, []⟩).memory :=
  laidMetH_of_parts (laidMet_of_run' 8 (by kernel_rfl) (by kernel_rfl)) (by kernel_rfl)
end Go.Proofs.YtggoinjjdogmaaaDoor
