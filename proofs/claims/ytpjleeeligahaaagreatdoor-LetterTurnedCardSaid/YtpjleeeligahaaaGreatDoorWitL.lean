/-
  WHAT IS PROVED: what the code of packages frame and pack reads of the package variables, out of the rows' own condition; a world that meets it: the witness of each row of this seat that lists all three.
-/
import Derived.Test.YtpjleeeligahaaaGreatDoorGQ14
import Derived.Test.YtpjleeeligahaaaGreatDoorGQ2
import Derived.Test.YtpjleeeligahaaaGreatDoorRows
import Derived.LaidMore
import Derived.LaidHandle
import Derived.Lib.LaidTab
import Derived.Stop.LaidErr
import Derived.Lay
namespace Go.Proofs.YtpjleeeligahaaaGreatDoor
open Go.RowKit

/-- What each row lists. -/
abbrev laidL3 : List (String × DataW Unit) := [("errors.errorType", Rows.laid_errors_errorType), ("spinney/frame.fourBits", Rows.laid_spinney_frame_fourBits), ("spinney/pack.errShort", Rows.laid_spinney_pack_errShort)]
theorem gT : Tryz.prog.globalNamed "errors.errorType" = some 1 := by kernel_rfl
theorem gF : Tryz.prog.globalNamed "spinney/frame.fourBits" = some 2 := by kernel_rfl
theorem tyF : (Tryz.prog.globals[2]?).map (·.type) = some 202 := by kernel_rfl
theorem rtR : (Tryz.prog.cutTypes.find? (·.1 == "internal/reflectlite.rtype")).map (·.2) = some 215 := by kernel_rfl
theorem oneRow : ((List.range 288).filter fun t => Tryz.prog.rowNamed t [101, 114, 114, 111, 114]) = [82] := by kernel_rfl
theorem sizeT : Tryz.prog.types.size = 288 := by kernel_rfl
theorem cellsUF : Tryz.prog.cellsOf 156 = 1 := by kernel_rfl
theorem cellsTF : Tryz.prog.cellsOf 202 = 16 := by kernel_rfl
theorem tabE : (Rows.laid_spinney_frame_fourBits : DataW Unit) = Go.Lib.tabData .u32 (nibT.toList.map fun (z : Nat) => (z : Int)) := rfl
theorem gS : Tryz.prog.globalNamed "spinney/pack.errShort" = some 0 := by kernel_rfl
theorem tyS : (Tryz.prog.globals[0]?).map (·.type) = some 82 := by kernel_rfl
theorem starS : "*" ++ "errors.errorString" = "*errors.errorString" := by decide
theorem rowS (u : TypeId) (h : Tryz.prog.typeName? 3 u = some "*errors.errorString") : u = 258 :=
  typeName_ptr_named (nm := "errors.errorString") (by rw [starS]; kernel_rfl) (by kernel_rfl) (by decide) u (by rw [starS]; exact h)
theorem cellsE : Tryz.prog.cellsOf 276 = 1 := by kernel_rfl
theorem cellsT : Tryz.prog.cellsOf 9 = 1 := by kernel_rfl
theorem laid_tail {P : Program} {x : String × DataW Unit} {r : List (String × DataW Unit)} {W : World} (h : laidMet P (x :: r) W) : laidMet P r W := by
  obtain ⟨ps, ⟨g0, t0, cs0, f0, p0, q0, hg0, ht0, hv0, hd0, hr, rfl⟩, hn, ha⟩ := h
  exact ⟨q0, hr, (List.nodup_append.1 hn).2.1, fun b off hm => ha b off (List.mem_append_right _ hm)⟩
/-- What the condition gives the walks. -/
theorem laidFP_of {W : World} (h : laidMetH Tryz.prog laidL3 W) : ∃ S, LaidF W ∧ LaidP S W := by
  have h' : laidMet Tryz.prog [("spinney/frame.fourBits", Rows.laid_spinney_frame_fourBits), ("spinney/pack.errShort", Rows.laid_spinney_pack_errShort)] W ∧ handlesMet Tryz.prog [("errors.errorType", Rows.laid_errors_errorType)] W := h
  obtain ⟨name, u, ty, e1, e2, e3, e4, e5⟩ := h'.2 _ (List.mem_singleton.2 rfl)
  have en : name = [101, 114, 114, 111, 114] := (Option.some.inj e1).symm
  subst en
  obtain rfl := Option.some.inj (rtR.symm.trans e2)
  have hm : ty ∈ (List.range 288).filter fun t => Tryz.prog.rowNamed t [101, 114, 114, 111, 114] := List.mem_filter.2 ⟨List.mem_range.2 (by rw [← sizeT]; exact e3), e4⟩
  rw [oneRow] at hm
  obtain rfl := List.mem_singleton.1 hm
  have hh : typeHandle Tryz.prog 82 = .pointer (some ⟨3, 82, none⟩) := by kernel_rfl
  rw [hh] at e5
  obtain ⟨a, s, hv, _, _, _⟩ := laid_sentinel (laid_tail h'.1) gS tyS Tryz.underlying82 rowS Tryz.underlying258 Tryz.underlying276 rfl rfl Tryz.underlying9 cellsE cellsT
  have hE := World.var?_cell gT e5 0
  refine ⟨a, ⟨fun i hi => ?_, by simpa using hE⟩, by simpa using hE, by simpa using World.var?_cell gS hv 0⟩
  obtain ⟨ps, ⟨g0, t0, cs0, f0, p0, q0, hg0, ht0, hv0, hd0, _, _⟩, _, _⟩ := h'.1
  obtain rfl := Option.some.inj (gF.symm.trans hg0)
  obtain rfl := Option.some.inj (tyF.symm.trans ht0)
  rw [tabE] at hd0
  have hcs := Go.Lib.cells_of_tab Tryz.underlying202 Tryz.underlying156 cellsUF cellsTF hd0
  have hc := World.var?_cell gF hv0 i
  rw [hc, ← Array.getElem?_toList, hcs, List.getElem?_map, List.getElem?_map, Array.getElem?_toList, nibT_at hi]
  rfl
/-- What a row gives that speaks of no sentinel. -/
theorem laidF3_of {W : World} (h : laidMetH Tryz.prog laidL3 W) : LaidF W := by
  obtain ⟨_, hF, _⟩ := laidFP_of h
  exact hF
/-- A world that meets it. -/
theorem door_met (os : Os) (args : Array Value) : laidMetH Tryz.prog laidL3 ((World.doorLaid Tryz.prog 400 os).forCall (fun _ _ => 0) ⟨#[], args, []⟩).memory :=
  laidMetH_of_parts (laidMet_of_run' 8 (by kernel_rfl) (by kernel_rfl)) (by kernel_rfl)
end Go.Proofs.YtpjleeeligahaaaGreatDoor
