/-
  WHAT IS PROVED: what a row's list of the library's variables gives the walks of CellTexts and CellReads.
-/
import Derived.Test.YtjamocfpfibhfaaDoorPost
import Derived.Test.YtjamocfpfibhfaaDoorReadInt
import Derived.Stop.LaidErr
import Derived.MakeChecks
namespace Go.Proofs.YtjamocfpfibhfaaDoor
open Go.RowKit

theorem gTabType : (Tryd.prog.globals[1]?).map (·.type) = some 86 := by kernel_rfl
theorem gRangeType : (Tryd.prog.globals[3]?).map (·.type) = some 53 := by kernel_rfl
theorem cellsTab : Tryd.prog.cellsOf 86 = 20 := by kernel_rfl
theorem cellsU64 : Tryd.prog.cellsOf 33 = 1 := by kernel_rfl
theorem cellsErr : Tryd.prog.cellsOf 99 = 1 := by kernel_rfl
theorem cellsStr : Tryd.prog.cellsOf 9 = 1 := by kernel_rfl
theorem starErr : "*" ++ "errors.errorString" = "*errors.errorString" := by decide
theorem rowErr (u : TypeId) (h : Tryd.prog.typeName? 3 u = some "*errors.errorString") : u = 97 :=
  typeName_ptr_named (nm := "errors.errorString") (by rw [starErr]; kernel_rfl) (by kernel_rfl) (by decide) u (by rw [starErr]; exact h)

theorem laidV_of {W : World} {l : List (String × DataW Unit)} (hl : l = Rows.cellTextsRow.laid) (h : laidMetH Tryd.prog l W) : LaidV W := by
  subst hl
  rw [MakeChecks.laidMetH_plain _ _ _ (by kernel_rfl)] at h
  have h2 : laidMet Tryd.prog (("internal/strconv.uint64pow10", Lib.tabData .u64 Lib.pow10Tab) :: [("strconv.ErrRange", Rows.laid_strconv_ErrRange), ("strconv.ErrSyntax", Rows.laid_strconv_ErrSyntax)]) W := laidMet.tail (laidMet.tail h)
  obtain ⟨a, s, hv, _, _, _⟩ := laid_sentinel (laidMet.tail h2) gRange gRangeType Tryd.underlying53 rowErr Tryd.underlying97 Tryd.underlying99 rfl rfl Tryd.underlying9 cellsErr cellsStr
  exact ⟨Lib.tabIs_of_head gTab gTabType Tryd.underlying86 Tryd.underlying33 cellsU64 cellsTab h2, _, _, hv⟩
end Go.Proofs.YtjamocfpfibhfaaDoor
