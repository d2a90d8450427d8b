/-
  WHAT IS PROVED: the document's Good of values, named goodB here, for every value. No condition.
-/
import Derived.Test.YtgbopikhdpmmcaaDoorBase
namespace Go.Proofs.YtgbopikhdpmmcaaDoor
open Go.RowKit

def goodB (k n : Int) (s : ByteArray) : Bool :=
  decide ((k = 0 ∧ n = 0 ∧ s.size = 0) ∨ (k = 1 ∧ s.size = 0) ∨ (k = 2 ∧ n = 0 ∧ s.size ≤ 40))

theorem isEmpty_iff (s : ByteArray) : s.toList.isEmpty = true ↔ s.size = 0 := by
  have : s.data.toList.length = s.size := Array.length_toList
  rw [ByteArray.toList_eq, List.isEmpty_iff, ← List.length_eq_zero_iff, this]

end Go.Proofs.YtgbopikhdpmmcaaDoor
