/-
  WHAT IS PROVED: the document's bytes of good values (spinneyref05.Value). Conditions: those typed in the theorem.
-/
import Derived.Test.YtgbopikhdpmmcaaDoorPackRef
import Derived.Test.YtgbopikhdpmmcaaDoorMem
namespace Go.Proofs.YtgbopikhdpmmcaaDoor
open Go.RowKit

/-- A value's bytes. -/
def valB (k n : Int) (s : List UInt8) : List UInt8 := numB k.toNat ++ (if k = 1 then numB (zig n) else if k = 2 then textB s else [])

theorem textB_small {s : ByteArray} (h : s.size ≤ 1000000) : (textB s.data.toList).length ≤ 1000009 := by
  have hl : s.data.toList.length = s.size := Array.length_toList
  have := numB_small (n := s.size) (by omega)
  unfold textB
  rw [List.length_append, hl]
  omega
theorem valB_0 (n : Int) (s : List UInt8) : valB 0 n s = numB 0 := by simp [valB]
theorem valB_1 (n : Int) (s : List UInt8) : valB 1 n s = numB 1 ++ numB (zig n) := by simp [valB]
theorem valB_2 (n : Int) (s : List UInt8) : valB 2 n s = numB 2 ++ textB s := by simp [valB]

end Go.Proofs.YtgbopikhdpmmcaaDoor
