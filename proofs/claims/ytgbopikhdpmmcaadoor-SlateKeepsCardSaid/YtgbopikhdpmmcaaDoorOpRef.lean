/-
  WHAT IS PROVED: the document's Good of operations, named opB, for every operation. Condition: the texts are no longer than the form's reach.
-/
import Derived.Test.YtgbopikhdpmmcaaDoorGoodRef
import Derived.Test.YtgbopikhdpmmcaaDoorMem
import Derived.Test.YtgbopikhdpmmcaaDoorKey
namespace Go.Proofs.YtgbopikhdpmmcaaDoor
open Go.RowKit

/-- An operation as a value. -/
abbrev opV (K : Int) (ky : ByteArray) (ka na : Int) (sa : ByteArray) (kb nb : Int) (sb : ByteArray) : Value :=
  .agg #[.int .i64 K, .string ky, .int .i64 ka, .int .i64 na, .string sa, .int .i64 kb, .int .i64 nb, .string sb]
/-- .. and as cells. -/
abbrev opC (K : Int) (ky : ByteArray) (ka na : Int) (sa : ByteArray) (kb nb : Int) (sb : ByteArray) : Array Value :=
  #[.int .i64 K, .string ky, .int .i64 ka, .int .i64 na, .string sa, .int .i64 kb, .int .i64 nb, .string sb]
/-- Is an operation good? -/
def opB (K : Int) (ky : ByteArray) (ka na : Int) (sa : ByteArray) (kb nb : Int) (sb : ByteArray) : Bool :=
  keyB ky.data.toList && goodB ka na sa && goodB kb nb sb && decide ((K = 1 ∧ ka ≠ 0 ∧ kb = 0) ∨ (K = 2 ∧ ka = 0 ∧ kb = 0) ∨ (K = 3 ∧ ka = 1 ∧ kb = 0) ∨ K = 4)

end Go.Proofs.YtgbopikhdpmmcaaDoor
