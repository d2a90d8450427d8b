/-
  WHAT IS PROVED: the walk of CellTexts under what its row lists of the library's variables.
-/
import Derived.Test.YtjamocfpfibhfaaDoorLawTexts
import Derived.Test.YtjamocfpfibhfaaDoorLaid
import Derived.Deep.DeepWitnessRowRef
namespace Go.Proofs.YtjamocfpfibhfaaDoor
open Go.RowKit
theorem lawTexts_laid (k n : Int) (s : ByteArray) (w : World) (hk : -9223372036854775808 ≤ k ∧ k ≤ 9223372036854775807) (hn : -9223372036854775808 ≤ n ∧ n ≤ 9223372036854775807) (hs : s.size ≤ maxLen) (hL : laidMetH Tryd.prog Rows.cellTextsRow.laid w) :
    Calls Tryd.prog 6 #[.agg #[.int .i64 k, .int .i64 n, .string s]] w fun e w' => e = .returned (.bool true) ∧ Below w.heap.size w w' :=
  lawTexts_any k n s w hk hn hs (laidV_of rfl hL)
end Go.Proofs.YtjamocfpfibhfaaDoor
