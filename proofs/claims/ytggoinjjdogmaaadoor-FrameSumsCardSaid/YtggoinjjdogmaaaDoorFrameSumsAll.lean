/-
  WHAT IS PROVED: the law of the statement FrameSums answers true, over the code itself. Conditions: the package variables that the code reads hold what the program's text lays (LaidF).
-/
import Derived.Test.YtggoinjjdogmaaaDoorFrameCode
import Derived.Test.YtggoinjjdogmaaaDoorLawFrameSums
namespace Go.Proofs.YtggoinjjdogmaaaDoor
open Go.RowKit

theorem lawFrameSums_all (A : Option Addr) (n c : Nat) (l : List UInt8) (w : World) (hn : l.length = n) (hr : RdB w.heap.size w A l) (_ : n ≤ c) (_ : c ≤ maxLen) (hL : LaidF w) :
    Calls Tryd.prog 3 #[.slice A n c] w fun e w' => e = .returned (.bool true) ∧ Below w.heap.size w w' :=
  lawFrameSums_any frameC A n c l w hL hn hr
end Go.Proofs.YtggoinjjdogmaaaDoor
