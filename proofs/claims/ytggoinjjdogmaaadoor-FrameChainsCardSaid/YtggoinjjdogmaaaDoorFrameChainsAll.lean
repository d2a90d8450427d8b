/-
  WHAT IS PROVED: the law of the statement FrameChains answers true, over the code itself. Conditions: the package variables that the code reads hold what the program's text lays (LaidF).
-/
import Derived.Test.YtggoinjjdogmaaaDoorFrameCode
import Derived.Test.YtggoinjjdogmaaaDoorLawFrameChains
namespace Go.Proofs.YtggoinjjdogmaaaDoor
open Go.RowKit

theorem lawFrameChains_all (A : Option Addr) (n c : Nat) (l : List (List UInt8)) (t : Int) (w : World) (hn : l.length = n) (hr : RdBB w.heap.size w A l) (_ : n ≤ maxLen) (ht : -9223372036854775808 ≤ t ∧ t ≤ 9223372036854775807) (hL : LaidF w) :
    Calls Tryd.prog 8 #[.slice A n c, .int .i64 t] w fun e w' => e = .returned (.bool true) ∧ Below w.heap.size w w' :=
  lawFrameChains_any frameC A n c l t w hL hn hr ht
end Go.Proofs.YtggoinjjdogmaaaDoor
