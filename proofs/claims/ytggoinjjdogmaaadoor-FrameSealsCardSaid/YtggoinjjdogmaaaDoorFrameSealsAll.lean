/-
  WHAT IS PROVED: the law of the statement FrameSeals answers true, over the code itself. Conditions: the package variables that the code reads hold what the program's text lays (LaidF).
-/
import Derived.Test.YtggoinjjdogmaaaDoorFrameCode
import Derived.Test.YtggoinjjdogmaaaDoorLawFrameSeals
namespace Go.Proofs.YtggoinjjdogmaaaDoor
open Go.RowKit

theorem lawFrameSeals_all (k : UInt8) (A : Option Addr) (n c : Nat) (l : List UInt8) (w : World) (hn : l.length = n) (hr : RdB w.heap.size w A l) (_ : n ≤ c) (_ : c ≤ maxLen) (hL : LaidF w) :
    Calls Tryd.prog 4 #[.int .u8 (k.toNat : Int), .slice A n c] w fun e w' => e = .returned (.bool true) ∧ Below w.heap.size w w' :=
  lawFrameSeals_any frameC k A n c l w hL hn hr
end Go.Proofs.YtggoinjjdogmaaaDoor
