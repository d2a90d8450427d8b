/-
  WHAT IS PROVED: the law of the statement FrameTurned answers true, over the code itself. Conditions: the package variables that the code reads hold what the program's text lays (LaidF).
-/
import Derived.Test.YtggoinjjdogmaaaDoorFrameCode
import Derived.Test.YtggoinjjdogmaaaDoorLawFrameTurned
namespace Go.Proofs.YtggoinjjdogmaaaDoor
open Go.RowKit

theorem lawFrameTurned_all (k : UInt8) (A : Option Addr) (n c : Nat) (l : List UInt8) (t : Int) (w : World) (hn : l.length = n) (hr : RdB w.heap.size w A l) (_ : n ≤ c) (_ : c ≤ maxLen) (ht : -9223372036854775808 ≤ t ∧ t ≤ 9223372036854775807) (hL : LaidF w) :
    Calls Tryd.prog 7 #[.int .u8 (k.toNat : Int), .slice A n c, .int .i64 t] w fun e w' => e = .returned (.bool true) ∧ Below w.heap.size w w' :=
  lawFrameTurned_any frameC k A n c l t w hL hn hr ht
end Go.Proofs.YtggoinjjdogmaaaDoor
