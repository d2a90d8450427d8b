/-
  WHAT IS PROVED: the law of the statement FrameGreat answers true, over the code itself. Conditions: the package variables that the code reads hold what the program's text lays (LaidF).
-/
import Derived.Test.YtggoinjjdogmaaaDoorFrameCode
import Derived.Test.YtggoinjjdogmaaaDoorLawFrameGreat
namespace Go.Proofs.YtggoinjjdogmaaaDoor
open Go.RowKit

theorem lawFrameGreat_all (k : UInt8) (w : World) (hL : LaidF w) :
    Calls Tryd.prog 9 #[.int .u8 (k.toNat : Int)] w fun e w' => e = .returned (.bool true) ∧ Below w.heap.size w w' :=
  lawFrameGreat_any frameC k w hL
end Go.Proofs.YtggoinjjdogmaaaDoor
