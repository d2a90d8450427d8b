/-
  WHAT IS PROVED: the law of the statement RollTakes answers true, over the code itself. Conditions: the package variables that the code reads hold what the program's text lays (LaidS).
-/
import Derived.Test.YtnlnbgcmmlpniaaGreatDoorLawRollTakes
namespace Go.Proofs.YtnlnbgcmmlpniaaGreatDoor
open Go.RowKit

theorem lawRollTakes_all (S : Addr) (A : Option Addr) (n c : Nat) (b : List UInt8) (w : World) (hn : b.length = n) (hr : RdB w.heap.size w A b) (hc : n ≤ c) (_hm : c ≤ maxLen) (hL : LaidS S w) :
    Calls Tryz.prog 5 #[.slice A n c] w fun e w' => e = .returned (.bool true) ∧ Below w.heap.size w w' :=
  lawRollTakes_any S A n c b w hn hr hc hL
end Go.Proofs.YtnlnbgcmmlpniaaGreatDoor
