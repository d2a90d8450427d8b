/-
  WHAT IS PROVED: the law of the statement PackStays answers true, over the code itself. Conditions: the package variables that the code reads hold what the program's text lays (LaidP).
-/
import Derived.Test.YtahmjiomkaibgaaDoorPackCode
import Derived.Test.YtahmjiomkaibgaaDoorLawPackStays
namespace Go.Proofs.YtahmjiomkaibgaaDoor
open Go.RowKit

theorem lawPackStays_all (S : Addr) (A : Option Addr) (n c : Nat) (l : List UInt8) (w : World) (hn : l.length = n) (hr : RdB w.heap.size w A l) (hc : n ≤ c) (hm : c ≤ maxLen) (hL : LaidP S w) :
    Calls Tryd.prog 6 #[.slice A n c] w fun e w' => e = .returned (.bool true) ∧ Below w.heap.size w w' :=
  lawPackStays_any (packC S) A n c l w hL hn hr (Nat.le_trans hc hm)
end Go.Proofs.YtahmjiomkaibgaaDoor
