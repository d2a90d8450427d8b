/-
  WHAT IS PROVED: the law of the statement PackTakes answers true, over the code itself. Conditions: the package variables that the code reads hold what the program's text lays (LaidP).
-/
import Derived.Test.YtahmjiomkaibgaaDoorPackCode
import Derived.Test.YtahmjiomkaibgaaDoorLawPackTakes2
namespace Go.Proofs.YtahmjiomkaibgaaDoor
open Go.RowKit

theorem lawPackTakes_all (S : Addr) (A : Option Addr) (n c : Nat) (b : List UInt8) (most : Nat) (w : World) (hn : b.length = n) (hr : RdB w.heap.size w A b) (hc : n ≤ c) (_hm : c ≤ maxLen) (hmost : most < 18446744073709551616) (hL : LaidP S w) :
    Calls Tryd.prog 5 #[.slice A n c, .int .u64 most] w fun e w' => e = .returned (.bool true) ∧ Below w.heap.size w w' :=
  lawPackTakes_any (packC2 S) A n c most b w hL hn hr hc hmost
end Go.Proofs.YtahmjiomkaibgaaDoor
