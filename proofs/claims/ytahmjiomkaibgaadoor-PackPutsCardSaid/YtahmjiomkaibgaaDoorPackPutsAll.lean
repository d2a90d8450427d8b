/-
  WHAT IS PROVED: the law of the statement PackPuts answers true, over the code itself. Conditions: the package variables that the code reads hold what the program's text lays (LaidP).
-/
import Derived.Test.YtahmjiomkaibgaaDoorPackCode
import Derived.Test.YtahmjiomkaibgaaDoorLawPackPuts
namespace Go.Proofs.YtahmjiomkaibgaaDoor
open Go.RowKit

theorem lawPackPuts_all (S : Addr) (A : Option Addr) (n c : Nat) (l : List UInt8) (x : Nat) (s : ByteArray) (w : World) (hn : l.length = n) (hr : RdB w.heap.size w A l) (hc : n ≤ c) (hm : c ≤ maxLen) (hx : x < 18446744073709551616) (hs : s.size ≤ maxLen) (hL : LaidP S w) :
    Calls Tryd.prog 3 #[.slice A n c, .int .u64 x, .string s] w fun e w' => e = .returned (.bool true) ∧ Below w.heap.size w w' :=
  lawPackPuts_any (packC S) A n c l x s w hL hn hr (Nat.le_trans hc hm) hx hs
end Go.Proofs.YtahmjiomkaibgaaDoor
