/-
  WHAT IS PROVED: the law of the statement PackGoes answers true, over the code itself. Conditions: the package variables that the code reads hold what the program's text lays (LaidP).
-/
import Derived.Test.YtahmjiomkaibgaaDoorPackCode
import Derived.Test.YtahmjiomkaibgaaDoorLawPackGoes
namespace Go.Proofs.YtahmjiomkaibgaaDoor
open Go.RowKit

theorem lawPackGoes_all (S : Addr) (n : Nat) (m : Int) (s : ByteArray) (w : World) (hn : n < 18446744073709551616) (hm : -9223372036854775808 ≤ m ∧ m ≤ 9223372036854775807) (hs : s.size ≤ maxLen) (hL : LaidP S w) :
    Calls Tryd.prog 8 #[.int .u64 n, .int .i64 m, .string s] w fun e w' => e = .returned (.bool true) ∧ Below w.heap.size w w' :=
  lawPackGoes_any (packC S) n m s w hL hn hm.1 hm.2 hs
end Go.Proofs.YtahmjiomkaibgaaDoor
