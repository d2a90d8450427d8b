/-
  WHAT IS PROVED: the law of the statement PackApart answers true, over the code itself. Conditions: the package variables that the code reads hold what the program's text lays (LaidP).
-/
import Derived.Test.YtahmjiomkaibgaaDoorPackCode
import Derived.Test.YtahmjiomkaibgaaDoorLawPackApart2
namespace Go.Proofs.YtahmjiomkaibgaaDoor
open Go.RowKit

theorem lawPackApart_all (S : Addr) (x y : Nat) (s t : ByteArray) (k n : Int) (p : ByteArray) (k' n' : Int) (q : ByteArray) (w : World) (hx : x < 18446744073709551616) (hy : y < 18446744073709551616)
    (hp : p.size ≤ maxLen) (hq : q.size ≤ maxLen) (hn : -9223372036854775808 ≤ n ∧ n ≤ 9223372036854775807) (hn' : -9223372036854775808 ≤ n' ∧ n' ≤ 9223372036854775807) (hL : LaidP S w) :
    Calls Tryd.prog 7 #[.agg #[.int .u64 x, .int .u64 y], .agg #[.string s, .string t], .agg #[.int .i64 k, .int .i64 n, .string p, .int .i64 k', .int .i64 n', .string q]] w fun e w' => e = .returned (.bool true) ∧ Below w.heap.size w w' :=
  lawPackApart_any (packC2 S) x y s t k n k' n' p q w hL hx hy hp hq hn hn'
end Go.Proofs.YtahmjiomkaibgaaDoor
