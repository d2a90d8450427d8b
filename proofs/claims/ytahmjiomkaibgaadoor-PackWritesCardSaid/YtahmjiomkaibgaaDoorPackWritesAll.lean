/-
  WHAT IS PROVED: the law of the statement PackWrites answers true, over the code itself. Conditions: the package variables that the code reads hold what the program's text lays (LaidP).
-/
import Derived.Test.YtahmjiomkaibgaaDoorPackCode
import Derived.Test.YtahmjiomkaibgaaDoorLawPackWr
namespace Go.Proofs.YtahmjiomkaibgaaDoor
open Go.RowKit

theorem lawPackWrites_all (S : Addr) (A : Option Addr) (n c : Nat) (l : List Wr) (A2 : Option Addr) (m d : Nat) (bh : List UInt8) (w : World) (hn : l.length = n) (hr : RdW w.heap.size w A l) (hm : n ≤ maxLen) (hf : ∀ x, x ∈ l → x.fits)
    (hbn : bh.length = m) (hbr : RdB w.heap.size w A2 bh) (_hc : m ≤ d) (_hm2 : d ≤ maxLen) (hL : LaidP S w) :
    Calls Tryd.prog 4 #[.slice A n c, .slice A2 m d] w fun e w' => e = .returned (.bool true) ∧ Below w.heap.size w w' :=
  lawPackWrites_any (packC2 S) A A2 n c m d l bh w hL hn hr hm hf hbn hbr
end Go.Proofs.YtahmjiomkaibgaaDoor
