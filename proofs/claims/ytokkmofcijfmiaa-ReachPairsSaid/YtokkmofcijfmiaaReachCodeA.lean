/-
  WHAT IS PROVED: package reach's calls answer as the walks of layer 4's statements take them (ReachC, JoinC); so the laws of ReachOf and ReachPairs answer true. Conditions: those typed in each theorem.
-/
import Derived.Test.YtokkmofcijfmiaaGQ6
import Derived.Test.YtokkmofcijfmiaaReachJoinC
import Derived.Test.YtokkmofcijfmiaaLawReachOf
import Derived.Test.YtokkmofcijfmiaaLawReachPairs
namespace Go.Proofs.Ytokkmofcijfmiaa
open Go.RowKit

theorem coversC : CoversC := fun A A2 n c m d a b w _ ha hr hb hr2 g1 g2 =>
  covers_any A A2 n c m d a b w ha hr (by have := goodR_six g1; unfold maxLen; omega) hb hr2 (by have := goodR_six g2; unfold maxLen; omega)
theorem reachC : ReachC := ⟨goodC, ofC, coversC, bothC, textC⟩
theorem lawReachOf_all (A : Option Addr) (n c : Nat) (l : List ByteArray) (w : World) (hn : l.length = n) (hr : RdS w.heap.size w A l) (hm : n ≤ maxLen) (_hs : ∀ x, x ∈ l → x.size ≤ maxLen) :
    Calls Try.prog 3 #[.slice A n c] w fun e w' => e = .returned (.bool true) ∧ Below w.heap.size w w' :=
  lawReachOf_any reachC A n c l w trivial hn hr hm
theorem lawReachPairs_all (A : Option Addr) (n c : Nat) (a : List ByteArray) (A2 : Option Addr) (m d : Nat) (b : List ByteArray) (w : World) (ha : a.length = n) (hr : RdS w.heap.size w A a) (hm : n ≤ maxLen) (hs : ∀ x, x ∈ a → x.size ≤ maxLen)
    (hb : b.length = m) (hr2 : RdS w.heap.size w A2 b) (hm2 : m ≤ maxLen) (hs2 : ∀ x, x ∈ b → x.size ≤ maxLen) :
    Calls Try.prog 4 #[.slice A n c, .slice A2 m d] w fun e w' => e = .returned (.bool true) ∧ Below w.heap.size w w' :=
  lawReachPairs_any reachC joinC_any A A2 n c m d a b w trivial ha hr hm hs hb hr2 hm2 hs2
end Go.Proofs.Ytokkmofcijfmiaa
