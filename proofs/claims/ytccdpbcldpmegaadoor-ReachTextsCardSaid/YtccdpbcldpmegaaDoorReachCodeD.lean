/-
  WHAT IS PROVED: package reach's calls answer as the walks of layer 4's statements take them (ReachC, ReadC); so the law of ReachTexts answers true. Conditions: those typed in each theorem.
-/
import Derived.Test.YtccdpbcldpmegaaDoorReachReadC
import Derived.Test.YtccdpbcldpmegaaDoorReachBothC
import Derived.Test.YtccdpbcldpmegaaDoorLawReachTexts
import Derived.Test.YtccdpbcldpmegaaDoorWitR
namespace Go.Proofs.YtccdpbcldpmegaaDoor
open Go.RowKit

theorem coversC : CoversC := fun A A2 n c m d a b w _ ha hr hb hr2 g1 g2 =>
  covers_any A A2 n c m d a b w ha hr (by have := goodR_six g1; unfold maxLen; omega) hb hr2 (by have := goodR_six g2; unfold maxLen; omega)
theorem reachC : ReachC := ⟨goodC, ofC, coversC, bothC, textC⟩
theorem lawReachTexts_all (A : Option Addr) (n c : Nat) (a : List ByteArray) (s : ByteArray) (w : World) (ha : a.length = n) (hr : RdS w.heap.size w A a) (hm : n ≤ maxLen) (hs : ∀ x, x ∈ a → x.size ≤ maxLen) (hz : s.size ≤ maxLen) (hL : LaidR w) :
    Calls Tryd.prog 3 #[.slice A n c, .string s] w fun e w' => e = .returned (.bool true) ∧ Below w.heap.size w w' :=
  lawReachTexts_any reachC readC A n c a s w hL ha hr hm hs hz
end Go.Proofs.YtccdpbcldpmegaaDoor
