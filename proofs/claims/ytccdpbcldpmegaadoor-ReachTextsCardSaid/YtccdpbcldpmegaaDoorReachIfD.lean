/-
  WHAT IS PROVED: nothing; as a definition, what the walks of a statement of layer 4 take of reach.Read. It is proved elsewhere, of the code itself.
-/
import Derived.Test.YtccdpbcldpmegaaDoorReachIface
namespace Go.Proofs.YtccdpbcldpmegaaDoor
open Go.RowKit

def ReadC : Prop := ∀ (s : ByteArray) (w : World), LaidR w → s.size ≤ 500 →
  Calls Tryd.prog 5 #[.string s] w fun e w' =>
    (match readR s.data.toList with
      | some R => Ans R 0 e w'
      | none => e = .returned (.tuple #[.slice none 0 0, .int .i64 2])) ∧ Below w.heap.size w w'
end Go.Proofs.YtccdpbcldpmegaaDoor
