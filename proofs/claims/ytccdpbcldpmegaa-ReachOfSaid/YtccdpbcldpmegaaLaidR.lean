/-
  WHAT IS PROVED: nothing; as a definition, what the code of these statements reads of the package variables: nothing.
-/
import Derived.Test.YtccdpbcldpmegaaBase
namespace Go.Proofs.Ytccdpbcldpmegaa
open Go.RowKit

/-- What the code reads of the package variables: nothing. -/
def LaidR (_ : World) : Prop := True
theorem LaidR.keep {W W' : World} (_ : LaidR W) (_ : Below W.heap.size W W') : LaidR W' := trivial
end Go.Proofs.Ytccdpbcldpmegaa
