/-
  WHAT IS PROVED: nothing; as a definition, what the walks of a statement of layer 4 take of reach.Join. It is proved elsewhere, of the code itself.
-/
import Derived.Test.YtccdpbcldpmegaaReachIface
namespace Go.Proofs.Ytccdpbcldpmegaa
open Go.RowKit

def JoinC : Prop := ∀ (A A2 : Option Addr) (n c m d : Nat) (a b : List ByteArray) (w : World) (R : List (List UInt8)), LaidR w → a.length = n → RdS w.heap.size w A a → b.length = m → RdS w.heap.size w A2 b → goodR (dL a) = true → goodR (dL b) = true → IsMade (· ∈ dL a ++ dL b) R →
  Calls Try.prog 12 #[.slice A n c, .slice A2 m d] w fun e w' =>
    (if R.length ≤ 6 then Ans R 0 e w' else e = .returned (.tuple #[.slice none 0 0, .int .i64 3])) ∧ Below w.heap.size w w'
end Go.Proofs.Ytccdpbcldpmegaa
