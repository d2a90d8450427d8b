/-
  WHAT IS PROVED: plain facts on the lines of operations (words, parts, the line). No program. No condition.
-/
import Derived.Lib.Join
import Derived.Test.YtmilcgikncecnaaDoorReadMath2
import Derived.Test.YtmilcgikncecnaaDoorKeyMath
namespace Go.Proofs.YtmilcgikncecnaaDoor
open Go

/-- The word that begins the line of an operation of a kind. -/
def wordL (K : Int) : List UInt8 := if K = 1 then [112, 117, 116] else if K = 2 then [100, 101, 108] else if K = 3 then [97, 100, 100] else if K = 4 then [99, 97, 115] else []
/-- How many of A and B it tells. -/
def toldN (K : Int) : Nat := if K = 1 ∨ K = 3 then 1 else if K = 4 then 2 else 0
def argsL (K : Int) (A B : List UInt8) : List (List UInt8) := if K = 1 ∨ K = 3 then [A] else if K = 4 then [A, B] else []
/-- The line. -/
def lineL (K : Int) (ky A B : List UInt8) : List UInt8 := Lib.join (wordL K :: ky :: argsL K A B) [32]
theorem lineL_one (K : Int) (ky A B : List UInt8) (h : K = 1 ∨ K = 3) : lineL K ky A B = wordL K ++ (32 :: (ky ++ (32 :: A))) := by
  unfold lineL argsL
  rw [if_pos h]
  simp [Lib.join_cons, Lib.joinTail]
theorem lineL_del (ky A B : List UInt8) : lineL 2 ky A B = wordL 2 ++ (32 :: ky) := by
  unfold lineL argsL
  rw [if_neg (by decide), if_neg (by decide)]
  simp [Lib.join_cons, Lib.joinTail]
theorem lineL_cas (ky A B : List UInt8) : lineL 4 ky A B = wordL 4 ++ (32 :: (ky ++ (32 :: (A ++ (32 :: B))))) := by
  unfold lineL argsL
  rw [if_neg (by decide), if_pos rfl]
  simp [Lib.join_cons, Lib.joinTail]
end Go.Proofs.YtmilcgikncecnaaDoor
