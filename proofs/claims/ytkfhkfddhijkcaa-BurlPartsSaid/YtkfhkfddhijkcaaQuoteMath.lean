/-
  WHAT IS PROVED: plain facts on how a text is quoted. No program. No condition.
-/
import Derived.Lib.Bytealg
namespace Go.Proofs.Ytkfhkfddhijkcaa
open Go

/-- Does a byte stand for itself? -/
def plainB (c : Int) : Bool := decide (33 ≤ c ∧ c ≤ 126 ∧ c ≠ 34 ∧ c ≠ 37)

def plainC (c : UInt8) : Bool := plainB c.toNat
/-- A digit of 0 .. 15. -/
def hexd (n : Nat) : UInt8 := if n < 10 then UInt8.ofNat (48 + n) else UInt8.ofNat (87 + n)
def quoB (c : UInt8) : List UInt8 := if plainC c then [c] else [37, hexd (c.toNat / 16), hexd (c.toNat % 16)]
def quoL (l : List UInt8) : List UInt8 := l.flatMap quoB

theorem quoL_snoc (l : List UInt8) (c : UInt8) : quoL (l ++ [c]) = quoL l ++ quoB c := by simp [quoL]
theorem quoB_len (c : UInt8) : (quoB c).length ≤ 3 := by unfold quoB; split <;> simp
theorem quoL_len (l : List UInt8) : (quoL l).length ≤ 3 * l.length := by
  induction l with
  | nil => simp [quoL]
  | cons c l ih =>
    have := quoB_len c
    simp only [quoL, List.flatMap_cons, List.length_append, List.length_cons] at ih ⊢
    omega
theorem hexd_at (n : Nat) (h : n < 16) (h' : n < (⟨#[48, 49, 50, 51, 52, 53, 54, 55, 56, 57, 97, 98, 99, 100, 101, 102]⟩ : ByteArray).size) :
    (⟨#[48, 49, 50, 51, 52, 53, 54, 55, 56, 57, 97, 98, 99, 100, 101, 102]⟩ : ByteArray)[n] = hexd n := by
  have : ∀ m : Fin 16, (⟨#[48, 49, 50, 51, 52, 53, 54, 55, 56, 57, 97, 98, 99, 100, 101, 102]⟩ : ByteArray)[m.val]'(m.isLt) = hexd m.val := by decide
  exact this ⟨n, h⟩

end Go.Proofs.Ytkfhkfddhijkcaa
