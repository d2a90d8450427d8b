/-
  WHAT IS PROVED: plain words for digests. No condition.
-/
import Derived.Test.YtkfhkfddhijkcaaCrcMath
namespace Go.Proofs.Ytkfhkfddhijkcaa

theorem xor64L {a b : Nat} (h : a < 18446744073709551616) (k : b < 18446744073709551616) : a ^^^ b < 18446744073709551616 := Nat.xor_lt_two_pow (n := 64) h k
def digS (h : Nat) (x : UInt8) : Nat := (h ^^^ x.toNat) * 1099511628211 % 18446744073709551616
def digTo (h : Nat) (l : List UInt8) : Nat := l.foldl digS h
/-- The digest of bytes. -/
def digL (l : List UInt8) : Nat := digTo 14695981039346656037 l
theorem digS_lt (h : Nat) (x : UInt8) : digS h x < 18446744073709551616 := Nat.mod_lt _ (by decide)
theorem digTo_snoc (h : Nat) (l : List UInt8) (x : UInt8) : digTo h (l ++ [x]) = digS (digTo h l) x := by unfold digTo; rw [List.foldl_append, List.foldl_cons, List.foldl_nil]
theorem digTo_lt {h : Nat} (hh : h < 18446744073709551616) : ∀ l : List UInt8, digTo h l < 18446744073709551616 := by
  intro l
  induction l generalizing h with
  | nil => exact hh
  | cons x r ih => exact ih (digS_lt h x)
theorem digL_lt (l : List UInt8) : digL l < 18446744073709551616 := digTo_lt (by decide) l
theorem digTo_next {h : Nat} {l : List UInt8} {k : Nat} {x : UInt8} (hx : l[k]? = some x) : digTo h (l.take (k + 1)) = digS (digTo h (l.take k)) x := by
  rw [List.take_add_one, hx]
  exact digTo_snoc _ _ _
/-- The lowest eight bits, turned by a byte: the number, turned by it. -/
theorem low_xor (n c : Nat) (hc : c < 256) : n - n % 256 + ((n % 256) ^^^ c) = n ^^^ c := by
  have h1 : ((n % 256) ^^^ c) < 2 ^ 8 := Nat.xor_lt_two_pow (n := 8) (Nat.mod_lt _ (by decide)) hc
  have h2 : n - n % 256 + ((n % 256) ^^^ c) = 2 ^ 8 * (n / 256) + ((n % 256) ^^^ c) := by
    have := Nat.div_add_mod n 256
    omega
  rw [h2]
  apply Nat.eq_of_testBit_eq
  intro j
  rw [Nat.testBit_two_pow_mul_add _ h1, Nat.testBit_xor, Nat.testBit_xor, show (256 : Nat) = 2 ^ 8 by rfl]
  by_cases hj : j < 8
  · rw [if_pos hj, Nat.testBit_mod_two_pow, decide_eq_true hj, Bool.true_and]
  · rw [if_neg hj, Nat.testBit_div_two_pow]
    have e : c.testBit j = false := Nat.testBit_lt_two_pow (Nat.lt_of_lt_of_le hc (show 2 ^ 8 ≤ 2 ^ j from Nat.pow_le_pow_right (by decide) (by omega)))
    rw [e, Bool.xor_false, show j - 8 + 8 = j by omega]
theorem xor_mod256 (n c : Nat) (hc : c < 256) : (n ^^^ c) < 18446744073709551616 ↔ n < 18446744073709551616 := by
  constructor
  · intro h
    have h2 : n = (n ^^^ c) ^^^ c := by rw [Nat.xor_assoc, Nat.xor_self, Nat.xor_zero]
    rw [h2]
    exact xor64L h (by omega)
  · intro h
    exact xor64L h (by omega)
end Go.Proofs.Ytkfhkfddhijkcaa
