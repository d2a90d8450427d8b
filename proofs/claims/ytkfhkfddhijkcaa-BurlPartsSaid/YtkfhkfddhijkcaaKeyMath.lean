/-
  WHAT IS PROVED: plain facts on keys: which texts of bytes are keys. No program. No condition.
-/
import Derived.Lib.Hide
import Derived.Test.YtkfhkfddhijkcaaQuoteMath
namespace Go.Proofs.Ytkfhkfddhijkcaa
open Go

/-- May a key have it? -/
def keyC (c : UInt8) : Bool := decide ((97 ≤ c.toNat ∧ c.toNat ≤ 122) ∨ (48 ≤ c.toNat ∧ c.toNat ≤ 57) ∨ c.toNat = 46 ∨ c.toNat = 45)
/-- .. and as a number. -/
def keyR (n : Int) : Bool := decide ((97 ≤ n ∧ n ≤ 122) ∨ (48 ≤ n ∧ n ≤ 57) ∨ n = 46 ∨ n = 45)
/-- Is it a key? -/
def keyB (l : List UInt8) : Bool := l.all keyC && decide (1 ≤ l.length ∧ l.length ≤ 20)
theorem keyR_nat (c : UInt8) : keyR (c.toNat : Int) = keyC c := by
  unfold keyR keyC
  rw [Bool.eq_iff_iff]
  simp only [decide_eq_true_eq]
  omega
theorem keyB_long {l : List UInt8} (h : l.length < 1 ∨ 20 < l.length) : keyB l = false := by
  unfold keyB
  have : decide (1 ≤ l.length ∧ l.length ≤ 20) = false := by simp only [decide_eq_false_iff_not]; omega
  rw [this, Bool.and_false]
theorem keyB_bad {l : List UInt8} {k : Nat} {c : UInt8} (h : l[k]? = some c) (hc : keyC c = false) : keyB l = false := by
  unfold keyB
  have : l.all keyC = false := by
    rw [List.all_eq_false]
    exact ⟨c, List.mem_of_getElem? h, by simp [hc]⟩
  rw [this, Bool.false_and]
theorem keyB_yes {l : List UInt8} (h : l.all keyC = true) (h1 : 1 ≤ l.length) (h2 : l.length ≤ 20) : keyB l = true := by
  unfold keyB
  rw [h]
  simp only [Bool.true_and, decide_eq_true_eq]
  exact ⟨h1, h2⟩
theorem keyB_all {l : List UInt8} (h : keyB l = true) : l.all keyC = true ∧ 1 ≤ l.length ∧ l.length ≤ 20 := by
  unfold keyB at h
  simp only [Bool.and_eq_true, decide_eq_true_eq] at h
  exact ⟨h.1, h.2.1, h.2.2⟩
theorem keyB_is {l : List UInt8} (h : l.all keyC = true) : keyB l = decide (1 ≤ l.length ∧ l.length ≤ 20) := by
  unfold keyB
  rw [h, Bool.true_and]
theorem keyC_low {c : UInt8} (h : keyC c = true) : c.toNat < 128 ∧ c ≠ 32 := by
  simp only [keyC, decide_eq_true_eq] at h
  refine ⟨by omega, ?_⟩
  rintro rfl
  revert h
  decide
end Go.Proofs.Ytkfhkfddhijkcaa
