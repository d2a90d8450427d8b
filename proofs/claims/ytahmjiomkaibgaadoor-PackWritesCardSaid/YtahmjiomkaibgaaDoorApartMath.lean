/-
  WHAT IS PROVED: plain facts: of two numbers, ints, texts, good values that differ neither one's bytes begin the other's. No program but the words that the facts are told in.
-/
import Derived.Test.YtahmjiomkaibgaaDoorPutTake
import Derived.Test.YtahmjiomkaibgaaDoorMKeyMath
namespace Go.Proofs.YtahmjiomkaibgaaDoor
open Go.RowKit

theorem beg_app {a b : List UInt8} (h : begB a b = true) : ∃ r, b = a ++ r := by
  obtain ⟨r, e⟩ := begB_iff.1 h
  exact ⟨r, e.symm⟩
theorem numb_apart {x y : Nat} (hx : x < 18446744073709551616) (hy : y < 18446744073709551616) (h : x ≠ y) : begB (numB x) (numB y) = false := by
  rw [Bool.eq_false_iff]
  intro hb
  obtain ⟨r, e⟩ := beg_app hb
  have h1 := take_num (n := y) (most := 18446744073709551615) [] hy (by omega)
  rw [List.append_nil, e, take_num r hx (by omega)] at h1
  exact h (congrArg Prod.fst h1)
theorem intb_apart {x y : Int} (hx : -9223372036854775808 ≤ x ∧ x ≤ 9223372036854775807) (hy : -9223372036854775808 ≤ y ∧ y ≤ 9223372036854775807) (h : x ≠ y) : begB (numB (zig x)) (numB (zig y)) = false := by
  rw [Bool.eq_false_iff]
  intro hb
  obtain ⟨r, e⟩ := beg_app hb
  have h1 := take_int (n := y) [] hy.1 hy.2
  rw [List.append_nil, e, take_int r hx.1 hx.2] at h1
  exact h (congrArg Prod.fst h1)
theorem textb_apart {x y : List UInt8} (hx : x.length ≤ 1000000) (hy : y.length ≤ 1000000) (h : x ≠ y) : begB (textB x) (textB y) = false := by
  rw [Bool.eq_false_iff]
  intro hb
  obtain ⟨r, e⟩ := beg_app hb
  have h1 := take_text (s := y) (most := 1000000) [] (by omega) hy
  rw [List.append_nil, e, take_text r (by omega) hx] at h1
  exact h (congrArg Prod.fst h1)
theorem valb_apart {k n k' n' : Int} {s s' : ByteArray} (g : goodB k n s = true) (h0 : -9223372036854775808 ≤ n ∧ n ≤ 9223372036854775807) (g' : goodB k' n' s' = true) (h0' : -9223372036854775808 ≤ n' ∧ n' ≤ 9223372036854775807)
    (h : ¬ (k = k' ∧ n = n' ∧ s.data.toList = s'.data.toList)) : begB (valB k n s.data.toList) (valB k' n' s'.data.toList) = false := by
  rw [Bool.eq_false_iff]
  intro hb
  obtain ⟨r, e⟩ := beg_app hb
  have h1 := take_val (k := k') (n := n') (s := s') [] g' h0'.1 h0'.2
  rw [List.append_nil, e, take_val r g h0.1 h0.2] at h1
  have h2 := congrArg Prod.fst h1
  simp only [Prod.mk.injEq] at h2
  exact h h2
/-- What the statement asks of two kinds of bytes. -/
def apB (a b : List UInt8) (same : Bool) : Bool := if same then a == b else !begB b a && !begB a b
theorem apB_same {a b : List UInt8} (h : a = b) : apB a b true = true := by unfold apB; rw [if_pos rfl, h]; simp
theorem apB_not {a b : List UInt8} (h : begB a b = false) (k : begB b a = false) : apB a b false = true := by unfold apB; rw [if_neg Bool.false_ne_true, h, k]; rfl
theorem apB_num {x y : Nat} (hx : x < 18446744073709551616) (hy : y < 18446744073709551616) {b : Bool} (hb : decide (x = y) = b) : apB (numB x) (numB y) b = true := by
  by_cases h : x = y
  · rw [decide_eq_true h] at hb
    subst hb
    exact apB_same (by rw [h])
  · rw [decide_eq_false h] at hb
    subst hb
    exact apB_not (numb_apart hx hy h) (numb_apart hy hx (Ne.symm h))
theorem apB_int {x y : Int} (hx : -9223372036854775808 ≤ x ∧ x ≤ 9223372036854775807) (hy : -9223372036854775808 ≤ y ∧ y ≤ 9223372036854775807) {b : Bool} (hb : decide (x = y) = b) : apB (numB (zig x)) (numB (zig y)) b = true := by
  by_cases h : x = y
  · rw [decide_eq_true h] at hb
    subst hb
    exact apB_same (by rw [h])
  · rw [decide_eq_false h] at hb
    subst hb
    exact apB_not (intb_apart hx hy h) (intb_apart hy hx (Ne.symm h))
theorem apB_text {x y : List UInt8} (hx : x.length ≤ 1000000) (hy : y.length ≤ 1000000) {b : Bool} (hb : decide (x = y) = b) : apB (textB x) (textB y) b = true := by
  by_cases h : x = y
  · rw [decide_eq_true h] at hb
    subst hb
    exact apB_same (by rw [h])
  · rw [decide_eq_false h] at hb
    subst hb
    exact apB_not (textb_apart hx hy h) (textb_apart hy hx (Ne.symm h))
theorem apB_val {k n k' n' : Int} {s s' : ByteArray} (g : goodB k n s = true) (h0 : -9223372036854775808 ≤ n ∧ n ≤ 9223372036854775807) (g' : goodB k' n' s' = true) (h0' : -9223372036854775808 ≤ n' ∧ n' ≤ 9223372036854775807)
    {b : Bool} (hb : decide (k = k' ∧ n = n' ∧ s.data.toList = s'.data.toList) = b) : apB (valB k n s.data.toList) (valB k' n' s'.data.toList) b = true := by
  by_cases h : k = k' ∧ n = n' ∧ s.data.toList = s'.data.toList
  · rw [decide_eq_true h] at hb
    subst hb
    obtain ⟨rfl, rfl, e⟩ := h
    exact apB_same (by rw [e])
  · rw [decide_eq_false h] at hb
    subst hb
    exact apB_not (valb_apart g h0 g' h0' h) (valb_apart g' h0' g h0 fun e => h ⟨e.1.symm, e.2.1.symm, e.2.2.symm⟩)
end Go.Proofs.YtahmjiomkaibgaaDoor
