/-
  WHAT IS PROVED: spinneyref04.begins tells whether a text begins another one, for every two. Conditions: those typed in each theorem.
-/
import Derived.Test.YtccdpbcldpmegaaDoorReachMath
import Derived.Test.YtccdpbcldpmegaaDoorBase
import Derived.Laws.Strings
namespace Go.Proofs.YtccdpbcldpmegaaDoor
open Go.RowKit

theorem str_eqB (a b : ByteArray) : (a.toList == b.toList) = (a.data.toList == b.data.toList) := by rw [ByteArray.toList_eq, ByteArray.toList_eq]
theorem beg_data {p s : ByteArray} (h : p.size ≤ s.size) : begB p.data.toList s.data.toList = ((s.extract 0 p.size).toList == p.toList) := by
  have h1 : p.data.toList.length = p.size := Array.length_toList
  have h2 : s.data.toList.length = s.size := Array.length_toList
  rw [begB_take, h1, h2, decide_eq_true h, Bool.true_and, str_eqB]
  simp
theorem beg_long {p s : ByteArray} (h : ¬ p.size ≤ s.size) : begB p.data.toList s.data.toList = false := by
  have h1 : p.data.toList.length = p.size := Array.length_toList
  have h2 : s.data.toList.length = s.size := Array.length_toList
  rw [begB_take, h1, h2, decide_eq_false h, Bool.false_and]

set_option maxHeartbeats 400000 in
theorem begins_any (p s : ByteArray) (w : World) :
    Calls Tryd.prog 21 #[.string p, .string s] w fun e w' => e = .returned (.bool (begB p.data.toList s.data.toList)) ∧ w = w' := by
  by_cases h : p.size ≤ s.size
  · have i1 : (0 : Int) ≤ (p.size : Int) := by omega
    have i2 : (p.size : Int) ≤ (s.size : Int) := by omega
    have R := Lib.hid (beg_data h)
    go_enter Tryd.func21, Tryd.ntmps21
    go_wp2
    go_ret
    exact ⟨ret_bool R.out.symm, rfl⟩
  · have i2 : ¬ (p.size : Int) ≤ (s.size : Int) := by omega
    have R := Lib.hid (beg_long h)
    go_enter Tryd.func21, Tryd.ntmps21
    go_wp2
    go_ret
    exact ⟨ret_bool R.out.symm, rfl⟩
end Go.Proofs.YtccdpbcldpmegaaDoor
