/-
  WHAT IS PROVED: the document's Good of values, named goodB here, for every value. No condition.
-/
import Derived.Test.YtkfhkfddhijkcaaBase
namespace Go.Proofs.Ytkfhkfddhijkcaa
open Go.RowKit

def goodB (k n : Int) (s : ByteArray) : Bool :=
  decide ((k = 0 ∧ n = 0 ∧ s.size = 0) ∨ (k = 1 ∧ s.size = 0) ∨ (k = 2 ∧ n = 0 ∧ s.size ≤ 40))

theorem isEmpty_iff (s : ByteArray) : s.toList.isEmpty = true ↔ s.size = 0 := by
  have : s.data.toList.length = s.size := Array.length_toList
  rw [ByteArray.toList_eq, List.isEmpty_iff, ← List.length_eq_zero_iff, this]

set_option maxHeartbeats 1000000 in
theorem refGood_any (k n : Int) (s : ByteArray) (w : World) (hs : s.size ≤ maxLen) :
    Calls Try.prog 85 #[.agg #[.int .i64 k, .int .i64 n, .string s]] w fun e w' => e = .returned (.bool (goodB k n s)) ∧ Below w.heap.size w w' := by
  unfold maxLen at hs
  go_enter Try.func85, Try.ntmps85
  go_wp2
  all_goals go_ret
  all_goals refine ⟨ret_bool ?_, b0 _ _⟩
  all_goals unfold goodB
  all_goals rw [Bool.eq_iff_iff]
  all_goals simp only [beq_iff_eq, beq_eq_false_iff_ne, decide_eq_true_eq, isEmpty_iff, Bool.false_eq_true, false_iff] at *
  all_goals omega

end Go.Proofs.Ytkfhkfddhijkcaa
