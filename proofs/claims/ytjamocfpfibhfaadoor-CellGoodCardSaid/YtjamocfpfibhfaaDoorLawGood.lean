/-
  WHAT IS PROVED: the walk of the law CellGood: it returns true for every value.
-/
import Derived.Test.YtjamocfpfibhfaaDoorGood
import Derived.Test.YtjamocfpfibhfaaDoorAwake
import Derived.Deep.RegionHeld3
namespace Go.Proofs.YtjamocfpfibhfaaDoor
open Go.RowKit

theorem held1 {w W w1 : World} {v0 v1 v2 : Value} (h : W.cell? ⟨w.heap.size, 0, none⟩ = some v0 ∧ W.cell? ⟨w.heap.size, 1, none⟩ = some v1 ∧ W.cell? ⟨w.heap.size, 2, none⟩ = some v2 ∧ Below w.heap.size w W ∧ w.heap.size < W.heap.size) (hb : Below W.heap.size W w1) :
    w1.cell? ⟨w.heap.size, 0, none⟩ = some v0 ∧ w1.cell? ⟨w.heap.size, 1, none⟩ = some v1 ∧ w1.cell? ⟨w.heap.size, 2, none⟩ = some v2 ∧ Below w.heap.size w w1 ∧ w.heap.size < w1.heap.size :=
  ⟨((bcell hb).1 _ _ h.2.2.2.2).trans h.1, ((bcell hb).1 _ _ h.2.2.2.2).trans h.2.1, ((bcell hb).1 _ _ h.2.2.2.2).trans h.2.2.1, bt h.2.2.2.1 hb, Nat.lt_of_lt_of_le h.2.2.2.2 hb.size⟩

theorem held0 (w : World) (v0 v1 v2 : Value) (t : TypeId) :
    (w.alloc (.cells #[v0, v1, v2] t)).drew.cell? ⟨w.heap.size, 0, none⟩ = some v0 ∧ (w.alloc (.cells #[v0, v1, v2] t)).drew.cell? ⟨w.heap.size, 1, none⟩ = some v1 ∧ (w.alloc (.cells #[v0, v1, v2] t)).drew.cell? ⟨w.heap.size, 2, none⟩ = some v2 ∧
      Below w.heap.size w (w.alloc (.cells #[v0, v1, v2] t)).drew ∧ w.heap.size < (w.alloc (.cells #[v0, v1, v2] t)).drew.heap.size :=
  ⟨by go_simp, by go_simp, by go_simp, (b0 w _).drew, by simp [World.drew]⟩

set_option maxHeartbeats 2000000 in
theorem lawGood_any (k n : Int) (s : ByteArray) (w : World) (_ : -9223372036854775808 ≤ k ∧ k ≤ 9223372036854775807) (_ : -9223372036854775808 ≤ n ∧ n ≤ 9223372036854775807) (hs : s.size ≤ maxLen) :
    Calls Tryd.prog 3 #[.agg #[.int .i64 k, .int .i64 n, .string s]] w fun e w' => e = .returned (.bool true) ∧ Below w.heap.size w w' := by
  go_enter Tryd.func3, Tryd.ntmps3
  go_wp2_with fail
  go_region_held3 (fun w' => w'.cell? ⟨w.heap.size, 0, none⟩ = some (.int .i64 k) ∧ w'.cell? ⟨w.heap.size, 1, none⟩ = some (.int .i64 n) ∧ w'.cell? ⟨w.heap.size, 2, none⟩ = some (.string s) ∧ Below w.heap.size w w' ∧ w.heap.size < w'.heap.size)
    (first | exact held0 w _ _ _ _ | exact held1 (by assumption) (by assumption) | (trace_state; fail))
    (first | (go_at_call 8; refine (awake_any _).mono ?_; rintro e w1 ⟨rfl, hb1⟩) | (go_at_call 9; refine (good_any _ _ _ _ hs).mono ?_; rintro e w1 ⟨rfl, hb1⟩) | (go_at_call 10; refine (refGood_any _ _ _ _ hs).mono ?_; rintro e w1 ⟨rfl, hb1⟩))
  all_goals go_wp2
  all_goals go_ret
  all_goals exact ⟨rfl, by first | assumption | exact (by assumption : _ ∧ _ ∧ _ ∧ Below w.heap.size w _ ∧ _).2.2.2.1⟩
end Go.Proofs.YtjamocfpfibhfaaDoor
