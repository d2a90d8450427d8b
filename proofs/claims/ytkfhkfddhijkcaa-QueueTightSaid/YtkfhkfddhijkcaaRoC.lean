/-
  WHAT IS PROVED: the document's GoodLasts; roster's fixed fact; the law RosterPairs returns true. Conditions: those typed in each theorem.
-/
import Derived.Test.YtkfhkfddhijkcaaRoB
namespace Go.Proofs.Ytkfhkfddhijkcaa
open Go.RowKit

/-- Are they lasts? -/
def glaB (x : List Int) : Bool := ((List.range 12).all fun j => decide (0 ≤ gI x j ∧ gI x j ≤ 40)) && (gI x 0 == 0)
theorem glaB_iff {x : List Int} : ((List.range 12).all fun j => decide (0 ≤ gI x j ∧ gI x j ≤ 40)) = true ↔ ∀ j, j < 12 → 0 ≤ gI x j ∧ gI x j ≤ 40 := by simp
theorem glaB_sml {x : List Int} (hx : x.length = 12) (h : glaB x = true) : Sml x := by
  refine ⟨hx, fun j => ?_⟩
  unfold glaB at h
  rw [Bool.and_eq_true, glaB_iff] at h
  by_cases hj : j < 12
  · have := h.1 j hj
    omega
  · unfold gI
    rw [List.getElem?_eq_none (by omega)]
    exact ⟨Int.le_refl _, show (0 : Int) ≤ 1000 by decide⟩
/-! The fixed fact. -/
def exL : List Int := [0, 4, 0, 0, 0, 0, 0, 0, 0, 0, 0, 0]
theorem exL_sml : Sml exL := glaB_sml rfl (by kernel_rfl)
theorem alL (w : World) : (Instr.alloc 29 true (.tuple #[])).run Try.prog w = .ok (.pointer (some ⟨w.heap.size, 0, none⟩)) (w.alloc (.cells (laI 0 0 0 0 0 0 0 0 0 0 0 0) 29)) := by kernel_rfl
theorem bdId (a c : Int) (w : World) : (Instr.build 32 #[(0, .int .i64 a), (1, .int .i64 c)]).run Try.prog w = .ok (.agg #[.int .i64 a, .int .i64 c]) w := by kernel_rfl
theorem bdL (w : World) : (Instr.build 29 #[(1, .int .i64 4)]).run Try.prog w = .ok (.agg (laI 0 4 0 0 0 0 0 0 0 0 0 0)) w := by kernel_rfl
/-! The law RosterPairs. -/
theorem pairs_true {x y : List Int} (hx : x.length = 12) (hy : y.length = 12) : joinL x y = joinL y x ∧ covLB (joinL x y) x = true ∧ covLB (joinL x y) y = true ∧ (covLB x y = true → joinL x y = x) := by
  refine ⟨mk12_ext fun j _ => Int.max_comm .., (covLB_iff (joinL_len ..)).2 fun j hj => ?_, (covLB_iff (joinL_len ..)).2 fun j hj => ?_, fun h => of_decide_eq_true h⟩
  · rw [gI_join hj]
    omega
  · rw [gI_join hj]
    omega
end Go.Proofs.Ytkfhkfddhijkcaa
