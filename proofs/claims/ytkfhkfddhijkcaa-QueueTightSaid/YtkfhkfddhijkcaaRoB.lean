/-
  WHAT IS PROVED: roster's Join and Covers, and the document's. Conditions: those typed in each theorem.
-/
import Derived.Test.YtkfhkfddhijkcaaRoA
namespace Go.Proofs.Ytkfhkfddhijkcaa
open Go.RowKit

def joinL (x y : List Int) : List Int := mk12 fun i => max (gI x i) (gI y i)
def joinT (x y : List Int) (j : Nat) : List Int := mk12 fun i => if i < j then max (gI x i) (gI y i) else gI x i
theorem joinT_len (x y : List Int) (j : Nat) : (joinT x y j).length = 12 := mk12_len _
theorem joinT_0 {x : List Int} (h : x.length = 12) (y : List Int) : joinT x y 0 = x := by
  unfold joinT
  rw [mk12_ext (g := gI x) (fun j _ => if_neg (Nat.not_lt_zero j)), mk12_self h]
theorem joinT_12 (x y : List Int) : joinT x y 12 = joinL x y := mk12_ext fun j hj => if_pos hj
theorem joinT_at {x y : List Int} {j : Nat} (h : j < 12) : gI (joinT x y j) j = gI x j := by
  unfold joinT
  rw [gI_mk h, if_neg (by omega)]
theorem joinT_set {x y : List Int} {j : Nat} (h : j < 12) : (joinT x y j).set j (max (gI x j) (gI y j)) = joinT x y (j + 1) := by
  refine li_ext (by rw [List.length_set]; exact joinT_len ..) (joinT_len ..) fun k hk => ?_
  rw [gI_set (by rw [joinT_len]; exact hk)]
  unfold joinT
  rw [gI_mk hk, gI_mk hk]
  by_cases e : j = k
  · subst e
    rw [if_pos rfl, if_pos (by omega)]
  · rw [if_neg e]
    by_cases h1 : k < j
    · rw [if_pos h1, if_pos (by omega)]
    · rw [if_neg h1, if_neg (by omega)]
theorem joinT_same {x y : List Int} {j : Nat} (hj : j < 12) (h : ¬ gI x j < gI y j) : joinT x y j = joinT x y (j + 1) := by
  rw [← joinT_set hj]
  refine li_ext (joinT_len ..) (by rw [List.length_set]; exact joinT_len ..) fun k hk => ?_
  rw [gI_set (by rw [joinT_len]; exact hk)]
  split
  · rename_i e
    subst e
    rw [joinT_at hj, Int.max_def]
    split <;> omega
  · rfl
theorem ret_li {l b : List Int} (h : l = b) : Ending.returned (.agg (liA l)) = .returned (.agg (liA b)) := by rw [h]
theorem run_max (W : World) (x y : Int) (ts : Array TypeId) (ty : TypeId) (hx : ts = #[3, 3]) : (Builtin.max_ ts ty #[.int .i64 x, .int .i64 y]).run Try.prog W = .ok (.int .i64 (max x y)) W := by
  subst hx
  rw [Int.max_def]
  go_simp
  by_cases h1 : x < y
  · rw [if_pos h1, if_pos (by omega)]
  · by_cases h2 : x ≤ y
    · rw [if_neg h1, if_pos h2]; omega
    · rw [if_neg h1, if_neg h2]
/-- Nowhere below. -/
def covLB (x y : List Int) : Bool := decide (joinL x y = x)
theorem joinL_len (x y : List Int) : (joinL x y).length = 12 := mk12_len _
theorem gI_join {x y : List Int} {j : Nat} (h : j < 12) : gI (joinL x y) j = max (gI x j) (gI y j) := gI_mk h
theorem covLB_iff {x y : List Int} (hx : x.length = 12) : covLB x y = true ↔ ∀ j, j < 12 → gI y j ≤ gI x j := by
  unfold covLB
  rw [decide_eq_true_iff]
  constructor
  · intro h j hj
    have e := gI_join (x := x) (y := y) hj
    rw [h] at e
    omega
  · intro h
    refine li_ext (joinL_len ..) hx fun j hj => ?_
    rw [gI_join hj]
    have := h j hj
    omega
/-! The document's. -/
end Go.Proofs.Ytkfhkfddhijkcaa
