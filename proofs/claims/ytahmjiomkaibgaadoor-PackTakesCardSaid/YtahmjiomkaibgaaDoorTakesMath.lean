/-
  WHAT IS PROVED: plain facts on what a reader takes, and has left, against what the document takes; words for a row of readers. No program but the words that the facts are told in.
-/
import Derived.Test.YtahmjiomkaibgaaDoorMTakeWr
namespace Go.Proofs.YtahmjiomkaibgaaDoor
open Go.RowKit

/-- What is left behind k bytes that were taken; none was: an error. -/
def stOf (b : List UInt8) (k : Nat) : Rest := if k = 0 then none else some (b.drop k)
theorem takeNum_zero {b : List UInt8} {most : Nat} (h : (takeNum b most).2 = 0) : (takeNum b most).1 = 0 := by
  cases b with
  | nil => rfl
  | cons c t =>
    rw [takeNum_cons] at h ⊢
    split
    · rfl
    · rename_i h1
      rw [if_neg h1] at h
      split
      · rfl
      · rename_i h2
        rw [if_neg h2] at h
        simp at h
theorem takeFlag_zero {b : List UInt8} (h : (takeFlagB b).2 = 0) : (takeFlagB b).1 = false := by
  cases b with
  | nil => rfl
  | cons c t =>
    by_cases h1 : 1 < c.toNat
    · show (if 1 < c.toNat then (false, 0) else (c == 1, 1) : Bool × Nat).1 = false
      rw [if_pos h1]
    · have h2 : (if 1 < c.toNat then (false, 0) else (c == 1, 1) : Bool × Nat).2 = 0 := h
      rw [if_neg h1] at h2
      simp at h2
theorem takeText_zero {b : List UInt8} {most : Nat} (h : (takeTextB b most).2 = 0) : (takeTextB b most).1 = [] := by
  unfold takeTextB at h ⊢
  split
  · rfl
  · rename_i h1
    rw [if_neg h1] at h
    simp only at h
    omega
theorem takeVal_zero {b : List UInt8} (h : (takeValB b).2 = 0) : (takeValB b).1 = (0, 0, []) := by
  unfold takeValB takeValC at h ⊢
  split
  · rfl
  · rename_i h1
    rw [if_neg h1] at h
    split
    · rename_i h2
      rw [if_pos h2] at h
      split
      · rfl
      · rename_i h3
        rw [if_neg h3] at h
        simp only at h
        omega
    · rename_i h2
      rw [if_neg h2] at h
      split
      · rfl
      · rename_i h3
        rw [if_neg h3] at h
        simp only at h
        omega
theorem takeWr_zero {b : List UInt8} (h : (takeWrB b).2 = 0) : (takeWrB b).1 = wrNo := by
  by_cases hs : stdW b
  · rw [takeWr_yes hs] at h
    have := hs.2.1
    simp only at h
    omega
  · rw [takeWr_no hs]
theorem takeWrs_zero {b : List UInt8} {most : Nat} (h : (takeWrsB b most).2 = 0) : (takeWrsB b most).1 = [] := by
  by_cases hs : stdWs b most
  · exfalso
    rw [takeWrs_yes hs] at h
    have h1 : (takeNum b most).2 ≠ 0 := hs.1
    have key : ∀ j, (takeNum b most).2 ≤ posWs b most j := by
      intro j
      induction j with
      | zero => exact Nat.le_refl _
      | succ j ih => rw [posWs_succ]; omega
    have := key (takeNum b most).1
    simp only at h
    omega
  · rw [takeWrs_no hs]
theorem takeFlag_le (b : List UInt8) : (takeFlagB b).2 ≤ b.length := by
  cases b with
  | nil => exact Nat.le_refl _
  | cons c t =>
    show (if 1 < c.toNat then (false, 0) else (c == 1, 1) : Bool × Nat).2 ≤ _
    split
    · exact Nat.zero_le _
    · simp
theorem takeWrs_le (b : List UInt8) (most : Nat) : (takeWrsB b most).2 ≤ b.length := by
  by_cases hs : stdWs b most
  · rw [takeWrs_yes hs]
    exact posWs_le b most _
  · rw [takeWrs_no hs]
    exact Nat.zero_le _

theorem numOf_st (b : List UInt8) (most : Nat) : numOf (some b) most = ((takeNum b most).1, stOf b (takeNum b most).2) := by
  unfold numOf stOf
  simp only
  split
  · rename_i h; rw [takeNum_zero h]
  · rfl
theorem intOf_st (b : List UInt8) : intOfR (some b) = (if (takeIntB b).2 = 0 then 0 else (takeIntB b).1, stOf b (takeIntB b).2) := by
  unfold intOfR stOf
  simp only
  split <;> rfl
theorem textOf_st (b : List UInt8) (most : Nat) : textOf (some b) most = ((takeTextB b most).1, stOf b (takeTextB b most).2) := by
  unfold textOf stOf
  simp only
  split
  · rename_i h; rw [takeText_zero h]
  · rfl
theorem flagOf_st (b : List UInt8) : flagOf (some b) = ((takeFlagB b).1, stOf b (takeFlagB b).2) := by
  unfold flagOf stOf
  simp only
  split
  · rename_i h; rw [takeFlag_zero h]
  · rfl
theorem valOf_st (b : List UInt8) : valOf (some b) = ((takeValB b).1, stOf b (takeValB b).2) := by
  unfold valOf stOf
  simp only
  split
  · rename_i h; rw [takeVal_zero h]
  · rfl
theorem wrOf_st (b : List UInt8) : wrOf (some b) = ((takeWrB b).1, stOf b (takeWrB b).2) := by
  unfold wrOf stOf
  simp only
  split
  · rename_i h; rw [takeWr_zero h]
  · rfl
theorem wrsOf_st (b : List UInt8) (most : Nat) : wrsOf (some b) most = ((takeWrsB b most).1, stOf b (takeWrsB b most).2) := by
  unfold wrsOf stOf
  simp only
  split
  · rename_i h; rw [takeWrs_zero h]
  · rfl
/-- What End tells. -/
theorem end_st {b : List UInt8} {k : Nat} (h : k ≤ b.length) : (0 < k ∧ k = b.length ∧ endOf (stOf b k) = 0) ∨ (¬ (0 < k ∧ k = b.length) ∧ endOf (stOf b k) = 2) := by
  unfold stOf
  by_cases h0 : k = 0
  · rw [if_pos h0]
    exact Or.inr ⟨fun e => by omega, rfl⟩
  · rw [if_neg h0]
    by_cases h1 : k = b.length
    · refine Or.inl ⟨by omega, h1, ?_⟩
      rw [h1, List.drop_length]
      rfl
    · refine Or.inr ⟨fun e => h1 e.2, ?_⟩
      cases hd : b.drop k with
      | nil =>
        have := List.length_drop (l := b) (i := k)
        rw [hd] at this
        simp at this
        omega
      | cons x t => rfl

/-- A row of seven readers, of which the first ones are there. -/
def rowP (gs : List Nat) : Array Value := ((gs.map fun g => Value.pointer (some ⟨g, 0, none⟩)) ++ List.replicate (7 - gs.length) (Value.pointer none)).toArray
theorem rowP_nil : rowP [] = #[.pointer none, .pointer none, .pointer none, .pointer none, .pointer none, .pointer none, .pointer none] := rfl
theorem rowP_set {gs : List Nat} (h : gs.length < 7) (g : Nat) : (rowP gs).setIfInBounds gs.length (.pointer (some ⟨g, 0, none⟩)) = rowP (gs ++ [g]) := by
  unfold rowP
  apply Array.ext'
  simp only [Array.toList_setIfInBounds, List.map_append, List.length_append, List.map_cons, List.map_nil, List.length_singleton]
  obtain ⟨d, hd⟩ : ∃ d, 7 - gs.length = d + 1 := ⟨6 - gs.length, by omega⟩
  rw [hd, show 7 - (gs.length + 1) = d by omega, List.set_append_right _ _ (by simp), List.length_map, Nat.sub_self, List.replicate_succ, List.set_cons_zero, List.append_assoc]
  rfl
theorem rowP_at {gs : List Nat} (h : gs.length < 7) : (rowP gs)[gs.length]? = some (.pointer none) := by
  unfold rowP
  rw [List.getElem?_toArray, List.getElem?_append_right (by simp), List.length_map, Nat.sub_self, List.getElem?_replicate, if_pos (by omega)]
theorem grown_setCell (w : World) (a : Addr) (u : Value) : w.grownBy (w.setCell a u) (some a.block) :=
  ⟨rfl, rfl, rfl, by simp, fun k _ hk => Below.heap_setCell w a u k (fun e => hk (by rw [e]))⟩
end Go.Proofs.YtahmjiomkaibgaaDoor
