/-
  WHAT IS PROVED: plain facts on how a line is cut at its blanks. No program. No condition.
-/
import Derived.Lib.Split
import Derived.Lib.IndexBytes
import Derived.Test.YtmilcgikncecnaaDoorLineMath
namespace Go.Proofs.YtmilcgikncecnaaDoor
open Go

/-- What is ahead of the first blank, what is behind it. -/
def cutL : List UInt8 → Option (List UInt8 × List UInt8)
  | [] => none
  | c :: r => if c = 32 then some ([], r) else (cutL r).map fun p => (c :: p.1, p.2)
theorem cutL_some : ∀ {l a b : List UInt8}, cutL l = some (a, b) → l = a ++ 32 :: b ∧ (32 : UInt8) ∉ a
  | [], a, b, h => by simp [cutL] at h
  | c :: r, a, b, h => by
    unfold cutL at h
    by_cases hc : c = 32
    · rw [if_pos hc] at h
      simp only [Option.some.injEq, Prod.mk.injEq] at h
      obtain ⟨rfl, rfl⟩ := h
      exact ⟨by rw [hc]; rfl, by simp⟩
    · rw [if_neg hc] at h
      obtain ⟨⟨a', b'⟩, h1, h2⟩ := Option.map_eq_some_iff.1 h
      simp only [Prod.mk.injEq] at h2
      obtain ⟨rfl, rfl⟩ := h2
      obtain ⟨h3, h4⟩ := cutL_some h1
      refine ⟨by rw [h3]; rfl, ?_⟩
      simp only [List.mem_cons, not_or]
      exact ⟨fun e => hc e.symm, h4⟩
theorem cutL_none : ∀ {l : List UInt8}, cutL l = none → (32 : UInt8) ∉ l
  | [], _ => by simp
  | c :: r, h => by
    unfold cutL at h
    by_cases hc : c = 32
    · rw [if_pos hc] at h
      cases h
    · rw [if_neg hc, Option.map_eq_none_iff] at h
      simp only [List.mem_cons, not_or]
      exact ⟨fun e => hc e.symm, cutL_none h⟩
theorem cutL_app : ∀ (a b : List UInt8), (32 : UInt8) ∉ a → cutL (a ++ 32 :: b) = some (a, b)
  | [], b, _ => by simp [cutL]
  | c :: r, b, h => by
    simp only [List.mem_cons, not_or] at h
    rw [List.cons_append, cutL, if_neg (fun e => h.1 e.symm), cutL_app r b h.2]
    rfl
theorem cutL_of_none : ∀ (a : List UInt8), (32 : UInt8) ∉ a → cutL a = none
  | [], _ => rfl
  | c :: r, h => by
    simp only [List.mem_cons, not_or] at h
    rw [cutL, if_neg (fun e => h.1 e.symm), cutL_of_none r h.2]
    rfl

/-- Cut at the first k blanks at most. -/
def pieces : Nat → List UInt8 → List (List UInt8)
  | 0, l => [l]
  | k + 1, l => match cutL l with
    | none => [l]
    | some p => p.1 :: pieces k p.2
theorem pieces_none (k : Nat) {l : List UInt8} (h : cutL l = none) : pieces k l = [l] := by
  cases k with
  | zero => rfl
  | succ k => rw [pieces, h]
theorem pieces_some (k : Nat) {l a b : List UInt8} (h : cutL l = some (a, b)) : pieces (k + 1) l = a :: pieces k b := by rw [pieces, h]
theorem index_cut : ∀ (l : List UInt8), Lib.indexByte l 32 = (match cutL l with | none => -1 | some p => (p.1.length : Int))
  | [] => rfl
  | c :: r => by
    have ih := index_cut r
    by_cases hc : c = 32
    · subst hc
      simp [cutL, Lib.indexByte]
    · rw [cutL, if_neg hc]
      have e : (c == 32) = false := by simpa using hc
      cases hr : cutL r with
      | none =>
        rw [hr] at ih
        simp only at ih
        simp [Lib.indexByte, hc, ih]
      | some p =>
        rw [hr] at ih
        simp only at ih
        simp [Lib.indexByte, hc, ih]
        try omega
theorem split_pieces : ∀ (k : Nat) (l : List UInt8), Lib.splitK [32] 0 k l = pieces k l
  | 0, _ => rfl
  | k + 1, l => by
    unfold Lib.splitK
    rw [Lib.index_one, index_cut]
    cases h : cutL l with
    | none => rw [pieces_none _ h]; simp
    | some p =>
      obtain ⟨a, b⟩ := p
      obtain ⟨h1, h2⟩ := cutL_some h
      rw [pieces_some k h]
      have h3 : ¬ (((a.length : Nat) : Int) == -1) = true := by simp
      simp only
      rw [if_neg h3, split_pieces k]
      have h4 : ((a.length : Nat) : Int).toNat = a.length := by omega
      rw [h4, h1]
      simp
theorem pieces_more : ∀ (k m : Nat) (l : List UInt8), l.length ≤ k → pieces (k + m) l = pieces k l
  | 0, m, l, h => by
    have : l = [] := List.length_eq_zero_iff.1 (by omega)
    subst this
    rw [pieces_none _ rfl, pieces_none _ rfl]
  | k + 1, m, l, h => by
    cases hc : cutL l with
    | none => rw [pieces_none _ hc, pieces_none _ hc]
    | some p =>
      obtain ⟨a, b⟩ := p
      obtain ⟨h1, _⟩ := cutL_some hc
      have hl : l.length = a.length + (b.length + 1) := by rw [h1]; simp
      rw [show k + 1 + m = k + m + 1 by omega, pieces_some _ hc, pieces_some _ hc, pieces_more k m b (by omega)]
/-- As strings.SplitN counts. -/
theorem pieces_four (l : List UInt8) : pieces (min 5 (l.length + 1) - 1) l = pieces 4 l := by
  by_cases h : 4 ≤ l.length
  · rw [show min 5 (l.length + 1) - 1 = 4 by omega]
  · obtain ⟨m, hm⟩ : ∃ m, 4 = l.length + m := ⟨4 - l.length, by omega⟩
    rw [show min 5 (l.length + 1) - 1 = l.length by omega, hm, pieces_more _ _ _ (Nat.le_refl _)]
theorem pieces_len : ∀ (k : Nat) (l : List UInt8), 1 ≤ (pieces k l).length ∧ (pieces k l).length ≤ k + 1
  | 0, _ => by simp [pieces]
  | k + 1, l => by
    cases h : cutL l with
    | none => rw [pieces_none _ h]; simp
    | some p =>
      have := pieces_len k p.2
      rw [pieces_some k h]
      simp only [List.length_cons]
      omega
theorem pieces_each : ∀ (k : Nat) (l x : List UInt8), x ∈ pieces k l → x.length ≤ l.length
  | 0, l, x, h => by
    simp only [pieces, List.mem_singleton] at h
    rw [h]
    exact Nat.le_refl _
  | k + 1, l, x, h => by
    cases hc : cutL l with
    | none =>
      rw [pieces_none _ hc, List.mem_singleton] at h
      rw [h]
      exact Nat.le_refl _
    | some p =>
      obtain ⟨a, b⟩ := p
      obtain ⟨h1, _⟩ := cutL_some hc
      have hl : l.length = a.length + (b.length + 1) := by rw [h1]; simp
      rw [pieces_some k hc, List.mem_cons] at h
      rcases h with rfl | h
      · omega
      · have := pieces_each k b x h
        omega
end Go.Proofs.YtmilcgikncecnaaDoor
