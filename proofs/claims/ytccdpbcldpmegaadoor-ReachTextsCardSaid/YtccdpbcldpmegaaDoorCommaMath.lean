/-
  WHAT IS PROVED: plain facts on how a text is cut at its commas. No program. No condition.
-/
import Derived.Lib.Split
import Derived.Lib.IndexBytes
import Derived.Test.YtccdpbcldpmegaaDoorReachMath2
namespace Go.Proofs.YtccdpbcldpmegaaDoor
open Go

/-- What is ahead of the first comma, what is behind it. -/
def cutC : List UInt8 → Option (List UInt8 × List UInt8)
  | [] => none
  | c :: r => if c = 44 then some ([], r) else (cutC r).map fun p => (c :: p.1, p.2)
theorem cutC_some : ∀ {l a b : List UInt8}, cutC l = some (a, b) → l = a ++ 44 :: b ∧ (44 : UInt8) ∉ a
  | [], a, b, h => by simp [cutC] at h
  | c :: r, a, b, h => by
    unfold cutC at h
    by_cases hc : c = 44
    · rw [if_pos hc] at h
      simp only [Option.some.injEq, Prod.mk.injEq] at h
      obtain ⟨rfl, rfl⟩ := h
      exact ⟨by rw [hc]; rfl, by simp⟩
    · rw [if_neg hc] at h
      obtain ⟨⟨a', b'⟩, h1, h2⟩ := Option.map_eq_some_iff.1 h
      simp only [Prod.mk.injEq] at h2
      obtain ⟨rfl, rfl⟩ := h2
      obtain ⟨h3, h4⟩ := cutC_some h1
      refine ⟨by rw [h3]; rfl, ?_⟩
      simp only [List.mem_cons, not_or]
      exact ⟨fun e => hc e.symm, h4⟩
theorem cutC_none : ∀ {l : List UInt8}, cutC l = none → (44 : UInt8) ∉ l
  | [], _ => by simp
  | c :: r, h => by
    unfold cutC at h
    by_cases hc : c = 44
    · rw [if_pos hc] at h
      cases h
    · rw [if_neg hc, Option.map_eq_none_iff] at h
      simp only [List.mem_cons, not_or]
      exact ⟨fun e => hc e.symm, cutC_none h⟩
theorem cutC_app : ∀ (a b : List UInt8), (44 : UInt8) ∉ a → cutC (a ++ 44 :: b) = some (a, b)
  | [], b, _ => by simp [cutC]
  | c :: r, b, h => by
    simp only [List.mem_cons, not_or] at h
    rw [List.cons_append, cutC, if_neg (fun e => h.1 e.symm), cutC_app r b h.2]
    rfl
theorem cutC_of_none : ∀ (a : List UInt8), (44 : UInt8) ∉ a → cutC a = none
  | [], _ => rfl
  | c :: r, h => by
    simp only [List.mem_cons, not_or] at h
    rw [cutC, if_neg (fun e => h.1 e.symm), cutC_of_none r h.2]
    rfl

/-- Cut at the first k commas at most. -/
def pieceC : Nat → List UInt8 → List (List UInt8)
  | 0, l => [l]
  | k + 1, l => match cutC l with
    | none => [l]
    | some p => p.1 :: pieceC k p.2
theorem pieceC_none (k : Nat) {l : List UInt8} (h : cutC l = none) : pieceC k l = [l] := by
  cases k with
  | zero => rfl
  | succ k => rw [pieceC, h]
theorem pieceC_some (k : Nat) {l a b : List UInt8} (h : cutC l = some (a, b)) : pieceC (k + 1) l = a :: pieceC k b := by rw [pieceC, h]
theorem index_cutC : ∀ (l : List UInt8), Lib.indexByte l 44 = (match cutC l with | none => -1 | some p => (p.1.length : Int))
  | [] => rfl
  | c :: r => by
    have ih := index_cutC r
    by_cases hc : c = 44
    · subst hc
      simp [cutC, Lib.indexByte]
    · rw [cutC, if_neg hc]
      have e : (c == 44) = false := by simpa using hc
      cases hr : cutC r with
      | none =>
        rw [hr] at ih
        simp only at ih
        simp [Lib.indexByte, hc, ih]
      | some p =>
        rw [hr] at ih
        simp only at ih
        simp [Lib.indexByte, hc, ih]
        try omega
theorem split_pieceC : ∀ (k : Nat) (l : List UInt8), Lib.splitK [44] 0 k l = pieceC k l
  | 0, _ => rfl
  | k + 1, l => by
    unfold Lib.splitK
    rw [Lib.index_one, index_cutC]
    cases h : cutC l with
    | none => rw [pieceC_none _ h]; simp
    | some p =>
      obtain ⟨a, b⟩ := p
      obtain ⟨h1, h2⟩ := cutC_some h
      rw [pieceC_some k h]
      have h3 : ¬ (((a.length : Nat) : Int) == -1) = true := by simp
      simp only
      rw [if_neg h3, split_pieceC k]
      have h4 : ((a.length : Nat) : Int).toNat = a.length := by omega
      rw [h4, h1]
      simp
theorem pieceC_more : ∀ (k m : Nat) (l : List UInt8), l.length ≤ k → pieceC (k + m) l = pieceC k l
  | 0, m, l, h => by
    have : l = [] := List.length_eq_zero_iff.1 (by omega)
    subst this
    rw [pieceC_none _ rfl, pieceC_none _ rfl]
  | k + 1, m, l, h => by
    cases hc : cutC l with
    | none => rw [pieceC_none _ hc, pieceC_none _ hc]
    | some p =>
      obtain ⟨a, b⟩ := p
      obtain ⟨h1, _⟩ := cutC_some hc
      have hl : l.length = a.length + (b.length + 1) := by rw [h1]; simp
      rw [show k + 1 + m = k + m + 1 by omega, pieceC_some _ hc, pieceC_some _ hc, pieceC_more k m b (by omega)]
/-- As strings.SplitN counts. -/
theorem pieceC_six (l : List UInt8) : pieceC (min 7 (l.length + 1) - 1) l = pieceC 6 l := by
  by_cases h : 6 ≤ l.length
  · rw [show min 7 (l.length + 1) - 1 = 6 by omega]
  · obtain ⟨m, hm⟩ : ∃ m, 6 = l.length + m := ⟨6 - l.length, by omega⟩
    rw [show min 7 (l.length + 1) - 1 = l.length by omega, hm, pieceC_more _ _ _ (Nat.le_refl _)]
theorem pieceC_len : ∀ (k : Nat) (l : List UInt8), 1 ≤ (pieceC k l).length ∧ (pieceC k l).length ≤ k + 1
  | 0, _ => by simp [pieceC]
  | k + 1, l => by
    cases h : cutC l with
    | none => rw [pieceC_none _ h]; simp
    | some p =>
      have := pieceC_len k p.2
      rw [pieceC_some k h]
      simp only [List.length_cons]
      omega
theorem pieceC_each : ∀ (k : Nat) (l x : List UInt8), x ∈ pieceC k l → x.length ≤ l.length
  | 0, l, x, h => by
    simp only [pieceC, List.mem_singleton] at h
    rw [h]
    exact Nat.le_refl _
  | k + 1, l, x, h => by
    cases hc : cutC l with
    | none =>
      rw [pieceC_none _ hc, List.mem_singleton] at h
      rw [h]
      exact Nat.le_refl _
    | some p =>
      obtain ⟨a, b⟩ := p
      obtain ⟨h1, _⟩ := cutC_some hc
      have hl : l.length = a.length + (b.length + 1) := by rw [h1]; simp
      rw [pieceC_some k hc, List.mem_cons] at h
      rcases h with rfl | h
      · omega
      · have := pieceC_each k b x h
        omega
/-- Where there are few pieces, all are cut. -/
theorem pieceC_commas : ∀ (k : Nat) (l : List UInt8), (commas l).length ≤ k + 1 → pieceC k l = commas l
  | 0, l, h => by
    cases hc : cutC l with
    | none => exact (commas_plain l fun c hm e => cutC_none hc (e ▸ hm)).symm
    | some p =>
      obtain ⟨a, b⟩ := p
      obtain ⟨h1, h2⟩ := cutC_some hc
      rw [h1, commas_app a b fun c hm e => h2 (e ▸ hm), List.length_cons] at h
      have := List.length_pos_iff.2 (commas_ne b)
      omega
  | k + 1, l, h => by
    cases hc : cutC l with
    | none =>
      rw [pieceC_none _ hc]
      exact (commas_plain l fun c hm e => cutC_none hc (e ▸ hm)).symm
    | some p =>
      obtain ⟨a, b⟩ := p
      obtain ⟨h1, h2⟩ := cutC_some hc
      have hca : commas l = a :: commas b := by rw [h1]; exact commas_app a b fun c hm e => h2 (e ▸ hm)
      rw [hca, List.length_cons] at h
      rw [pieceC_some k hc, pieceC_commas k b (by omega), hca]
/-- The star stands for the empty one. -/
def unstar (p : List UInt8) : List UInt8 := if p = [42] then [] else p
/-- What is read of a text, whatever it is. -/
def parseL (s : List UInt8) : List (List UInt8) := if s = [33] then [] else (pieceC 6 s).map unstar
theorem unstar_len (p : List UInt8) : (unstar p).length ≤ p.length := by
  unfold unstar
  split
  · exact Nat.zero_le _
  · exact Nat.le_refl _
theorem parseL_text {s : List UInt8} {R : List (List UInt8)} (h : readR s = some R) : parseL s = R := by
  obtain ⟨ht, hg⟩ := text_read h
  unfold parseL
  by_cases h1 : s = [33]
  · rw [if_pos h1]
    subst h1
    have e : readR [33] = some [] := rfl
    rw [e] at h
    injection h
  · rw [if_neg h1]
    have h0 : R ≠ [] := by
      rintro rfl
      exact h1 ht.symm
    by_cases h2 : s = [42]
    · subst h2
      have e : readR [42] = some [[]] := rfl
      rw [e] at h
      injection h
    · have hj : joinC R = s := by
        unfold textR at ht
        rw [if_neg h0] at ht
        by_cases hj : joinC R = []
        · rw [if_pos hj] at ht
          exact absurd ht.symm h2
        · rwa [if_neg hj] at ht
      have hc : commas s = R := by
        rw [← hj]
        exact commas_joinC R h0 fun x hx => preB_no44 (goodR_pre hg hx)
      rw [pieceC_commas 6 s (by rw [hc]; have := (goodR_iff.1 hg).2; omega), hc]
      conv => rhs; rw [← List.map_id R]
      apply List.map_congr_left
      intro x hx
      refine if_neg ?_
      rintro rfl
      have hp := goodR_pre hg hx
      revert hp
      decide
/-- A text is read as its pieces, if these are a reach whose text it is. -/
theorem readR_parse (s : List UInt8) : readR s = if goodR (parseL s) = true ∧ textR (parseL s) = s then some (parseL s) else none := by
  by_cases h : goodR (parseL s) = true ∧ textR (parseL s) = s
  · rw [if_pos h]
    have := read_text h.1
    rwa [h.2] at this
  · rw [if_neg h]
    cases hr : readR s with
    | none => rfl
    | some R =>
      exfalso
      obtain ⟨ht, hg⟩ := text_read hr
      rw [parseL_text hr] at h
      exact h ⟨hg, ht⟩
end Go.Proofs.YtccdpbcldpmegaaDoor
