/-
  WHAT IS PROVED: plain facts: what frames one behind the other are of (a relation, and that it tells its answers); frames that were sealed, one behind the other, the last one torn or whole.
-/
import Derived.Test.YtggoinjjdogmaaaDoorFrameRef
namespace Go.Proofs.YtggoinjjdogmaaaDoor

/-- A kind, and bytes. -/
abbrev Pc := UInt8 × List UInt8
/-- Bytes, what the frames at their beginning are of, how many bytes these have, what is wrong with the first that is none. -/
inductive ScanR : List UInt8 → List Pc → Nat → Nat → Prop
  | done : ScanR [] [] 0 0
  | stop {b : List UInt8} (hb : b ≠ []) (h : (takeF b).2.2.2 ≠ 0) : ScanR b [] 0 (takeF b).2.2.2
  | more {b : List UInt8} {l : List Pc} {m code : Nat} (hb : b ≠ []) (h : (takeF b).2.2.2 = 0) (k : ScanR (b.drop (takeF b).2.2.1) l m code) : ScanR b (((takeF b).1, (takeF b).2.1) :: l) ((takeF b).2.2.1 + m) code
theorem ScanR.det {b : List UInt8} {l : List Pc} {m code : Nat} (h : ScanR b l m code) : ∀ {l' : List Pc} {m' code' : Nat}, ScanR b l' m' code' → l = l' ∧ m = m' ∧ code = code' := by
  induction h with
  | done =>
    intro l' m' code' k
    cases k with
    | done => exact ⟨rfl, rfl, rfl⟩
    | stop hb _ => exact absurd rfl hb
    | more hb _ _ => exact absurd rfl hb
  | stop hb h =>
    intro l' m' code' k
    cases k with
    | done => exact absurd rfl hb
    | stop _ _ => exact ⟨rfl, rfl, rfl⟩
    | more _ h2 _ => exact absurd h2 h
  | more hb h _ ih =>
    intro l' m' code' k
    cases k with
    | done => exact absurd rfl hb
    | stop _ h2 => exact absurd h h2
    | more _ _ k2 =>
      obtain ⟨e1, e2, e3⟩ := ih k2
      exact ⟨by rw [e1], by rw [e2], e3⟩
/-- One step. -/
theorem ScanR.step {b : List UInt8} {l : List Pc} {m code : Nat} (h : ScanR b l m code) : (b = [] ∧ l = [] ∧ m = 0 ∧ code = 0) ∨ (b ≠ [] ∧ (takeF b).2.2.2 ≠ 0 ∧ l = [] ∧ m = 0 ∧ code = (takeF b).2.2.2) ∨
    (b ≠ [] ∧ (takeF b).2.2.2 = 0 ∧ ∃ l' m', l = ((takeF b).1, (takeF b).2.1) :: l' ∧ m = (takeF b).2.2.1 + m' ∧ ScanR (b.drop (takeF b).2.2.1) l' m' code) := by
  cases h with
  | done => exact .inl ⟨rfl, rfl, rfl, rfl⟩
  | stop hb h => exact .inr (.inl ⟨hb, h, rfl, rfl, rfl⟩)
  | more hb h k => exact .inr (.inr ⟨hb, h, _, _, rfl, rfl, k⟩)
/-- What is taken is in the bytes. -/
theorem takeF_fits {b : List UInt8} (h : (takeF b).2.2.2 = 0) : 9 ≤ (takeF b).2.2.1 ∧ (takeF b).2.2.1 ≤ b.length ∧ (takeF b).2.1.length + 9 = (takeF b).2.2.1 := by
  unfold takeF at h ⊢
  by_cases h1 : b.length < 9 ∨ byteAt b 0 ≠ 229
  · rw [if_pos h1] at h
    simp at h
  · rw [if_neg h1] at h ⊢
    by_cases h2 : 100000 < lenF b ∨ b.length < lenF b + 9
    · rw [if_pos h2] at h
      simp at h
    · rw [if_neg h2] at h ⊢
      split at h
      · simp at h
      · rename_i h3
        rw [if_neg h3]
        simp only [List.length_take, List.length_drop]
        omega
theorem ScanR.le {b : List UInt8} {l : List Pc} {m code : Nat} (h : ScanR b l m code) : m ≤ b.length ∧ l.length * 9 ≤ b.length ∧ code ≤ 4 := by
  induction h with
  | done => exact ⟨by simp, by simp, by omega⟩
  | @stop b hb h =>
    refine ⟨by simp, by simp, ?_⟩
    unfold takeF
    split
    · show 2 ≤ 4; omega
    · split
      · show 2 ≤ 4; omega
      · split
        · show 4 ≤ 4; omega
        · show 0 ≤ 4; omega
  | more hb h _ ih =>
    have := takeF_fits h
    rw [List.length_drop] at ih
    simp only [List.length_cons]
    omega
end Go.Proofs.YtggoinjjdogmaaaDoor
