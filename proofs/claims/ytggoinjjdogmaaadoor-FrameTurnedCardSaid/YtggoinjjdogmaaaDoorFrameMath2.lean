/-
  WHAT IS PROVED: plain facts: a frame of which one byte is another one isn't opened.
-/
import Derived.Test.YtggoinjjdogmaaaDoorFrameMath
namespace Go.Proofs.YtggoinjjdogmaaaDoor
open Go.RowKit

theorem ofNat_inj {x y : Nat} (hx : x < 256) (hy : y < 256) (h : UInt8.ofNat x = UInt8.ofNat y) : x = y := by
  have := congrArg UInt8.toNat h
  rw [UInt8.toNat_ofNat', UInt8.toNat_ofNat'] at this
  omega
theorem fourB_inj {c d : Nat} (hc : c < 4294967296) (hd : d < 4294967296) (h : fourB c = fourB d) : c = d := by
  unfold fourB at h
  simp only [List.cons.injEq, and_true] at h
  obtain ⟨h1, h2, h3, h4⟩ := h
  have e1 := ofNat_inj (by omega) (by omega) h1
  have e2 := ofNat_inj (by omega) (by omega) h2
  have e3 := ofNat_inj (by omega) (by omega) h3
  have e4 := ofNat_inj (by omega) (by omega) h4
  omega
/-- What Open answers: a piece, or a wrong and nothing inside. -/
theorem open_ways (x : List UInt8) : (∃ k b, openF x = (k, b, 0)) ∨ ((openF x).2.1 = [] ∧ ((openF x).2.2 = 2 ∨ (openF x).2.2 = 4)) := by
  unfold openF
  split
  · exact Or.inr ⟨rfl, Or.inl rfl⟩
  · unfold takeF
    split
    · exact Or.inr ⟨rfl, Or.inl rfl⟩
    · split
      · exact Or.inr ⟨rfl, Or.inl rfl⟩
      · split
        · exact Or.inr ⟨rfl, Or.inr rfl⟩
        · exact Or.inl ⟨_, _, rfl⟩
theorem body_inj {k k' : UInt8} {b b' : List UInt8} (h : bodyL k b = bodyL k' b') : k = k' ∧ b = b' := by
  unfold bodyL at h
  simp only [List.cons_append, List.nil_append, List.cons.injEq] at h
  exact ⟨h.2.1, h.2.2.2.2.2⟩
/-- One byte is another one. -/
theorem open_turned {k : UInt8} {b : List UInt8} (_h : b.length ≤ 100000) {j : Nat} {c : UInt8} (hj : j < b.length + 9) (hc : (sealL k b)[j]? ≠ some c) :
    (openF ((sealL k b).set j c)).2.1 = [] ∧ ((openF ((sealL k b).set j c)).2.2 = 2 ∨ (openF ((sealL k b).set j c)).2.2 = 4) := by
  rcases open_ways ((sealL k b).set j c) with ⟨k', b', e⟩ | e
  · exfalso
    obtain ⟨hx, hl⟩ := open_is e
    have hlen : b'.length = b.length := by
      have := congrArg List.length hx
      rw [List.length_set, sealL_len, sealL_len] at this
      omega
    have hbl := bodyL_len k b
    have hbl' := bodyL_len k' b'
    unfold sealL at hx hc
    by_cases hjb : j < b.length + 5
    · rw [List.set_append_left _ _ (by omega)] at hx
      have h1 := List.append_inj_left hx (by rw [List.length_set]; omega)
      have h2 := List.append_inj_right hx (by rw [List.length_set]; omega)
      have h3 := fourB_inj (crcL_lt _) (crcL_lt _) h2
      rw [← h1] at h3
      rw [List.getElem?_append_left (by omega)] at hc
      have hjl : j < (bodyL k b).length := by omega
      have hd : bodyL k b = (bodyL k b).take j ++ (bodyL k b)[j] :: (bodyL k b).drop (j + 1) := by
        rw [← List.drop_eq_getElem_cons hjl, List.take_append_drop]
      have hs : (bodyL k b).set j c = (bodyL k b).take j ++ c :: (bodyL k b).drop (j + 1) := List.set_eq_take_append_cons_drop.trans (if_pos hjl)
      rw [hs] at h3
      rw [List.getElem?_eq_getElem hjl] at hc
      generalize (bodyL k b)[j] = old at hd hc
      have h4 : crcL ((bodyL k b).take j ++ old :: (bodyL k b).drop (j + 1)) = crcL ((bodyL k b).take j ++ c :: (bodyL k b).drop (j + 1)) := by
        rw [← hd]
        exact h3
      have h5 := crcL_one h4
      exact hc (by rw [h5])
    · rw [List.set_append_right _ _ (by omega)] at hx
      have h1 := List.append_inj_left hx (by omega)
      have h2 := List.append_inj_right hx (by omega)
      rw [← h1] at h2
      rw [List.getElem?_append_right (by omega)] at hc
      have hf : (fourB (crcL (bodyL k b))).length = 4 := rfl
      have h6 : ((fourB (crcL (bodyL k b))).set (j - (bodyL k b).length) c)[j - (bodyL k b).length]? = some c := by
        rw [List.getElem?_set_self (by omega)]
      rw [h2] at h6
      exact hc h6
  · exact e
end Go.Proofs.YtggoinjjdogmaaaDoor
