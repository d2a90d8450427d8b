/-
  WHAT IS PROVED: plain facts: a frame is opened again; one of which one byte is another isn't; nor one with a byte more or fewer.
-/
import Derived.Test.YtggoinjjdogmaaaDoorFrameIface
namespace Go.Proofs.YtggoinjjdogmaaaDoor
open Go.RowKit

theorem sealL_eq (k : UInt8) (b : List UInt8) : sealL k b = 229 :: k :: UInt8.ofNat (b.length / 65536) :: UInt8.ofNat (b.length / 256 % 256) :: UInt8.ofNat (b.length % 256) :: (b ++ fourB (crcL (bodyL k b))) := by
  unfold sealL bodyL
  simp
theorem lenF_seal (k : UInt8) (b r : List UInt8) (h : b.length ≤ 100000) : lenF (sealL k b ++ r) = b.length := by
  rw [sealL_eq]
  show 65536 * (UInt8.ofNat (b.length / 65536)).toNat + 256 * (UInt8.ofNat (b.length / 256 % 256)).toNat + (UInt8.ofNat (b.length % 256)).toNat = b.length
  rw [UInt8.toNat_ofNat', UInt8.toNat_ofNat', UInt8.toNat_ofNat']
  omega
/-- A frame, whatever stands behind it, is taken. -/
theorem take_seal (k : UInt8) (b r : List UInt8) (h : b.length ≤ 100000) : takeF (sealL k b ++ r) = (k, b, b.length + 9, 0) := by
  have hl := sealL_len k b
  have h0 : byteAt (sealL k b ++ r) 0 = 229 := by rw [sealL_eq]; rfl
  have h1 : byteAt (sealL k b ++ r) 1 = k := by rw [sealL_eq]; rfl
  have hd : ((sealL k b ++ r).drop 5).take b.length = b := by
    rw [sealL_eq]
    show ((b ++ fourB (crcL (bodyL k b))) ++ r).take b.length = b
    rw [List.append_assoc, List.take_left]
  have ht : (sealL k b ++ r).take (b.length + 9) = sealL k b := by
    rw [show b.length + 9 = (sealL k b).length by omega, List.take_left]
  unfold takeF
  rw [if_neg, if_neg, lenF_seal k b r h, if_neg, h1, hd]
  · rw [h1, hd, ht]
    exact fun e => e rfl
  · rw [lenF_seal k b r h, List.length_append, hl]
    omega
  · rw [h0, List.length_append, hl]
    simp
    omega
theorem open_seal (k : UInt8) (b : List UInt8) (h : b.length ≤ 100000) : openF (sealL k b) = (k, b, 0) := by
  have ht := take_seal k b [] h
  rw [List.append_nil] at ht
  unfold openF
  rw [ht, sealL_len]
  simp only
  rw [if_neg (by omega)]
/-- With bytes more. -/
theorem open_more (k : UInt8) (b r : List UInt8) (h : b.length ≤ 100000) (hr : r ≠ []) : openF (sealL k b ++ r) = (0, [], 2) := by
  have h1 : 0 < r.length := List.length_pos_iff.2 hr
  unfold openF
  rw [take_seal k b r h, List.length_append, sealL_len]
  simp only
  rw [if_pos (by omega)]
/-- How long what is taken is. -/
theorem takeF_size {b : List UInt8} (h : (takeF b).2.2.1 ≠ 0) : 9 ≤ b.length ∧ byteAt b 0 = 229 ∧ lenF b ≤ 100000 ∧ lenF b + 9 ≤ b.length ∧ (takeF b).2.2.1 = lenF b + 9 := by
  unfold takeF at h ⊢
  by_cases h1 : b.length < 9 ∨ byteAt b 0 ≠ 229
  · rw [if_pos h1] at h
    exact absurd rfl h
  · rw [if_neg h1] at h ⊢
    by_cases h2 : 100000 < lenF b ∨ b.length < lenF b + 9
    · rw [if_pos h2] at h
      exact absurd rfl h
    · rw [if_neg h2]
      have h3 : byteAt b 0 = 229 := Classical.byContradiction fun e => h1 (Or.inr e)
      refine ⟨by omega, h3, by omega, by omega, ?_⟩
      split <;> rfl
/-- What is opened is a frame. -/
theorem open_is {x : List UInt8} {k : UInt8} {b : List UInt8} (h : openF x = (k, b, 0)) : x = sealL k b ∧ b.length ≤ 100000 := by
  unfold openF at h
  by_cases h1 : (takeF x).2.2.1 ≠ x.length ∨ (takeF x).2.2.1 = 0
  · rw [if_pos h1] at h
    simp at h
  · rw [if_neg h1] at h
    have hne : (takeF x).2.2.1 ≠ 0 := fun e => h1 (Or.inr e)
    have hsz : (takeF x).2.2.1 = x.length := Classical.byContradiction fun e => h1 (Or.inl e)
    obtain ⟨q1, q2, q3, q4, q5⟩ := takeF_size hne
    have hcode : (takeF x).2.2.2 = 0 := congrArg (fun p => p.2.2) h
    have hk : (takeF x).1 = k := congrArg (fun p => p.1) h
    have hb : (takeF x).2.1 = b := congrArg (fun p => p.2.1) h
    unfold takeF at hcode hk hb
    rw [if_neg (by rw [q2]; simp; omega), if_neg (by omega)] at hcode hk hb
    by_cases h3 : sealL (byteAt x 1) ((x.drop 5).take (lenF x)) ≠ x.take (lenF x + 9)
    · rw [if_pos h3] at hcode
      simp at hcode
    · rw [if_neg h3] at hk hb
      simp only at hk hb
      have h4 : sealL (byteAt x 1) ((x.drop 5).take (lenF x)) = x.take (lenF x + 9) := Classical.byContradiction h3
      rw [hk, hb, List.take_of_length_le (by omega)] at h4
      refine ⟨h4.symm, ?_⟩
      rw [← hb, List.length_take]
      omega
end Go.Proofs.YtggoinjjdogmaaaDoor
