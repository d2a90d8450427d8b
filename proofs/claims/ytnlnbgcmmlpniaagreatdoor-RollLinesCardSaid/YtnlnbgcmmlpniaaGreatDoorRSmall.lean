/-
  WHAT IS PROVED: how many bytes cells and lines come to (own work: plain facts), and words on strings of bytes.
-/
import Derived.Test.YtnlnbgcmmlpniaaGreatDoorM8
import Derived.Test.YtnlnbgcmmlpniaaGreatDoorM0
namespace Go.Proofs.YtnlnbgcmmlpniaaGreatDoor
open Go.RowKit

theorem text_most {s : ByteArray} (h : s.size ≤ 100) : (textB s.data.toList).length ≤ 109 := by
  have hl : s.data.toList.length = s.size := Array.length_toList
  have := numB_small (n := s.size) (by omega)
  unfold textB
  rw [List.length_append, hl]
  omega
theorem val_most {k n : Int} {s : ByteArray} (hk : k = 0 ∨ k = 1 ∨ k = 2) (h0 : -9223372036854775808 ≤ n) (h1 : n ≤ 9223372036854775807) (hs : s.size ≤ 100) : (valB k n s.data.toList).length ≤ 118 := by
  rcases hk with rfl | rfl | rfl
  · rw [valB_0]
    have := numB_small (n := 0) (by omega)
    omega
  · rw [valB_1, List.length_append]
    have := numB_small (n := 1) (by omega)
    have := numB_small (zig_lt h0 h1)
    omega
  · rw [valB_2, List.length_append]
    have := numB_small (n := 2) (by omega)
    have := text_most hs
    omega
theorem clB_most {c : Cl} (h : c.good = true) (hf : c.fits) : (clB c).length ≤ 300 := by
  obtain ⟨h1, h2, h3, h4, h5⟩ := cl_in h
  have a := text_most (s := c.ky) (by omega)
  have b := val_most (s := c.s) (goodB_in h5).1 hf.2.2.1 hf.2.2.2 (by omega)
  unfold clB
  rw [List.length_append]
  omega
theorem flat_most {α : Type} {E : α → List UInt8} {m : Nat} : ∀ (l : List α), (∀ x, x ∈ l → (E x).length ≤ m) → (l.flatMap E).length ≤ l.length * m
  | [], _ => by simp
  | x :: t, h => by
    have h1 := h x (List.mem_cons_self ..)
    have h2 := flat_most t fun y hy => h y (List.mem_cons_of_mem _ hy)
    rw [List.flatMap_cons, List.length_append, List.length_cons, Nat.succ_mul]
    omega
/-- A byte ahead of bytes, as strings. -/
theorem cat_one (b : UInt8) (m : List UInt8) (hm : m.length ≤ 90000) : ∃ sa sb : ByteArray, (⟨([b] ++ m).toArray⟩ : ByteArray) = sa ∧ (⟨m.toArray⟩ : ByteArray) = sb ∧ Op.stringOp .add ⟨#[b]⟩ sb = pure (.string ((⟨#[b]⟩ : ByteArray) ++ sb)) ∧ (sa.toList == ((⟨#[b]⟩ : ByteArray) ++ sb).toList) = true :=
  ⟨_, _, rfl, rfl, str_add' (by show (1 : Nat) ≤ _; omega) (by show m.toArray.size ≤ _; rw [List.size_toArray]; omega), by
    rw [ByteArray.toList_eq, ByteArray.toList_eq]
    simp⟩
theorem end_cases {bh : List UInt8} {m : Nat} (h : bh.length = m) : (endOf (some bh) = 0 ∧ m = 0) ∨ (endOf (some bh) = 2 ∧ m ≠ 0) := by
  subst h
  cases bh with
  | nil => exact .inl ⟨rfl, rfl⟩
  | cons => exact .inr ⟨rfl, by simp⟩
end Go.Proofs.YtnlnbgcmmlpniaaGreatDoor
