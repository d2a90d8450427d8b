/-
  WHAT IS PROVED: an argument that is a slice of whole numbers: opened (own work, over any program that bears the types named).
-/
import Derived.Test.YtkfhkfddhijkcaaPostB
import Derived.Test.YtkfhkfddhijkcaaWxC
import Derived.Lib.SmallJoins
import Derived.Deep.Slices
namespace Go.Proofs.Ytkfhkfddhijkcaa
open Go.RowKit Go.WideShapes Go.ChangeShapes

section
open Go.Joins Go.Deep
variable {H : Type} {enc : TypeId × Value → H}
theorem cellsI1c : Try.prog.cellsOf 3 = 1 := by kernel_rfl
set_option maxRecDepth 100000 in
theorem open_intl {t : TypeId} (ht : Try.prog.underlying t = some (.slice 3)) {W : World} {r : Reach} {b0 : Nat} {v : Value} {d : DataW H} {p : List MemPlace} (hv : Value.okWide Try.prog W r b0 t v) (h : DataW.Trod enc Try.prog W 0 (fun _ => true) true t v d p) :
    ∃ (A : Option Addr) (n c : Nat) (l : List Int), v = .slice A n c ∧ l.length = n ∧ RdI W.heap.size W A l ∧ n ≤ maxLen ∧ n ≤ c ∧ ∀ x, x ∈ l → -9223372036854775808 ≤ x ∧ x ≤ 9223372036854775807 := by
  obtain ⟨A, n, c, rfl⟩ := okWide_slice ht hv
  obtain ⟨fuel, hf⟩ := h
  rcases open_ints ht Try.underlying3 cellsI1c hf with ⟨hcs, _⟩ | ⟨a, n', c', zs, hcs, _, hl, hm, hmm, _, hcell, hwf⟩
  · simp [Value.cells] at hcs
    obtain ⟨rfl, rfl, rfl⟩ := hcs
    exact ⟨none, 0, 0, [], rfl, rfl, RdI.nil _ _ _, Nat.zero_le _, Nat.le_refl _, fun x hx => by simp at hx⟩
  · simp [Value.cells] at hcs
    obtain ⟨rfl, rfl, rfl⟩ := hcs
    have hle : n ≤ zs.length := by rw [hmm]; simp; omega
    refine ⟨some a, n, c, zs.take n, rfl, by rw [List.length_take]; omega, fun k x hx => ?_, by omega, by omega, fun x hx => ?_⟩
    · have hk : k < n := by
        have := (List.getElem?_eq_some_iff.1 hx).1
        rw [List.length_take] at this
        omega
      have hkz : k < zs.length := by omega
      have hc := hcell k hkz
      have e : zs.getD k 0 = zs[k] := by rw [List.getD_eq_getElem?_getD, List.getElem?_eq_getElem hkz]; rfl
      rw [List.getElem?_take, if_pos hk, List.getElem?_eq_getElem hkz] at hx
      injection hx with hx
      subst hx
      have hb := World.block_lt_of_cell? W _ hc
      rw [add_block] at hb
      exact ⟨a, rfl, hb, by rw [hc, e]⟩
    · exact wf_i64 (hwf x (List.mem_of_mem_take hx))
end
end Go.Proofs.Ytkfhkfddhijkcaa
