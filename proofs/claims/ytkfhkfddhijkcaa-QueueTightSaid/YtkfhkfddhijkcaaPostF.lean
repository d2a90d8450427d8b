/-
  WHAT IS PROVED: an argument that is a byte, or a slice of slices of bytes, opened (own work, over any program that bears the types named).
-/
import Derived.Test.YtkfhkfddhijkcaaGQ0
import Derived.Test.YtkfhkfddhijkcaaGQ3
import Derived.Deep.Slices
namespace Go.Proofs.Ytkfhkfddhijkcaa
open Go.RowKit Go.WideShapes Go.ChangeShapes

section
open Go.Deep
variable {H : Type} {enc : TypeId × Value → H}
/-- An argument that is a byte, opened. -/
theorem open_u8 {P : Program} {t : TypeId} (ht : P.underlying t = some (.int .u8)) {W : World} {base : Nat} {spare : Nat → Bool} {held : Bool} {r : Reach} {b0 : Nat} {v : Value} {d : DataW H} {p : List MemPlace} (hv : Value.okWide P W r b0 t v) (h : DataW.Trod enc P W base spare held t v d p) :
    ∃ x : UInt8, v = .int .u8 (x.toNat : Int) := by
  obtain ⟨n, rfl, _, _, hw⟩ := open_int ht hv h
  exact ⟨UInt8.ofNat n.toNat, by rw [← wf_u8 hw]⟩
theorem cellsSl : Try.prog.cellsOf 105 = 1 := by kernel_rfl
/-- A cell that reads as bytes. -/
theorem rd_bytl {t : TypeId} (ht : Try.prog.underlying t = some (.slice 5)) {W : World} {fuel : Nat} {cs : List Value} {y : DataW H × List MemPlace} (h : DataW.trod enc Try.prog W 0 (fun _ => true) true fuel t cs = some y) :
    ∃ (A : Option Addr) (n c : Nat) (l : List UInt8), cs = [.slice A n c] ∧ l.length = n ∧ RdB W.heap.size W A l ∧ n ≤ c := by
  rcases open_ints ht Try.underlying5 cellsB1 h with ⟨hcs, _⟩ | ⟨a, n, c, zs, hcs, _, hl, hm, hmm, _, hcell, hwf⟩
  · exact ⟨none, 0, 0, [], hcs, rfl, RdB.nil _ _ _, Nat.le_refl _⟩
  · have hle : n ≤ zs.length := by rw [hmm]; simp; omega
    refine ⟨some a, n, c, (zs.take n).map (fun z => UInt8.ofNat z.toNat), hcs, by rw [List.length_map, List.length_take]; omega, fun k x hx => ?_, hl⟩
    have hk : k < n := by
      have := (List.getElem?_eq_some_iff.1 hx).1
      rw [List.length_map, List.length_take] at this
      omega
    have hkz : k < zs.length := by omega
    have hc := hcell k hkz
    have e : zs.getD k 0 = zs[k] := by rw [List.getD_eq_getElem?_getD, List.getElem?_eq_getElem hkz]; rfl
    rw [List.getElem?_map, List.getElem?_take, if_pos hk, List.getElem?_eq_getElem hkz] at hx
    injection hx with hx
    subst hx
    have hb := World.block_lt_of_cell? W _ hc
    rw [add_block] at hb
    refine ⟨a, rfl, hb, ?_⟩
    rw [hc, e]
    have := wf_u8 (hwf zs[k] (List.getElem_mem hkz))
    rw [← this]
set_option maxRecDepth 100000 in
/-- An argument that is a slice of slices of bytes, opened. -/
theorem open_rows {t : TypeId} (ht : Try.prog.underlying t = some (.slice 105)) {W : World} {r : Reach} {b0 : Nat} {v : Value} {d : DataW H} {p : List MemPlace} (hv : Value.okWide Try.prog W r b0 t v) (h : DataW.Trod enc Try.prog W 0 (fun _ => true) true t v d p) :
    ∃ (A : Option Addr) (n c : Nat) (l : List (List UInt8)), v = .slice A n c ∧ l.length = n ∧ RdBB W.heap.size W A l ∧ n ≤ maxLen := by
  obtain ⟨A, n, c, rfl⟩ := okWide_slice ht hv
  obtain ⟨fuel, hf⟩ := h
  rcases open_slice ht hf with ⟨hcs, _⟩ | ⟨a, len, cap, m, f, D, Pl, hcs, _, hl, hm, hmm, _, hi⟩
  · simp [Value.cells] at hcs
    obtain ⟨rfl, rfl, rfl⟩ := hcs
    exact ⟨none, 0, 0, [], rfl, rfl, RdBB.nil _ _ _, Nat.zero_le _⟩
  · simp [Value.cells] at hcs
    obtain ⟨rfl, rfl, rfl⟩ := hcs
    have hle : n ≤ m := by rw [hmm]; simp; omega
    have hx : ∀ i, ∃ x : List UInt8, i < n → ∃ A' c', W.cell? (a.add i) = some (.slice A' x.length c') ∧ RdB W.heap.size W A' x ∧ x.length ≤ c' := by
      intro i
      by_cases hin : i < n
      · obtain ⟨cs', hc, ht'⟩ := hi i (by omega)
        rw [cellsSl, Nat.mul_one] at hc
        obtain ⟨_, hlen, hcell⟩ := World.cells?_some hc
        obtain ⟨A', n', c', x, rfl, hn', hr', hc'⟩ := rd_bytl Try.underlying105 ht'
        refine ⟨x, fun _ => ⟨A', c', ?_, hr', by omega⟩⟩
        have h0 := hcell 0 (by omega)
        rw [hn']
        simpa [Addr.add] using h0
      · exact ⟨[], fun h => absurd h hin⟩
    have hF : ∃ f : Nat → List UInt8, ∀ i, i < n → ∃ A' c', W.cell? (a.add i) = some (.slice A' (f i).length c') ∧ RdB W.heap.size W A' (f i) ∧ (f i).length ≤ c' := ⟨fun i => Classical.choose (hx i), fun i => Classical.choose_spec (hx i)⟩
    obtain ⟨g, hg⟩ := hF
    refine ⟨some a, n, c, (List.range n).map g, rfl, by simp, fun k x hx => ?_, by omega⟩
    have hk : k < n := by
      have := (List.getElem?_eq_some_iff.1 hx).1
      simpa using this
    have e : x = g k := by
      rw [List.getElem?_map, List.getElem?_range hk] at hx
      injection hx with hx
      exact hx.symm
    subst e
    obtain ⟨A', c', h1, h2, h3⟩ := hg k hk
    have hb := World.block_lt_of_cell? W _ h1
    rw [add_block] at hb
    exact ⟨a, A', c', rfl, hb, h1, h2, h3⟩
end
end Go.Proofs.Ytkfhkfddhijkcaa
