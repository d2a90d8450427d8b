/-
  WHAT IS PROVED: more words for a row of strings that the call owns: where it lies, that it may be written, a store into it. Over any program.
-/
import Derived.Test.YtccdpbcldpmegaaDoorStrs
namespace Go.Proofs.YtccdpbcldpmegaaDoor
open Go.RowKit

theorem OwnS.form {base : Nat} {W : World} {A : Option Addr} {n c : Nat} {l : List ByteArray} (h : OwnS base W A n c l) (hn : 0 < n) : ∃ g, A = some ⟨g, 0, none⟩ ∧ base ≤ g ∧ g < W.heap.size := by
  obtain ⟨g, cap, hv, hb, hlt⟩ := World.ownsRow.form h hn
  injection hv with hv
  exact ⟨g, hv, hb, hlt⟩
theorem OwnS.free {base : Nat} {W : World} {g n c : Nat} {l : List ByteArray} (h : OwnS base W (some ⟨g, 0, none⟩) n c l) (i : Nat) : W.frozen? ⟨g, i, none⟩ = false := by
  rcases h.2 with ⟨hv, _⟩ | ⟨g', cap, cur, hv, hb, hg, h1, h2, h3, h4⟩
  · cases hv
  · injection hv with hv1 hv2 hv3
    injection hv1 with hv1
    injection hv1 with hv1
    subst hv1
    simp [World.frozen?, hg]
theorem sF0 {W : World} {p : Addr} {v : Value} (h : W.cell? p = some v) (hf : W.frozen? p = false) : W.drew.cell? p = some v ∧ W.drew.frozen? p = false ∧ Below W.heap.size W W.drew := ⟨h, hf, (Below.refl _ _).drew⟩
theorem sFA {H : Nat} {W w' : World} {p : Addr} {v : Value} (h : w'.cell? p = some v ∧ w'.frozen? p = false ∧ Below H W w') (hl : p.block < H) (hH : H ≤ W.heap.size) (o : Obj) : (w'.alloc o).cell? p = some v ∧ (w'.alloc o).frozen? p = false ∧ Below H W (w'.alloc o) := by
  have hz := h.2.2.size
  exact ⟨((b0 w' o).cell (by omega)).trans h.1, ((b0 w' o).frozen (by omega)).trans h.2.1, h.2.2.alloc (by omega) o⟩
/-- A store into a row of the call's own. -/
theorem OwnS.set {base : Nat} {W : World} {g n c : Nat} {l : List ByteArray} (h : OwnS base W (some ⟨g, 0, none⟩) n c l) (i : Nat) (x : ByteArray) : OwnS base (W.setCell ⟨g, i, none⟩ (.string x)) (some ⟨g, 0, none⟩) n c (l.set i x) := by
  rcases h.2 with ⟨hv, _⟩ | ⟨g', cap, cur, hv, hb, hg, h1, h2, h3, h4⟩
  · cases hv
  · injection hv with hv1 hv2 hv3
    injection hv1 with hv1
    injection hv1 with hv1
    subst hv1
    subst hv3
    refine ⟨by simpa using h.1, .inr ⟨g, c, cur.setIfInBounds i (.string x), rfl, hb, ?_, h1, h2, by simpa using h3, ?_⟩⟩
    · simp [World.setCell, Array.getElem?_modify, hg]
    · rw [Array.toList_setIfInBounds, List.take_set, h4]
      simp [strV, List.map_set]
end Go.Proofs.YtccdpbcldpmegaaDoor
