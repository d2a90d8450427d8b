/-
  WHAT IS PROVED: more words for a row of bytes that the call owns: where it lies, that it may be written, a store into it. Over any program.
-/
import Derived.Test.YtggoinjjdogmaaaDoorBytes
namespace Go.Proofs.YtggoinjjdogmaaaDoor
open Go.RowKit

theorem OwnB.form {base : Nat} {W : World} {A : Option Addr} {n c : Nat} {l : List UInt8} (h : OwnB base W A n c l) (hn : 0 < n) : ∃ g, A = some ⟨g, 0, none⟩ ∧ base ≤ g ∧ g < W.heap.size := by
  obtain ⟨g, cap, hv, hb, hlt⟩ := World.ownsRow.form h hn
  injection hv with hv
  exact ⟨g, hv, hb, hlt⟩
theorem OwnB.free {base : Nat} {W : World} {g n c : Nat} {l : List UInt8} (h : OwnB base W (some ⟨g, 0, none⟩) n c l) (i : Nat) : W.frozen? ⟨g, i, none⟩ = false := by
  rcases h.2 with ⟨hv, _⟩ | ⟨g', cap, cur, hv, hb, hg, h1, h2, h3, h4⟩
  · cases hv
  · injection hv with hv1 hv2 hv3
    injection hv1 with hv1
    injection hv1 with hv1
    subst hv1
    simp [World.frozen?, hg]
theorem OwnB.cellAt {base : Nat} {W : World} {g n c : Nat} {l : List UInt8} (h : OwnB base W (some ⟨g, 0, none⟩) n c l) {k : Nat} {x : UInt8} (hx : l[k]? = some x) : W.cell? ⟨g, k, none⟩ = some (.int .u8 (x.toNat : Int)) := by
  obtain ⟨ad, he, _, hc⟩ := h.rd k x hx
  injection he with he
  subst he
  have e : (Addr.mk g 0 none).add k = Addr.mk g k none := by unfold Addr.add; split <;> simp_all
  rwa [e] at hc
/-- A store into a row of the call's own. -/
theorem OwnB.set {base : Nat} {W : World} {g n c : Nat} {l : List UInt8} (h : OwnB base W (some ⟨g, 0, none⟩) n c l) (i : Nat) (x : UInt8) : OwnB base (W.setCell ⟨g, i, none⟩ (.int .u8 (x.toNat : Int))) (some ⟨g, 0, none⟩) n c (l.set i x) := by
  rcases h.2 with ⟨hv, _⟩ | ⟨g', cap, cur, hv, hb, hg, h1, h2, h3, h4⟩
  · cases hv
  · injection hv with hv1 hv2 hv3
    injection hv1 with hv1
    injection hv1 with hv1
    subst hv1
    subst hv3
    refine ⟨by simpa using h.1, .inr ⟨g, c, cur.setIfInBounds i (.int .u8 (x.toNat : Int)), rfl, hb, ?_, h1, h2, by simpa using h3, ?_⟩⟩
    · simp [World.setCell, Array.getElem?_modify, hg]
    · rw [Array.toList_setIfInBounds, List.take_set, h4]
      simp [bytV, List.map_set]
end Go.Proofs.YtggoinjjdogmaaaDoor
