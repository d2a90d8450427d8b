/-
  WHAT IS PROVED: words for slices of slices of bytes (own work): such a slice reads as a list of lists of bytes, nil let in. Over any program.
-/
import Derived.Test.YtggoinjjdogmaaaDoorBytes
namespace Go.Proofs.YtggoinjjdogmaaaDoor
open Go.RowKit

/-- The slice at A reads as the rows l, in blocks below B. -/
def RdBB (B : Nat) (W : World) (A : Option Addr) (l : List (List UInt8)) : Prop :=
  ∀ k x, l[k]? = some x → ∃ ad A' c', A = some ad ∧ ad.block < B ∧ W.cell? (ad.add k) = some (.slice A' x.length c') ∧ RdB B W A' x ∧ x.length ≤ c'
theorem RdBB.nil (B : Nat) (W : World) (A : Option Addr) : RdBB B W A [] := fun k x h => by simp at h
theorem RdBB.keep {B C : Nat} {W W' : World} {A : Option Addr} {l : List (List UInt8)} (h : RdBB B W A l) (hb : Below C W W') (hBC : B ≤ C) : RdBB B W' A l := by
  intro k x hx
  obtain ⟨ad, A', c', hA, hl, h1, h2, h3⟩ := h k x hx
  exact ⟨ad, A', c', hA, hl, (hb.cell (by rw [add_block]; omega)).trans h1, h2.keep hb hBC, h3⟩
end Go.Proofs.YtggoinjjdogmaaaDoor
