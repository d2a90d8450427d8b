/-
  WHAT IS PROVED: words for slices of writes (own work): a slice that reads as a list of writes, nil let in; the document's Good of lists of writes. Conditions: those typed in each theorem.
-/
import Derived.Test.YtkfhkfddhijkcaaWrs
namespace Go.Proofs.Ytkfhkfddhijkcaa
open Go.RowKit
attribute [local go_sem ↓] Go.wp_at_zero Go.wp_at_succ

/-- A write. -/
structure Wr where
  dev : Int
  seq : Int
  K : Int
  ky : ByteArray
  ka : Int
  na : Int
  sa : ByteArray
  kb : Int
  nb : Int
  sb : ByteArray
abbrev Wr.cells (x : Wr) : Array Value := wrI x.dev x.seq x.K x.ky x.ka x.na x.sa x.kb x.nb x.sb
def Wr.good (x : Wr) : Bool := wrGoodB x.dev x.seq x.K x.ky x.ka x.na x.sa x.kb x.nb x.sb
/-- Its texts are no longer than the form's reach, its numbers are of 64 bits. -/
def Wr.fits (x : Wr) : Prop := x.ky.size ≤ maxLen ∧ x.sa.size ≤ maxLen ∧ x.sb.size ≤ maxLen ∧ (-9223372036854775808 ≤ x.na ∧ x.na ≤ 9223372036854775807) ∧ (-9223372036854775808 ≤ x.nb ∧ x.nb ≤ 9223372036854775807)
/-- The slice at A reads as the writes l, in blocks below B. -/
def RdW (B : Nat) (W : World) (A : Option Addr) (l : List Wr) : Prop :=
  ∀ k x, l[k]? = some x → ∃ ad, A = some ad ∧ ad.block < B ∧ ∀ j v, x.cells[j]? = some v → W.cell? (ad.add (k * 10 + j)) = some v
theorem RdW.nil (B : Nat) (W : World) (A : Option Addr) : RdW B W A [] := fun k x h => by simp at h
theorem RdW.keep {B C : Nat} {W W' : World} {A : Option Addr} {l : List Wr} (h : RdW B W A l) (hb : Below C W W') (hBC : B ≤ C) : RdW B W' A l := by
  intro k x hx
  obtain ⟨ad, hA, hl, hc⟩ := h k x hx
  exact ⟨ad, hA, hl, fun j v hv => (hb.cell (by rw [add_block]; omega)).trans (hc j v hv)⟩
theorem RdW.more {B C : Nat} {W : World} {A : Option Addr} {l : List Wr} (h : RdW B W A l) (hBC : B ≤ C) : RdW C W A l := by
  intro k x hx
  obtain ⟨ad, hA, hl, hc⟩ := h k x hx
  exact ⟨ad, hA, by omega, hc⟩
theorem RdW.drew_ {B : Nat} {W : World} {A : Option Addr} {l : List Wr} (h : RdW B W A l) : RdW B W.drew A l := h
theorem RdW.at_ {B : Nat} {W : World} {A : Option Addr} {l : List Wr} (h : RdW B W A l) {k : Nat} (hk : k < l.length) : ∃ ad, A = some ad ∧ ad.block < B ∧ ∀ j v, (l[k]).cells[j]? = some v → W.cell? (ad.add (k * 10 + j)) = some v :=
  h k _ (List.getElem?_eq_getElem hk)

theorem add_at (a : Addr) (i j : Nat) : a.add (i + (j + 1)) = ⟨(a.add i).block, (a.add i).off + (j + 1), none⟩ := by
  rw [← add_add', Addr.add, if_neg (by omega)]
/-- A write's ten cells, as a load asks for them. -/
theorem wr_cells {W : World} {ad : Addr} {k : Nat} {x : Wr} (hc : ∀ j v, x.cells[j]? = some v → W.cell? (ad.add (k * 10 + j)) = some v) :
    W.cell? (ad.add (k * 10)) = some (.int .i64 x.dev) ∧ W.cell? ⟨(ad.add (k * 10)).block, (ad.add (k * 10)).off + 1, none⟩ = some (.int .i64 x.seq) ∧ W.cell? ⟨(ad.add (k * 10)).block, (ad.add (k * 10)).off + 2, none⟩ = some (.int .i64 x.K) ∧ W.cell? ⟨(ad.add (k * 10)).block, (ad.add (k * 10)).off + 3, none⟩ = some (.string x.ky) ∧
    W.cell? ⟨(ad.add (k * 10)).block, (ad.add (k * 10)).off + 4, none⟩ = some (.int .i64 x.ka) ∧ W.cell? ⟨(ad.add (k * 10)).block, (ad.add (k * 10)).off + 5, none⟩ = some (.int .i64 x.na) ∧ W.cell? ⟨(ad.add (k * 10)).block, (ad.add (k * 10)).off + 6, none⟩ = some (.string x.sa) ∧
    W.cell? ⟨(ad.add (k * 10)).block, (ad.add (k * 10)).off + 7, none⟩ = some (.int .i64 x.kb) ∧ W.cell? ⟨(ad.add (k * 10)).block, (ad.add (k * 10)).off + 8, none⟩ = some (.int .i64 x.nb) ∧ W.cell? ⟨(ad.add (k * 10)).block, (ad.add (k * 10)).off + 9, none⟩ = some (.string x.sb) := by
  have h : ∀ j v, x.cells[j + 1]? = some v → W.cell? ⟨(ad.add (k * 10)).block, (ad.add (k * 10)).off + (j + 1), none⟩ = some v := fun j v hv => by
    rw [← add_at]
    exact hc (j + 1) v hv
  exact ⟨hc 0 _ rfl, h 0 _ rfl, h 1 _ rfl, h 2 _ rfl, h 3 _ rfl, h 4 _ rfl, h 5 _ rfl, h 6 _ rfl, h 7 _ rfl, h 8 _ rfl⟩

def goodAll (l : List Wr) : Bool := l.all Wr.good

end Go.Proofs.Ytkfhkfddhijkcaa
