/-
  WHAT IS PROVED: what the code of these statements reads of the package variables (a length that the library has), and that it stands in later worlds.
-/
import Derived.Test.YtccdpbcldpmegaaDoorBase
namespace Go.Proofs.YtccdpbcldpmegaaDoor
open Go.RowKit

/-- What the code reads of the package variables: a length that the library has, whatever it is. -/
def LaidR (W : World) : Prop := ∃ m : Int, W.cell? ⟨0, 0, none⟩ = some (.int .i64 m)
theorem LaidR.keep {W W' : World} (h : LaidR W) (hb : Below W.heap.size W W') : LaidR W' := by
  obtain ⟨m, h2⟩ := h
  refine ⟨m, ?_⟩
  have hlt : 0 < W.heap.size := by
    by_cases g : 0 < W.heap.size
    · exact g
    · unfold World.cell? at h2
      rw [Array.getElem?_eq_none (by simpa using g)] at h2
      cases h2
  rw [(bcell hb).1 _ _ hlt, h2]
end Go.Proofs.YtccdpbcldpmegaaDoor
