/-
  WHAT IS PROVED: string(..) of bytes that are read (own work); over any program that bears the types named.
-/
import Derived.Test.YtgbopikhdpmmcaaDoorBytes
namespace Go.Proofs.YtgbopikhdpmmcaaDoor
open Go.RowKit

/-- string(..) of bytes that are read. -/
theorem conv_rd {B : Nat} (W : World) (A : Option Addr) (n c : Nat) (l : List UInt8) (hn : l.length = n) (h : RdB B W A l) : (convert 22 9 (.slice A n c)).run Tryd.prog W = .ok (.string ⟨l.toArray⟩) W := by
  subst hn
  cases l with
  | nil =>
    cases A with
    | none => exact run_convert_bytes_nil W 22 5 Tryd.underlying22 Tryd.underlying5 0 c 9 Tryd.underlying9
    | some ad => exact run_convert_bytes_back W 22 9 5 ad c [] Tryd.underlying22 Tryd.underlying5 Tryd.underlying9 (fun j hj => absurd hj (by simp))
  | cons x t =>
    obtain ⟨ad, rfl, _, _⟩ := h 0 x rfl
    refine run_convert_bytes_back W 22 9 5 ad c (x :: t) Tryd.underlying22 Tryd.underlying5 Tryd.underlying9 ?_
    intro j hj
    obtain ⟨a2, e, _, hc⟩ := h j _ (List.getElem?_eq_getElem hj)
    injection e with e
    subst e
    exact hc
end Go.Proofs.YtgbopikhdpmmcaaDoor
