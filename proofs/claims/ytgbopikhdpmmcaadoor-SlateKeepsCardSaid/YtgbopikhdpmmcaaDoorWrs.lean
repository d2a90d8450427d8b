/-
  WHAT IS PROVED: words for slices of writes (own work): a slice that reads as a list of writes, nil let in; the document's Good of ids, of writes, of lists of writes. Conditions: those typed in each theorem.
-/
import Derived.Test.YtgbopikhdpmmcaaDoorOpRef
import Derived.Test.YtgbopikhdpmmcaaDoorPackRef3
namespace Go.Proofs.YtgbopikhdpmmcaaDoor
open Go.RowKit

/-- A write's ten cells, as a value. -/
abbrev wrI (dev seq K : Int) (ky : ByteArray) (ka na : Int) (sa : ByteArray) (kb nb : Int) (sb : ByteArray) : Array Value :=
  #[.int .i64 dev, .int .i64 seq, .int .i64 K, .string ky, .int .i64 ka, .int .i64 na, .string sa, .int .i64 kb, .int .i64 nb, .string sb]
/-- Is it good? -/
def idB (dev seq : Int) : Bool := decide (1 ≤ dev ∧ dev ≤ 11 ∧ 1 ≤ seq ∧ seq ≤ 40)
def wrGoodB (dev seq K : Int) (ky : ByteArray) (ka na : Int) (sa : ByteArray) (kb nb : Int) (sb : ByteArray) : Bool := idB dev seq && opB K ky ka na sa kb nb sb

theorem blk_c10 {W : World} {b : Nat} {v0 v1 v2 v3 v4 v5 v6 v7 v8 v9 : Value} {t : TypeId} (h : Blk W b #[v0, v1, v2, v3, v4, v5, v6, v7, v8, v9] t) :
    W.cell? ⟨b, 0, none⟩ = some v0 ∧ W.cell? ⟨b, 1, none⟩ = some v1 ∧ W.cell? ⟨b, 2, none⟩ = some v2 ∧ W.cell? ⟨b, 3, none⟩ = some v3 ∧ W.cell? ⟨b, 4, none⟩ = some v4 ∧ W.cell? ⟨b, 5, none⟩ = some v5 ∧ W.cell? ⟨b, 6, none⟩ = some v6 ∧ W.cell? ⟨b, 7, none⟩ = some v7 ∧ W.cell? ⟨b, 8, none⟩ = some v8 ∧ W.cell? ⟨b, 9, none⟩ = some v9 ∧ b < W.heap.size :=
  ⟨h.cell 0, h.cell 1, h.cell 2, h.cell 3, h.cell 4, h.cell 5, h.cell 6, h.cell 7, h.cell 8, h.cell 9, h.lt⟩

end Go.Proofs.YtgbopikhdpmmcaaDoor
