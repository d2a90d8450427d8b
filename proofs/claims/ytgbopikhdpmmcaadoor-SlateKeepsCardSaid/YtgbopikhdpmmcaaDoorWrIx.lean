/-
  WHAT IS PROVED: a write's cells, reached by an index into a slice of writes, or in a block of its own. Conditions: those typed in each theorem.
-/
import Derived.Test.YtgbopikhdpmmcaaDoorKp
import Derived.Test.YtgbopikhdpmmcaaDoorWrs2
namespace Go.Proofs.YtgbopikhdpmmcaaDoor
open Go.RowKit

theorem id_oneC (a b : Int) : (#[.int .i64 a, .int .i64 b] : Array Value).all (·.oneCell') = true := by
  rw [show (#[.int .i64 a, .int .i64 b] : Array Value) = [.int .i64 a, .int .i64 b].toArray from rfl, List.all_toArray]
  simp [Value.oneCell']
theorem wr_oneC (x : Wr) : x.cells.all (·.oneCell') = true := by
  obtain ⟨dev, seq, K, ky, ka, na, sa, kb, nb, sb⟩ := x
  show (wrI dev seq K ky ka na sa kb nb sb).all _ = true
  rw [show wrI dev seq K ky ka na sa kb nb sb = [.int .i64 dev, .int .i64 seq, .int .i64 K, .string ky, .int .i64 ka, .int .i64 na, .string sa, .int .i64 kb, .int .i64 nb, .string sb].toArray from rfl, List.all_toArray]
  simp [Value.oneCell']
end Go.Proofs.YtgbopikhdpmmcaaDoor
