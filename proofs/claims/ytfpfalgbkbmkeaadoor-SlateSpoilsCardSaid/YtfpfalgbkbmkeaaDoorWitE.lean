/-
  WHAT IS PROVED: what the code of package slate reads of the package variables, out of the condition of a row that lists its sentinel alone; a world that meets it; the law SlateSpoils in the form of its row.
-/
import Derived.Test.YtfpfalgbkbmkeaaDoorSlSpA
import Derived.Test.YtfpfalgbkbmkeaaDoorRows
import Derived.LaidMore
import Derived.LaidHandle
import Derived.Stop.LaidErr
import Derived.Stop.LaidTwo
import Derived.Lay
namespace Go.Proofs.YtfpfalgbkbmkeaaDoor
open Go.RowKit

/-- What each row of this seat lists. -/
abbrev laidLE : List (String × DataW Unit) := [("spinney/slate.errSpent", Rows.laid_spinney_slate_errSpent)]
theorem gE : Tryd.prog.globalNamed "spinney/slate.errSpent" = some 0 := by kernel_rfl
theorem tyE : (Tryd.prog.globals[0]?).map (·.type) = some 61 := by kernel_rfl
theorem starE : "*" ++ "errors.errorString" = "*errors.errorString" := by decide
theorem rowE (u : TypeId) (h : Tryd.prog.typeName? 3 u = some "*errors.errorString") : u = 102 :=
  typeName_ptr_named (nm := "errors.errorString") (by rw [starE]; kernel_rfl) (by kernel_rfl) (by decide) u (by rw [starE]; exact h)
theorem cellsEE : Tryd.prog.cellsOf 127 = 1 := by kernel_rfl
theorem cellsET : Tryd.prog.cellsOf 9 = 1 := by kernel_rfl
/-- What the condition gives the walks. -/
theorem laidE_of {W : World} (h : laidMetH Tryd.prog laidLE W) : ∃ S, LaidE S W := by
  have h' : laidMet Tryd.prog laidLE W := h
  obtain ⟨a, s, hv, _, _, _⟩ := laid_sentinel h' gE tyE Tryd.underlying61 rowE Tryd.underlying102 Tryd.underlying127 rfl rfl Tryd.underlying9 cellsEE cellsET
  exact ⟨a, by unfold LaidE; simpa using World.var?_cell gE hv 0⟩
/-- A world that meets it. -/
theorem door_metE (os : Os) (args : Array Value) : laidMetH Tryd.prog laidLE ((World.doorLaid Tryd.prog 400 os).forCall (fun _ _ => 0) ⟨#[], args, []⟩).memory :=
  laidMetH_of_parts (laidMet_of_run' 8 (by kernel_rfl) (by kernel_rfl)) (by kernel_rfl)
theorem spoils_row (S : Addr) (A : Option Addr) (n c : Nat) (l : List UInt8) (x y : Int) (w : World) (hn : l.length = n) (hr : RdB w.heap.size w A l) (hc : n ≤ c) (hm : c ≤ maxLen) (_h1 : -9223372036854775808 ≤ x ∧ x ≤ 9223372036854775807) (_h2 : -9223372036854775808 ≤ y ∧ y ≤ 9223372036854775807) (hE : LaidE S w) :
    Calls Tryd.prog 5 #[.slice A n c, .int .i64 x, .int .i64 y] w fun e w' => e = .returned (.bool true) ∧ Below w.heap.size w w' := lawSpoils_all S A n c l x y w hE hn hr (Nat.le_trans hc hm)
end Go.Proofs.YtfpfalgbkbmkeaaDoor
