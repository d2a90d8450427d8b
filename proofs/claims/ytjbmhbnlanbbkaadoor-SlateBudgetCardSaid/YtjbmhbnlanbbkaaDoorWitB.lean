/-
  WHAT IS PROVED: what the code of package slate reads of the package variables, out of the condition of a row that lists its sentinel alone; a world that meets it; the law SlateBudget in the form of its row.
-/
import Derived.Test.YtjbmhbnlanbbkaaDoorSbC
import Derived.Test.YtjbmhbnlanbbkaaDoorGQ9
import Derived.Test.YtjbmhbnlanbbkaaDoorRows
import Derived.LaidMore
import Derived.LaidHandle
import Derived.Stop.LaidErr
import Derived.Stop.LaidTwo
import Derived.Lay
namespace Go.Proofs.YtjbmhbnlanbbkaaDoor
open Go.RowKit

/-- What each row of this seat lists. -/
abbrev laidLE : List (String × DataW Unit) := [("spinney/slate.errSpent", Rows.laid_spinney_slate_errSpent)]
theorem gE : Tryd.prog.globalNamed "spinney/slate.errSpent" = some 0 := by kernel_rfl
theorem tyE : (Tryd.prog.globals[0]?).map (·.type) = some 57 := by kernel_rfl
theorem starE : "*" ++ "errors.errorString" = "*errors.errorString" := by decide
theorem rowE (u : TypeId) (h : Tryd.prog.typeName? 3 u = some "*errors.errorString") : u = 93 :=
  typeName_ptr_named (nm := "errors.errorString") (by rw [starE]; kernel_rfl) (by kernel_rfl) (by decide) u (by rw [starE]; exact h)
theorem cellsEE : Tryd.prog.cellsOf 119 = 1 := by kernel_rfl
theorem cellsET : Tryd.prog.cellsOf 9 = 1 := by kernel_rfl
/-- What the condition gives the walks. -/
theorem laidE_of {W : World} (h : laidMetH Tryd.prog laidLE W) : ∃ S, LaidE S W := by
  have h' : laidMet Tryd.prog laidLE W := h
  obtain ⟨a, s, hv, _, _, _⟩ := laid_sentinel h' gE tyE Tryd.underlying57 rowE Tryd.underlying93 Tryd.underlying119 rfl rfl Tryd.underlying9 cellsEE cellsET
  exact ⟨a, by unfold LaidE; simpa using World.var?_cell gE hv 0⟩
/-- A world that meets it. -/
theorem door_metE (os : Os) (args : Array Value) : laidMetH Tryd.prog laidLE ((World.doorLaid Tryd.prog 400 os).forCall (fun _ _ => 0) ⟨#[], args, []⟩).memory :=
  laidMetH_of_parts (laidMet_of_run' 8 (by kernel_rfl) (by kernel_rfl)) (by kernel_rfl)
theorem budget_row (S : Addr) (x : UInt8) (A : Option Addr) (n c : Nat) (l : List Ac) (w : World) (hn : l.length = n) (hr : RdA w.heap.size w A l) (_hm : n ≤ maxLen) (hE : LaidE S w) :
    Calls Tryd.prog 3 #[.int .u8 (x.toNat : Int), .slice A n c] w fun e w' => e = .returned (.bool true) ∧ Below w.heap.size w w' := slateBudget_all S x A n c l w hn hr hE
section
open Go.WideShapes Go.ChangeShapes Go.Joins Go.Deep
variable {H : Type} {enc : TypeId × Value → H}
theorem open_u8 {P : Program} {t : TypeId} (ht : P.underlying t = some (.int .u8)) {W : World} {base : Nat} {spare : Nat → Bool} {held : Bool} {r : Reach} {b0 : Nat} {v : Value} {d : DataW H} {p : List MemPlace} (hv : Value.okWide P W r b0 t v) (h : DataW.Trod enc P W base spare held t v d p) :
    ∃ x : UInt8, v = .int .u8 (x.toNat : Int) := by
  obtain ⟨n, rfl, _, _, hw⟩ := open_int ht hv h
  exact ⟨UInt8.ofNat n.toNat, by rw [← wf_u8 hw]⟩
end
end Go.Proofs.YtjbmhbnlanbbkaaDoor
