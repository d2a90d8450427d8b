/-
  WHAT IS PROVED: a world in which the library's variables that the rows list hold what they list: the witness of each row of this seat; what the code reads of them, out of the shape of a world. · package reach's calls answer as the walks of layer 4's statements take them (ReachC, ReadC); so the law of ReachTexts answers true. Conditions: those typed in each theorem.
-/
import Derived.Test.YtokkmofcijfmiaaDoorGQ0
import Derived.Test.YtokkmofcijfmiaaDoorGQ5
import Derived.Test.YtokkmofcijfmiaaDoorRows
import Derived.LaidMore
import Derived.MakeChecks
import Derived.Shelf.Vars
import Derived.Deep.DeepWitnessRowRef
import Derived.Lay
import Derived.Test.YtokkmofcijfmiaaDoorGQ8
import Derived.Test.YtokkmofcijfmiaaDoorLawReachTexts
namespace Go.Proofs.YtokkmofcijfmiaaDoor
open Go.RowKit

theorem maxLenZero : ((begin Tryd.prog (fun _ _ => 0) default).world.heap[2]?).bind Obj.row? = some (#[.int .i64 0], 3) := by kernel_rfl
theorem laidR_of {W : World} (h : W.ShapedOpen Tryd.prog) : LaidR W :=
  cell_of_shapedOpen_int (k := .i64) h (of_decide_eq_true (by kernel_rfl)) maxLenZero rfl (by kernel_rfl) (by kernel_rfl) Tryd.underlying3

noncomputable def layWorld (os : Os) : World := World.laidAll Tryd.prog os Rows.reachTextsRow.laid
theorem layWorld_os (os : Os) : (layWorld os).os = os := World.laidAll_os _ _ _
theorem lay_shaped (os : Os) (args : Array Value) : ((layWorld os).forCall (fun _ _ => 0) ⟨#[], args, []⟩).Shaped Tryd.prog := World.shaped_of_ZipB (by kernel_rfl) (by kernel_rfl)
theorem lay_met (os : Os) (args : Array Value) : laidMetH Tryd.prog Rows.reachTextsRow.laid ((layWorld os).forCall (fun _ _ => 0) ⟨#[], args, []⟩).memory := by
  rw [MakeChecks.laidMetH_plain _ _ _ (by kernel_rfl)]
  exact laidMet_laidAll _ (by kernel_rfl) (by kernel_rfl)

section
variable {H : Type} {enc : TypeId × Value → H}
theorem witness_lay {C : Checked} {os : Os} {f : FuncId} {fn : Func} {s : OpenSpec} {conds : List PathCond} {apart : Bool} {laid : List (String × DataW Unit)} (modest : Bool) (w0 : World) (args : Array Value) (hos : w0.os = os)
    (hsh : (w0.forCall (fun _ _ => 0) ⟨#[], args, []⟩).Shaped C.prog)
    (hok : Input.okWideB C.prog (w0.forCall (fun _ _ => 0) ⟨#[], args, []⟩) f ⟨#[], args, []⟩ = true)
    (hrow : s.preRow enc C.prog fn conds apart laid (w0.forCall (fun _ _ => 0) ⟨#[], args, []⟩).memory args) :
    ∃ (w : World) (tape : Tape) (i : Input), w.os = os ∧ (w.forCall tape i).Shaped C.prog ∧ i.vars = [] ∧ Input.okWide C.prog (w.forCall tape i) .any w.heap.size f i ∧
      s.preRow enc C.prog fn conds apart laid (w.forCall tape i).memory i.args ∧ ({ modest := modest } : Assume).holds C.prog (lone (Frame.enter C.prog f i.args .normal) [] (w.forCall tape i)) :=
  ⟨w0, fun _ _ => 0, ⟨#[], args, []⟩, hos, hsh, (Input.okWide_of_okWideB (base := 0) hok).1, (Input.okWide_of_okWideB hok).2, hrow, by
    simp only [Assume.holds]
    exact ⟨by simp, by simp, fun _ => Modest.zero, by simp, by simp⟩⟩
end
end Go.Proofs.YtokkmofcijfmiaaDoor

namespace Go.Proofs.YtokkmofcijfmiaaDoor
open Go.RowKit

theorem coversC : CoversC := fun A A2 n c m d a b w _ ha hr hb hr2 g1 g2 =>
  covers_any A A2 n c m d a b w ha hr (by have := goodR_six g1; unfold maxLen; omega) hb hr2 (by have := goodR_six g2; unfold maxLen; omega)
theorem reachC : ReachC := ⟨goodC, ofC, coversC, bothC, textC⟩
theorem lawReachTexts_all (A : Option Addr) (n c : Nat) (a : List ByteArray) (s : ByteArray) (w : World) (ha : a.length = n) (hr : RdS w.heap.size w A a) (hm : n ≤ maxLen) (hs : ∀ x, x ∈ a → x.size ≤ maxLen) (hz : s.size ≤ maxLen) (hL : LaidR w) :
    Calls Tryd.prog 3 #[.slice A n c, .string s] w fun e w' => e = .returned (.bool true) ∧ Below w.heap.size w w' :=
  lawReachTexts_any reachC readC A n c a s w hL ha hr hm hs hz
end Go.Proofs.YtokkmofcijfmiaaDoor
