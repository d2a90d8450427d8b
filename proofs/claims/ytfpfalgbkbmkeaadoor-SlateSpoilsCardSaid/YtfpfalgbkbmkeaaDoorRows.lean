/-
  NARROWER THAN 'FOR EVERY INPUT', by the rows' own cells (each row's printed sentence says how): SlateKeeps: laid · SlateBudget: laid · SlateSpoils: laid.
  DERIVED. THE GIVEN ROWS OF THIS SEAT. 3 by the template 'for every input the law returns true; each argument reads behind the call as it read before'; 0 by the template 'total and deterministic' (their statements: YtfpfalgbkbmkeaaDoorTotals.lean).
  GIVEN WITH THE SEED: the statements are not yours to turn. If you find one false, say at which input.
  Laid BY PROGRAM, IN A SANDBOX (cutbox-rows.mjs): the forced cells as the released guide's own fill.sh prints them over the translation f7644483fd11342f… (all of the seat's roots in one cut). By AI agents, Wed Nov 11 2026. No macro, syntax, notation, axiom, sorry.
-/
import Derived.Test.YtfpfalgbkbmkeaaDoorChecked
import GoSem.Claim
import GoSem.ClaimJoined
import GoSem.ClaimMapViews
import Derived.JoinedTies
import Derived.KernelRfl
namespace Go.Proofs.YtfpfalgbkbmkeaaDoor
/- THE CELL 'sum', in the pinned program and in every row, IS THE sha256 OF THE DUMP (.gsa) THAT YtfpfalgbkbmkeaaDoorProg.lean LOADS. Nothing in Lean hashes anything: it is a label: what it is worth is what the hold of that sum in a sandbox is worth. -/
noncomputable def Tryd.pinned : Pinned := { name := "ytfpfalgbkbmkeaadoor", sum := "f7644483fd11342fa3ce2a84e652e704a29ee0af9c7428dd47b64bf2a1c61540", checked := Tryd.checked }
namespace Rows
def none {H : Type} : Left H := { results := [], args := [] }

/- WHAT THE LISTED PACKAGE-LEVEL VARIABLES READ AS WHEN THE CALL BEGINS. Each datum BY PROGRAM (the guide's laid-datum.mjs) off the statement by which the dump's own 'gosem.cut.vars' lays the variable. In a bare row this is a premise. The card (YtfpfalgbkbmkeaaDoorCards.lean) ties it to the program's text. -/
def laid_spinney_slate_errSpent {H : Type} : DataW H := .iface "*errors.errorString" (.ptr (.agg [.lit (.string [97, 32, 115, 116, 101, 112, 32, 98, 101, 104, 105, 110, 100, 32, 116, 104, 101, 32, 98, 117, 100, 103, 101, 116])]))

/-- 'spinneylaw09.SlateKeeps': WHATEVER THE INPUT: true; the input reads as it did. -/
def slateKeepsSpec : ChangeSpec := { name := "slateKeeps", fn := fun _ => fun
  | [d1, d2] => { results := [.lit (.bool true)], args := [d1, d2] }
  | _ => none }
def slateKeepsRow : OpenClaim := { program := "ytfpfalgbkbmkeaadoor", sum := "f7644483fd11342fa3ce2a84e652e704a29ee0af9c7428dd47b64bf2a1c61540", func := "spinney/spinneylaw09.SlateKeeps", spec := "slateKeeps", inPlace := ["internal/reflectlite.TypeOf", "maps.clone"], unfollowed := true, recurses := true, named := ["spinney/slate.errSpent"], apart := false, laid := [("spinney/slate.errSpent", laid_spinney_slate_errSpent)] }
def SlateKeepsSaid : Prop := slateKeepsRow.holds Tryd.pinned (OpenSpec.ofChange slateKeepsSpec)

/-- ITS FALSE NEIGHBOUR: 'it returns false'. Refute it at one input. -/
def slateKeepsWrong : ChangeSpec := { name := "slateKeeps", fn := fun _ => fun
  | [d1, d2] => { results := [.lit (.bool false)], args := [d1, d2] }
  | _ => none }
def SlateKeepsWrongFalsely : Prop := slateKeepsRow.holds Tryd.pinned (OpenSpec.ofChange slateKeepsWrong)

/-- 'spinneylaw09.SlateBudget': WHATEVER THE INPUT: true; the input reads as it did. -/
def slateBudgetSpec : ChangeSpec := { name := "slateBudget", fn := fun _ => fun
  | [d1, d2] => { results := [.lit (.bool true)], args := [d1, d2] }
  | _ => none }
def slateBudgetRow : OpenClaim := { program := "ytfpfalgbkbmkeaadoor", sum := "f7644483fd11342fa3ce2a84e652e704a29ee0af9c7428dd47b64bf2a1c61540", func := "spinney/spinneylaw09.SlateBudget", spec := "slateBudget", inPlace := ["internal/reflectlite.TypeOf", "maps.clone"], unfollowed := true, recurses := true, named := ["spinney/slate.errSpent"], apart := false, laid := [("spinney/slate.errSpent", laid_spinney_slate_errSpent)] }
def SlateBudgetSaid : Prop := slateBudgetRow.holds Tryd.pinned (OpenSpec.ofChange slateBudgetSpec)

/-- ITS FALSE NEIGHBOUR: 'it returns false'. Refute it at one input. -/
def slateBudgetWrong : ChangeSpec := { name := "slateBudget", fn := fun _ => fun
  | [d1, d2] => { results := [.lit (.bool false)], args := [d1, d2] }
  | _ => none }
def SlateBudgetWrongFalsely : Prop := slateBudgetRow.holds Tryd.pinned (OpenSpec.ofChange slateBudgetWrong)

/-- 'spinneylaw09.SlateSpoils': WHATEVER THE INPUT: true; the input reads as it did. -/
def slateSpoilsSpec : ChangeSpec := { name := "slateSpoils", fn := fun _ => fun
  | [d1, d2, d3] => { results := [.lit (.bool true)], args := [d1, d2, d3] }
  | _ => none }
def slateSpoilsRow : OpenClaim := { program := "ytfpfalgbkbmkeaadoor", sum := "f7644483fd11342fa3ce2a84e652e704a29ee0af9c7428dd47b64bf2a1c61540", func := "spinney/spinneylaw09.SlateSpoils", spec := "slateSpoils", inPlace := ["internal/reflectlite.TypeOf", "maps.clone"], unfollowed := true, recurses := true, named := ["spinney/slate.errSpent"], apart := false, laid := [("spinney/slate.errSpent", laid_spinney_slate_errSpent)] }
def SlateSpoilsSaid : Prop := slateSpoilsRow.holds Tryd.pinned (OpenSpec.ofChange slateSpoilsSpec)

/-- ITS FALSE NEIGHBOUR: 'it returns false'. Refute it at one input. -/
def slateSpoilsWrong : ChangeSpec := { name := "slateSpoils", fn := fun _ => fun
  | [d1, d2, d3] => { results := [.lit (.bool false)], args := [d1, d2, d3] }
  | _ => none }
def SlateSpoilsWrongFalsely : Prop := slateSpoilsRow.holds Tryd.pinned (OpenSpec.ofChange slateSpoilsWrong)

/- THE SECOND FORM. 'bulk': how many values and letters a reading holds, each counted each time it is reached (what is shared counts as often as it is met; a slice's spare places count too). A statement '..UptoSaid' is the law's where the arguments, and the package variables that the reading takes, are together of bulk at most 1048576: NARROWER than '..Said'. Prove '..Said' where nothing that the law and all that it calls make is longer than what came in: it says more and counts as full. Else prove '..UptoSaid'. A law counts once. -/
mutual
def uptoBulk {H : Type} : DataW H → Nat
  | .lit (.string bytes) => bytes.length + 1
  | .lit _ => 1
  | .nil => 1
  | .ptr d => uptoBulk d + 1
  | .slice elems spare => uptoBulkAll elems + uptoBulkAll spare + 1
  | .agg parts => uptoBulkAll parts + 1
  | .iface _ d => uptoBulk d + 1
  | .map entries => uptoBulkEntries entries + 1
  | .held _ => 1
def uptoBulkAll {H : Type} : List (DataW H) → Nat
  | [] => 0
  | d :: r => uptoBulk d + uptoBulkAll r
def uptoBulkEntries {H : Type} : List (Lit × DataW H) → Nat
  | [] => 0
  | x :: r => uptoBulkEntry x + uptoBulkEntries r
def uptoBulkEntry {H : Type} : Lit × DataW H → Nat
  | (.string bytes, d) => bytes.length + uptoBulk d + 1
  | (_, d) => uptoBulk d + 1
 end
def uptoSmall : (H : Type) → List (DataW H) → Bool := fun _ ds => decide (uptoBulkAll ds ≤ 1048576)
def OpenSpec.upto (s : _root_.Go.ChangeSpec) : _root_.Go.OpenSpec := { _root_.Go.OpenSpec.ofChange s with cond := some uptoSmall }

/-- 'spinneylaw09.SlateKeeps', WHERE WHAT IT READS IS OF BULK AT MOST 1048576: true; the input reads as it did. -/
def slateKeepsUptoRow : OpenClaim := { program := "ytfpfalgbkbmkeaadoor", sum := "f7644483fd11342fa3ce2a84e652e704a29ee0af9c7428dd47b64bf2a1c61540", func := "spinney/spinneylaw09.SlateKeeps", spec := "slateKeeps", inPlace := ["internal/reflectlite.TypeOf", "maps.clone"], unfollowed := true, recurses := true, named := ["spinney/slate.errSpent"], apart := false, laid := [("spinney/slate.errSpent", laid_spinney_slate_errSpent)], narrowed := true }
def SlateKeepsUptoSaid : Prop := slateKeepsUptoRow.holds Tryd.pinned (OpenSpec.upto slateKeepsSpec)

/-- 'spinneylaw09.SlateBudget', WHERE WHAT IT READS IS OF BULK AT MOST 1048576: true; the input reads as it did. -/
def slateBudgetUptoRow : OpenClaim := { program := "ytfpfalgbkbmkeaadoor", sum := "f7644483fd11342fa3ce2a84e652e704a29ee0af9c7428dd47b64bf2a1c61540", func := "spinney/spinneylaw09.SlateBudget", spec := "slateBudget", inPlace := ["internal/reflectlite.TypeOf", "maps.clone"], unfollowed := true, recurses := true, named := ["spinney/slate.errSpent"], apart := false, laid := [("spinney/slate.errSpent", laid_spinney_slate_errSpent)], narrowed := true }
def SlateBudgetUptoSaid : Prop := slateBudgetUptoRow.holds Tryd.pinned (OpenSpec.upto slateBudgetSpec)

/-- 'spinneylaw09.SlateSpoils', WHERE WHAT IT READS IS OF BULK AT MOST 1048576: true; the input reads as it did. -/
def slateSpoilsUptoRow : OpenClaim := { program := "ytfpfalgbkbmkeaadoor", sum := "f7644483fd11342fa3ce2a84e652e704a29ee0af9c7428dd47b64bf2a1c61540", func := "spinney/spinneylaw09.SlateSpoils", spec := "slateSpoils", inPlace := ["internal/reflectlite.TypeOf", "maps.clone"], unfollowed := true, recurses := true, named := ["spinney/slate.errSpent"], apart := false, laid := [("spinney/slate.errSpent", laid_spinney_slate_errSpent)], narrowed := true }
def SlateSpoilsUptoSaid : Prop := slateSpoilsUptoRow.holds Tryd.pinned (OpenSpec.upto slateSpoilsSpec)

end Rows
end Go.Proofs.YtfpfalgbkbmkeaaDoor
