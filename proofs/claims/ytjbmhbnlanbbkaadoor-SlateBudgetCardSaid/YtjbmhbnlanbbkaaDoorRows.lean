/-
  NARROWER THAN 'FOR EVERY INPUT', by the rows' own cells (each row's printed sentence says how): SlateBudget: laid.
  DERIVED. THE GIVEN ROWS OF THIS SEAT. 1 by the template 'for every input the law returns true; each argument reads behind the call as it read before'; 0 by the template 'total and deterministic' (their statements: YtjbmhbnlanbbkaaDoorTotals.lean).
  GIVEN WITH THE SEED: the statements are not yours to turn. If you find one false, say at which input.
  Laid BY PROGRAM, IN A SANDBOX (cutbox-rows.mjs): the forced cells as the released guide's own fill.sh prints them over the translation 9ec3d7f8a6fbd6ff… (all of the seat's roots in one cut). By AI agents, Wed Nov 11 2026. No macro, syntax, notation, axiom, sorry.
-/
import Derived.Test.YtjbmhbnlanbbkaaDoorChecked
import GoSem.Claim
import GoSem.ClaimJoined
import GoSem.ClaimMapViews
import Derived.JoinedTies
import Derived.KernelRfl
namespace Go.Proofs.YtjbmhbnlanbbkaaDoor
/- THE CELL 'sum', in the pinned program and in every row, IS THE sha256 OF THE DUMP (.gsa) THAT YtjbmhbnlanbbkaaDoorProg.lean LOADS. Nothing in Lean hashes anything: it is a label: what it is worth is what the hold of that sum in a sandbox is worth. -/
noncomputable def Tryd.pinned : Pinned := { name := "ytjbmhbnlanbbkaadoor", sum := "9ec3d7f8a6fbd6ffcc0e6065c28e6ee29c52ab227ec0a4c7f8f6e75c98fb3f9c", checked := Tryd.checked }
namespace Rows
def none {H : Type} : Left H := { results := [], args := [] }

/- WHAT THE LISTED PACKAGE-LEVEL VARIABLES READ AS WHEN THE CALL BEGINS. Each datum BY PROGRAM (the guide's laid-datum.mjs) off the statement by which the dump's own 'gosem.cut.vars' lays the variable. In a bare row this is a premise. The card (YtjbmhbnlanbbkaaDoorCards.lean) ties it to the program's text. -/
def laid_spinney_slate_errSpent {H : Type} : DataW H := .iface "*errors.errorString" (.ptr (.agg [.lit (.string [97, 32, 115, 116, 101, 112, 32, 98, 101, 104, 105, 110, 100, 32, 116, 104, 101, 32, 98, 117, 100, 103, 101, 116])]))

/-- 'spinneylaw09.SlateBudget': WHATEVER THE INPUT: true; the input reads as it did. -/
def slateBudgetSpec : ChangeSpec := { name := "slateBudget", fn := fun _ => fun
  | [d1, d2] => { results := [.lit (.bool true)], args := [d1, d2] }
  | _ => none }
def slateBudgetRow : OpenClaim := { program := "ytjbmhbnlanbbkaadoor", sum := "9ec3d7f8a6fbd6ffcc0e6065c28e6ee29c52ab227ec0a4c7f8f6e75c98fb3f9c", func := "spinney/spinneylaw09.SlateBudget", spec := "slateBudget", inPlace := ["internal/reflectlite.TypeOf", "maps.clone"], unfollowed := true, recurses := true, named := ["spinney/slate.errSpent"], apart := false, laid := [("spinney/slate.errSpent", laid_spinney_slate_errSpent)] }
def SlateBudgetSaid : Prop := slateBudgetRow.holds Tryd.pinned (OpenSpec.ofChange slateBudgetSpec)

/-- ITS FALSE NEIGHBOUR: 'it returns false'. Refute it at one input. -/
def slateBudgetWrong : ChangeSpec := { name := "slateBudget", fn := fun _ => fun
  | [d1, d2] => { results := [.lit (.bool false)], args := [d1, d2] }
  | _ => none }
def SlateBudgetWrongFalsely : Prop := slateBudgetRow.holds Tryd.pinned (OpenSpec.ofChange slateBudgetWrong)

/- THE SECOND FORM. 'bulk': how many values and letters a reading holds, each counted each time it is reached (what is shared counts as often as it is met; a slice's spare places count too). A statement '..UptoSaid' is the law's where the arguments, and the package variables that the reading takes, are together of bulk at most 1048576: NARROWER than '..Said'. Prove '..Said' where nothing that the law and all that it calls make is longer than what came in: it says more and counts as full. Else prove '..UptoSaid'. A law counts once. -/
mutual
def uptoBulk {H : Type} : DataW H → Nat
  | .lit (.string bytes) => bytes.length + 1
  | .lit _ => 1
  | .nil => 1
  | .ptr d => uptoBulk d + 1
  | .slice elems spare => uptoBulkAll elems + uptoBulkAll spare + 1
  | .agg parts => uptoBulkAll parts + 1
  | .iface _ d => uptoBulk d + 1
  | .map entries => uptoBulkEntries entries + 1
  | .held _ => 1
def uptoBulkAll {H : Type} : List (DataW H) → Nat
  | [] => 0
  | d :: r => uptoBulk d + uptoBulkAll r
def uptoBulkEntries {H : Type} : List (Lit × DataW H) → Nat
  | [] => 0
  | x :: r => uptoBulkEntry x + uptoBulkEntries r
def uptoBulkEntry {H : Type} : Lit × DataW H → Nat
  | (.string bytes, d) => bytes.length + uptoBulk d + 1
  | (_, d) => uptoBulk d + 1
 end
def uptoSmall : (H : Type) → List (DataW H) → Bool := fun _ ds => decide (uptoBulkAll ds ≤ 1048576)
def OpenSpec.upto (s : _root_.Go.ChangeSpec) : _root_.Go.OpenSpec := { _root_.Go.OpenSpec.ofChange s with cond := some uptoSmall }

/-- 'spinneylaw09.SlateBudget', WHERE WHAT IT READS IS OF BULK AT MOST 1048576: true; the input reads as it did. -/
def slateBudgetUptoRow : OpenClaim := { program := "ytjbmhbnlanbbkaadoor", sum := "9ec3d7f8a6fbd6ffcc0e6065c28e6ee29c52ab227ec0a4c7f8f6e75c98fb3f9c", func := "spinney/spinneylaw09.SlateBudget", spec := "slateBudget", inPlace := ["internal/reflectlite.TypeOf", "maps.clone"], unfollowed := true, recurses := true, named := ["spinney/slate.errSpent"], apart := false, laid := [("spinney/slate.errSpent", laid_spinney_slate_errSpent)], narrowed := true }
def SlateBudgetUptoSaid : Prop := slateBudgetUptoRow.holds Tryd.pinned (OpenSpec.upto slateBudgetSpec)

end Rows
end Go.Proofs.YtjbmhbnlanbbkaaDoor
