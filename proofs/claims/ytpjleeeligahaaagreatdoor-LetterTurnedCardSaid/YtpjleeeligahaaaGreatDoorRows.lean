/-
  NARROWER THAN 'FOR EVERY INPUT', by the rows' own cells (each row's printed sentence says how): RollLines: laid · LetterKinds: laid · LetterTurned: laid.
  DERIVED. THE GIVEN ROWS OF THIS SEAT. 3 by the template 'for every input the law returns true; each argument reads behind the call as it read before'; 0 by the template 'total and deterministic' (their statements: YtpjleeeligahaaaGreatDoorTotals.lean).
  GIVEN WITH THE SEED: the statements are not yours to turn. If you find one false, say at which input.
  Laid BY PROGRAM, IN A SANDBOX (cutbox-rows.mjs): the forced cells as the released guide's own fill.sh prints them over the translation 0c415482f9ca8f27… (all of the seat's roots in one cut). By AI agents, Wed Nov 11 2026. No macro, syntax, notation, axiom, sorry.
-/
import Derived.Test.YtpjleeeligahaaaGreatDoorChecked
import GoSem.Claim
import GoSem.ClaimJoined
import GoSem.ClaimMapViews
import Derived.JoinedTies
import Derived.KernelRfl
namespace Go.Proofs.YtpjleeeligahaaaGreatDoor
/- THE CELL 'sum', in the pinned program and in every row, IS THE sha256 OF THE DUMP (.gsa) THAT YtpjleeeligahaaaGreatDoorProg.lean LOADS. Nothing in Lean hashes anything: it is a label: what it is worth is what the hold of that sum in a sandbox is worth. -/
noncomputable def Tryz.pinned : Pinned := { name := "ytpjleeeligahaaagreatdoor", sum := "0c415482f9ca8f27ab4c364505a51e230de38f9afd06cf81e406c21218c2fc64", checked := Tryz.checked }
namespace Rows
def none {H : Type} : Left H := { results := [], args := [] }

/- WHAT THE LISTED PACKAGE-LEVEL VARIABLES READ AS WHEN THE CALL BEGINS. Each datum BY PROGRAM (the guide's laid-datum.mjs) off the statement by which the dump's own 'gosem.cut.vars' lays the variable. In a bare row this is a premise. The card (YtpjleeeligahaaaGreatDoorCards.lean) ties it to the program's text. -/
def laid_errors_errorType {H : Type} : DataW H := .iface "internal/reflectlite.rtype" (.agg [.ptr (.lit (.string [101, 114, 114, 111, 114]))])
def laid_spinney_pack_errShort {H : Type} : DataW H := .iface "*errors.errorString" (.ptr (.agg [.lit (.string [116, 104, 101, 32, 98, 121, 116, 101, 115, 32, 101, 110, 100, 32, 119, 105, 116, 104, 105, 110, 32, 97, 32, 116, 104, 105, 110, 103])]))
def laid_spinney_frame_fourBits {H : Type} : DataW H := .agg [.lit (.int .u32 0), .lit (.int .u32 274646895), .lit (.int .u32 549293790), .lit (.int .u32 820201905), .lit (.int .u32 1098587580), .lit (.int .u32 1361435347), .lit (.int .u32 1640403810), .lit (.int .u32 1905808397), .lit (.int .u32 2197175160), .lit (.int .u32 2460548119), .lit (.int .u32 2722870694), .lit (.int .u32 2987750089), .lit (.int .u32 3280807620), .lit (.int .u32 3553878443), .lit (.int .u32 3811616794), .lit (.int .u32 4084100981)]

/-- 'spinneylaw07.RollLines': WHATEVER THE INPUT: true; the input reads as it did. -/
def rollLinesSpec : ChangeSpec := { name := "rollLines", fn := fun _ => fun
  | [d1, d2] => { results := [.lit (.bool true)], args := [d1, d2] }
  | _ => none }
def rollLinesRow : OpenClaim := { program := "ytpjleeeligahaaagreatdoor", sum := "0c415482f9ca8f27ab4c364505a51e230de38f9afd06cf81e406c21218c2fc64", func := "spinney/spinneylaw07.RollLines", spec := "rollLines", inPlace := ["internal/reflectlite.TypeOf", "internal/reflectlite.ValueOf", "(internal/reflectlite.Value).Type", "(internal/reflectlite.Value).IsNil", "(internal/reflectlite.Value).Elem", "(internal/reflectlite.Value).Set"], unfollowed := true, recurses := true, named := ["spinney/pack.errShort", "errors.errorType"], apart := false, laid := [("errors.errorType", laid_errors_errorType), ("spinney/pack.errShort", laid_spinney_pack_errShort)] }
def RollLinesSaid : Prop := rollLinesRow.holds Tryz.pinned (OpenSpec.ofChange rollLinesSpec)

/-- ITS FALSE NEIGHBOUR: 'it returns false'. Refute it at one input. -/
def rollLinesWrong : ChangeSpec := { name := "rollLines", fn := fun _ => fun
  | [d1, d2] => { results := [.lit (.bool false)], args := [d1, d2] }
  | _ => none }
def RollLinesWrongFalsely : Prop := rollLinesRow.holds Tryz.pinned (OpenSpec.ofChange rollLinesWrong)

/-- 'spinneylaw08.LetterKinds': WHATEVER THE INPUT: true; the input reads as it did. -/
def letterKindsSpec : ChangeSpec := { name := "letterKinds", fn := fun _ => fun
  | [d1, d2] => { results := [.lit (.bool true)], args := [d1, d2] }
  | _ => none }
def letterKindsRow : OpenClaim := { program := "ytpjleeeligahaaagreatdoor", sum := "0c415482f9ca8f27ab4c364505a51e230de38f9afd06cf81e406c21218c2fc64", func := "spinney/spinneylaw08.LetterKinds", spec := "letterKinds", inPlace := ["internal/reflectlite.ValueOf", "(internal/reflectlite.Value).Type", "(internal/reflectlite.Value).IsNil", "internal/reflectlite.TypeOf", "(internal/reflectlite.Value).Elem", "(internal/reflectlite.Value).Set"], unfollowed := true, recurses := true, named := ["errors.errorType", "spinney/frame.fourBits"], apart := false, laid := [("errors.errorType", laid_errors_errorType), ("spinney/frame.fourBits", laid_spinney_frame_fourBits)] }
def LetterKindsSaid : Prop := letterKindsRow.holds Tryz.pinned (OpenSpec.ofChange letterKindsSpec)

/-- ITS FALSE NEIGHBOUR: 'it returns false'. Refute it at one input. -/
def letterKindsWrong : ChangeSpec := { name := "letterKinds", fn := fun _ => fun
  | [d1, d2] => { results := [.lit (.bool false)], args := [d1, d2] }
  | _ => none }
def LetterKindsWrongFalsely : Prop := letterKindsRow.holds Tryz.pinned (OpenSpec.ofChange letterKindsWrong)

/-- 'spinneylaw08.LetterTurned': WHATEVER THE INPUT: true; the input reads as it did. -/
def letterTurnedSpec : ChangeSpec := { name := "letterTurned", fn := fun _ => fun
  | [d1, d2] => { results := [.lit (.bool true)], args := [d1, d2] }
  | _ => none }
def letterTurnedRow : OpenClaim := { program := "ytpjleeeligahaaagreatdoor", sum := "0c415482f9ca8f27ab4c364505a51e230de38f9afd06cf81e406c21218c2fc64", func := "spinney/spinneylaw08.LetterTurned", spec := "letterTurned", inPlace := ["internal/reflectlite.ValueOf", "(internal/reflectlite.Value).Type", "(internal/reflectlite.Value).IsNil", "internal/reflectlite.TypeOf", "(internal/reflectlite.Value).Elem", "(internal/reflectlite.Value).Set"], unfollowed := true, recurses := true, named := ["errors.errorType", "spinney/frame.fourBits", "spinney/pack.errShort"], apart := false, laid := [("errors.errorType", laid_errors_errorType), ("spinney/frame.fourBits", laid_spinney_frame_fourBits), ("spinney/pack.errShort", laid_spinney_pack_errShort)] }
def LetterTurnedSaid : Prop := letterTurnedRow.holds Tryz.pinned (OpenSpec.ofChange letterTurnedSpec)

/-- ITS FALSE NEIGHBOUR: 'it returns false'. Refute it at one input. -/
def letterTurnedWrong : ChangeSpec := { name := "letterTurned", fn := fun _ => fun
  | [d1, d2] => { results := [.lit (.bool false)], args := [d1, d2] }
  | _ => none }
def LetterTurnedWrongFalsely : Prop := letterTurnedRow.holds Tryz.pinned (OpenSpec.ofChange letterTurnedWrong)

/- THE SECOND FORM. 'bulk': how many values and letters a reading holds, each counted each time it is reached (what is shared counts as often as it is met; a slice's spare places count too). A statement '..UptoSaid' is the law's where the arguments, and the package variables that the reading takes, are together of bulk at most 1048576: NARROWER than '..Said'. Prove '..Said' where nothing that the law and all that it calls make is longer than what came in: it says more and counts as full. Else prove '..UptoSaid'. A law counts once. -/
mutual
def uptoBulk {H : Type} : DataW H → Nat
  | .lit (.string bytes) => bytes.length + 1
  | .lit _ => 1
  | .nil => 1
  | .ptr d => uptoBulk d + 1
  | .slice elems spare => uptoBulkAll elems + uptoBulkAll spare + 1
  | .agg parts => uptoBulkAll parts + 1
  | .iface _ d => uptoBulk d + 1
  | .map entries => uptoBulkEntries entries + 1
  | .held _ => 1
def uptoBulkAll {H : Type} : List (DataW H) → Nat
  | [] => 0
  | d :: r => uptoBulk d + uptoBulkAll r
def uptoBulkEntries {H : Type} : List (Lit × DataW H) → Nat
  | [] => 0
  | x :: r => uptoBulkEntry x + uptoBulkEntries r
def uptoBulkEntry {H : Type} : Lit × DataW H → Nat
  | (.string bytes, d) => bytes.length + uptoBulk d + 1
  | (_, d) => uptoBulk d + 1
 end
def uptoSmall : (H : Type) → List (DataW H) → Bool := fun _ ds => decide (uptoBulkAll ds ≤ 1048576)
def OpenSpec.upto (s : _root_.Go.ChangeSpec) : _root_.Go.OpenSpec := { _root_.Go.OpenSpec.ofChange s with cond := some uptoSmall }

/-- 'spinneylaw07.RollLines', WHERE WHAT IT READS IS OF BULK AT MOST 1048576: true; the input reads as it did. -/
def rollLinesUptoRow : OpenClaim := { program := "ytpjleeeligahaaagreatdoor", sum := "0c415482f9ca8f27ab4c364505a51e230de38f9afd06cf81e406c21218c2fc64", func := "spinney/spinneylaw07.RollLines", spec := "rollLines", inPlace := ["internal/reflectlite.TypeOf", "internal/reflectlite.ValueOf", "(internal/reflectlite.Value).Type", "(internal/reflectlite.Value).IsNil", "(internal/reflectlite.Value).Elem", "(internal/reflectlite.Value).Set"], unfollowed := true, recurses := true, named := ["spinney/pack.errShort", "errors.errorType"], apart := false, laid := [("errors.errorType", laid_errors_errorType), ("spinney/pack.errShort", laid_spinney_pack_errShort)], narrowed := true }
def RollLinesUptoSaid : Prop := rollLinesUptoRow.holds Tryz.pinned (OpenSpec.upto rollLinesSpec)

/-- 'spinneylaw08.LetterKinds', WHERE WHAT IT READS IS OF BULK AT MOST 1048576: true; the input reads as it did. -/
def letterKindsUptoRow : OpenClaim := { program := "ytpjleeeligahaaagreatdoor", sum := "0c415482f9ca8f27ab4c364505a51e230de38f9afd06cf81e406c21218c2fc64", func := "spinney/spinneylaw08.LetterKinds", spec := "letterKinds", inPlace := ["internal/reflectlite.ValueOf", "(internal/reflectlite.Value).Type", "(internal/reflectlite.Value).IsNil", "internal/reflectlite.TypeOf", "(internal/reflectlite.Value).Elem", "(internal/reflectlite.Value).Set"], unfollowed := true, recurses := true, named := ["errors.errorType", "spinney/frame.fourBits"], apart := false, laid := [("errors.errorType", laid_errors_errorType), ("spinney/frame.fourBits", laid_spinney_frame_fourBits)], narrowed := true }
def LetterKindsUptoSaid : Prop := letterKindsUptoRow.holds Tryz.pinned (OpenSpec.upto letterKindsSpec)

/-- 'spinneylaw08.LetterTurned', WHERE WHAT IT READS IS OF BULK AT MOST 1048576: true; the input reads as it did. -/
def letterTurnedUptoRow : OpenClaim := { program := "ytpjleeeligahaaagreatdoor", sum := "0c415482f9ca8f27ab4c364505a51e230de38f9afd06cf81e406c21218c2fc64", func := "spinney/spinneylaw08.LetterTurned", spec := "letterTurned", inPlace := ["internal/reflectlite.ValueOf", "(internal/reflectlite.Value).Type", "(internal/reflectlite.Value).IsNil", "internal/reflectlite.TypeOf", "(internal/reflectlite.Value).Elem", "(internal/reflectlite.Value).Set"], unfollowed := true, recurses := true, named := ["errors.errorType", "spinney/frame.fourBits", "spinney/pack.errShort"], apart := false, laid := [("errors.errorType", laid_errors_errorType), ("spinney/frame.fourBits", laid_spinney_frame_fourBits), ("spinney/pack.errShort", laid_spinney_pack_errShort)], narrowed := true }
def LetterTurnedUptoSaid : Prop := letterTurnedUptoRow.holds Tryz.pinned (OpenSpec.upto letterTurnedSpec)

end Rows
end Go.Proofs.YtpjleeeligahaaaGreatDoor
