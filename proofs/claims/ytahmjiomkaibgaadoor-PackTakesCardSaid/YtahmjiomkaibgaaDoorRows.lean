/-
  NARROWER THAN 'FOR EVERY INPUT', by the rows' own cells (each row's printed sentence says how): PackPuts: laid · PackWrites: laid · PackTakes: laid · PackStays: laid · PackApart: laid · PackGoes: laid.
  DERIVED. THE GIVEN ROWS OF THIS SEAT. 6 by the template 'for every input the law returns true; each argument reads behind the call as it read before'; 0 by the template 'total and deterministic' (their statements: YtahmjiomkaibgaaDoorTotals.lean).
  GIVEN WITH THE SEED: the statements are not yours to turn. If you find one false, say at which input.
  Laid BY PROGRAM, IN A SANDBOX (cutbox-rows.mjs): the forced cells as the released guide's own fill.sh prints them over the translation f343e33490402314… (all of the seat's roots in one cut). By AI agents, Wed Nov 11 2026. No macro, syntax, notation, axiom, sorry.
-/
import Derived.Test.YtahmjiomkaibgaaDoorChecked
import GoSem.Claim
import GoSem.ClaimJoined
import GoSem.ClaimMapViews
import Derived.JoinedTies
import Derived.KernelRfl
namespace Go.Proofs.YtahmjiomkaibgaaDoor
/- THE CELL 'sum', in the pinned program and in every row, IS THE sha256 OF THE DUMP (.gsa) THAT YtahmjiomkaibgaaDoorProg.lean LOADS. Nothing in Lean hashes anything: it is a label: what it is worth is what the hold of that sum in a sandbox is worth. -/
noncomputable def Tryd.pinned : Pinned := { name := "ytahmjiomkaibgaadoor", sum := "f343e33490402314eea773711c49e76e2dca1d95abf6cce82b28e67f8de9e723", checked := Tryd.checked }
namespace Rows
def none {H : Type} : Left H := { results := [], args := [] }

/- WHAT THE LISTED PACKAGE-LEVEL VARIABLES READ AS WHEN THE CALL BEGINS. Each datum BY PROGRAM (the guide's laid-datum.mjs) off the statement by which the dump's own 'gosem.cut.vars' lays the variable. In a bare row this is a premise. The card (YtahmjiomkaibgaaDoorCards.lean) ties it to the program's text. -/
def laid_errors_errorType {H : Type} : DataW H := .iface "internal/reflectlite.rtype" (.agg [.ptr (.lit (.string [101, 114, 114, 111, 114]))])
def laid_spinney_pack_errShort {H : Type} : DataW H := .iface "*errors.errorString" (.ptr (.agg [.lit (.string [116, 104, 101, 32, 98, 121, 116, 101, 115, 32, 101, 110, 100, 32, 119, 105, 116, 104, 105, 110, 32, 97, 32, 116, 104, 105, 110, 103])]))

/-- 'spinneylaw05.PackPuts': WHATEVER THE INPUT: true; the input reads as it did. -/
def packPutsSpec : ChangeSpec := { name := "packPuts", fn := fun _ => fun
  | [d1, d2, d3] => { results := [.lit (.bool true)], args := [d1, d2, d3] }
  | _ => none }
def packPutsRow : OpenClaim := { program := "ytahmjiomkaibgaadoor", sum := "f343e33490402314eea773711c49e76e2dca1d95abf6cce82b28e67f8de9e723", func := "spinney/spinneylaw05.PackPuts", spec := "packPuts", inPlace := ["internal/reflectlite.TypeOf", "internal/reflectlite.ValueOf", "(internal/reflectlite.Value).Type", "(internal/reflectlite.Value).IsNil", "(internal/reflectlite.Value).Elem", "(internal/reflectlite.Value).Set"], unfollowed := true, recurses := true, named := ["spinney/pack.errShort", "errors.errorType"], apart := false, laid := [("errors.errorType", laid_errors_errorType), ("spinney/pack.errShort", laid_spinney_pack_errShort)] }
def PackPutsSaid : Prop := packPutsRow.holds Tryd.pinned (OpenSpec.ofChange packPutsSpec)

/-- ITS FALSE NEIGHBOUR: 'it returns false'. Refute it at one input. -/
def packPutsWrong : ChangeSpec := { name := "packPuts", fn := fun _ => fun
  | [d1, d2, d3] => { results := [.lit (.bool false)], args := [d1, d2, d3] }
  | _ => none }
def PackPutsWrongFalsely : Prop := packPutsRow.holds Tryd.pinned (OpenSpec.ofChange packPutsWrong)

/-- 'spinneylaw05.PackWrites': WHATEVER THE INPUT: true; the input reads as it did. -/
def packWritesSpec : ChangeSpec := { name := "packWrites", fn := fun _ => fun
  | [d1, d2] => { results := [.lit (.bool true)], args := [d1, d2] }
  | _ => none }
def packWritesRow : OpenClaim := { program := "ytahmjiomkaibgaadoor", sum := "f343e33490402314eea773711c49e76e2dca1d95abf6cce82b28e67f8de9e723", func := "spinney/spinneylaw05.PackWrites", spec := "packWrites", inPlace := ["internal/reflectlite.TypeOf", "internal/reflectlite.ValueOf", "(internal/reflectlite.Value).Type", "(internal/reflectlite.Value).IsNil", "(internal/reflectlite.Value).Elem", "(internal/reflectlite.Value).Set"], unfollowed := true, recurses := true, named := ["spinney/pack.errShort", "errors.errorType"], apart := false, laid := [("errors.errorType", laid_errors_errorType), ("spinney/pack.errShort", laid_spinney_pack_errShort)] }
def PackWritesSaid : Prop := packWritesRow.holds Tryd.pinned (OpenSpec.ofChange packWritesSpec)

/-- ITS FALSE NEIGHBOUR: 'it returns false'. Refute it at one input. -/
def packWritesWrong : ChangeSpec := { name := "packWrites", fn := fun _ => fun
  | [d1, d2] => { results := [.lit (.bool false)], args := [d1, d2] }
  | _ => none }
def PackWritesWrongFalsely : Prop := packWritesRow.holds Tryd.pinned (OpenSpec.ofChange packWritesWrong)

/-- 'spinneylaw05.PackTakes': WHATEVER THE INPUT: true; the input reads as it did. -/
def packTakesSpec : ChangeSpec := { name := "packTakes", fn := fun _ => fun
  | [d1, d2] => { results := [.lit (.bool true)], args := [d1, d2] }
  | _ => none }
def packTakesRow : OpenClaim := { program := "ytahmjiomkaibgaadoor", sum := "f343e33490402314eea773711c49e76e2dca1d95abf6cce82b28e67f8de9e723", func := "spinney/spinneylaw05.PackTakes", spec := "packTakes", inPlace := ["internal/reflectlite.TypeOf", "internal/reflectlite.ValueOf", "(internal/reflectlite.Value).Type", "(internal/reflectlite.Value).IsNil", "(internal/reflectlite.Value).Elem", "(internal/reflectlite.Value).Set"], unfollowed := true, recurses := true, named := ["spinney/pack.errShort", "errors.errorType"], apart := false, laid := [("errors.errorType", laid_errors_errorType), ("spinney/pack.errShort", laid_spinney_pack_errShort)] }
def PackTakesSaid : Prop := packTakesRow.holds Tryd.pinned (OpenSpec.ofChange packTakesSpec)

/-- ITS FALSE NEIGHBOUR: 'it returns false'. Refute it at one input. -/
def packTakesWrong : ChangeSpec := { name := "packTakes", fn := fun _ => fun
  | [d1, d2] => { results := [.lit (.bool false)], args := [d1, d2] }
  | _ => none }
def PackTakesWrongFalsely : Prop := packTakesRow.holds Tryd.pinned (OpenSpec.ofChange packTakesWrong)

/-- 'spinneylaw05.PackStays': WHATEVER THE INPUT: true; the input reads as it did. -/
def packStaysSpec : ChangeSpec := { name := "packStays", fn := fun _ => fun
  | [d] => { results := [.lit (.bool true)], args := [d] }
  | _ => none }
def packStaysRow : OpenClaim := { program := "ytahmjiomkaibgaadoor", sum := "f343e33490402314eea773711c49e76e2dca1d95abf6cce82b28e67f8de9e723", func := "spinney/spinneylaw05.PackStays", spec := "packStays", inPlace := ["internal/reflectlite.TypeOf", "internal/reflectlite.ValueOf", "(internal/reflectlite.Value).Type", "(internal/reflectlite.Value).IsNil", "(internal/reflectlite.Value).Elem", "(internal/reflectlite.Value).Set"], unfollowed := true, recurses := true, named := ["spinney/pack.errShort", "errors.errorType"], apart := false, laid := [("errors.errorType", laid_errors_errorType), ("spinney/pack.errShort", laid_spinney_pack_errShort)] }
def PackStaysSaid : Prop := packStaysRow.holds Tryd.pinned (OpenSpec.ofChange packStaysSpec)

/-- ITS FALSE NEIGHBOUR: 'it returns false'. Refute it at one input. -/
def packStaysWrong : ChangeSpec := { name := "packStays", fn := fun _ => fun
  | [d] => { results := [.lit (.bool false)], args := [d] }
  | _ => none }
def PackStaysWrongFalsely : Prop := packStaysRow.holds Tryd.pinned (OpenSpec.ofChange packStaysWrong)

/-- 'spinneylaw05.PackApart': WHATEVER THE INPUT: true; the input reads as it did. -/
def packApartSpec : ChangeSpec := { name := "packApart", fn := fun _ => fun
  | [d1, d2, d3] => { results := [.lit (.bool true)], args := [d1, d2, d3] }
  | _ => none }
def packApartRow : OpenClaim := { program := "ytahmjiomkaibgaadoor", sum := "f343e33490402314eea773711c49e76e2dca1d95abf6cce82b28e67f8de9e723", func := "spinney/spinneylaw05.PackApart", spec := "packApart", inPlace := ["internal/reflectlite.TypeOf", "internal/reflectlite.ValueOf", "(internal/reflectlite.Value).Type", "(internal/reflectlite.Value).IsNil", "(internal/reflectlite.Value).Elem", "(internal/reflectlite.Value).Set"], unfollowed := true, recurses := true, named := ["spinney/pack.errShort", "errors.errorType"], apart := false, laid := [("errors.errorType", laid_errors_errorType), ("spinney/pack.errShort", laid_spinney_pack_errShort)] }
def PackApartSaid : Prop := packApartRow.holds Tryd.pinned (OpenSpec.ofChange packApartSpec)

/-- ITS FALSE NEIGHBOUR: 'it returns false'. Refute it at one input. -/
def packApartWrong : ChangeSpec := { name := "packApart", fn := fun _ => fun
  | [d1, d2, d3] => { results := [.lit (.bool false)], args := [d1, d2, d3] }
  | _ => none }
def PackApartWrongFalsely : Prop := packApartRow.holds Tryd.pinned (OpenSpec.ofChange packApartWrong)

/-- 'spinneylaw05.PackGoes': WHATEVER THE INPUT: true; the input reads as it did. -/
def packGoesSpec : ChangeSpec := { name := "packGoes", fn := fun _ => fun
  | [d1, d2, d3] => { results := [.lit (.bool true)], args := [d1, d2, d3] }
  | _ => none }
def packGoesRow : OpenClaim := { program := "ytahmjiomkaibgaadoor", sum := "f343e33490402314eea773711c49e76e2dca1d95abf6cce82b28e67f8de9e723", func := "spinney/spinneylaw05.PackGoes", spec := "packGoes", inPlace := ["internal/reflectlite.TypeOf", "internal/reflectlite.ValueOf", "(internal/reflectlite.Value).Type", "(internal/reflectlite.Value).IsNil", "(internal/reflectlite.Value).Elem", "(internal/reflectlite.Value).Set"], unfollowed := true, recurses := true, named := ["spinney/pack.errShort", "errors.errorType"], apart := false, laid := [("errors.errorType", laid_errors_errorType), ("spinney/pack.errShort", laid_spinney_pack_errShort)] }
def PackGoesSaid : Prop := packGoesRow.holds Tryd.pinned (OpenSpec.ofChange packGoesSpec)

/-- ITS FALSE NEIGHBOUR: 'it returns false'. Refute it at one input. -/
def packGoesWrong : ChangeSpec := { name := "packGoes", fn := fun _ => fun
  | [d1, d2, d3] => { results := [.lit (.bool false)], args := [d1, d2, d3] }
  | _ => none }
def PackGoesWrongFalsely : Prop := packGoesRow.holds Tryd.pinned (OpenSpec.ofChange packGoesWrong)

/- THE SECOND FORM. 'bulk': how many values and letters a reading holds, each counted each time it is reached (what is shared counts as often as it is met; a slice's spare places count too). A statement '..UptoSaid' is the law's where the arguments, and the package variables that the reading takes, are together of bulk at most 1048576: NARROWER than '..Said'. Prove '..Said' where nothing that the law and all that it calls make is longer than what came in: it says more and counts as full. Else prove '..UptoSaid'. A law counts once. -/
mutual
def uptoBulk {H : Type} : DataW H → Nat
  | .lit (.string bytes) => bytes.length + 1
  | .lit _ => 1
  | .nil => 1
  | .ptr d => uptoBulk d + 1
  | .slice elems spare => uptoBulkAll elems + uptoBulkAll spare + 1
  | .agg parts => uptoBulkAll parts + 1
  | .iface _ d => uptoBulk d + 1
  | .map entries => uptoBulkEntries entries + 1
  | .held _ => 1
def uptoBulkAll {H : Type} : List (DataW H) → Nat
  | [] => 0
  | d :: r => uptoBulk d + uptoBulkAll r
def uptoBulkEntries {H : Type} : List (Lit × DataW H) → Nat
  | [] => 0
  | x :: r => uptoBulkEntry x + uptoBulkEntries r
def uptoBulkEntry {H : Type} : Lit × DataW H → Nat
  | (.string bytes, d) => bytes.length + uptoBulk d + 1
  | (_, d) => uptoBulk d + 1
 end
def uptoSmall : (H : Type) → List (DataW H) → Bool := fun _ ds => decide (uptoBulkAll ds ≤ 1048576)
def OpenSpec.upto (s : _root_.Go.ChangeSpec) : _root_.Go.OpenSpec := { _root_.Go.OpenSpec.ofChange s with cond := some uptoSmall }

/-- 'spinneylaw05.PackPuts', WHERE WHAT IT READS IS OF BULK AT MOST 1048576: true; the input reads as it did. -/
def packPutsUptoRow : OpenClaim := { program := "ytahmjiomkaibgaadoor", sum := "f343e33490402314eea773711c49e76e2dca1d95abf6cce82b28e67f8de9e723", func := "spinney/spinneylaw05.PackPuts", spec := "packPuts", inPlace := ["internal/reflectlite.TypeOf", "internal/reflectlite.ValueOf", "(internal/reflectlite.Value).Type", "(internal/reflectlite.Value).IsNil", "(internal/reflectlite.Value).Elem", "(internal/reflectlite.Value).Set"], unfollowed := true, recurses := true, named := ["spinney/pack.errShort", "errors.errorType"], apart := false, laid := [("errors.errorType", laid_errors_errorType), ("spinney/pack.errShort", laid_spinney_pack_errShort)], narrowed := true }
def PackPutsUptoSaid : Prop := packPutsUptoRow.holds Tryd.pinned (OpenSpec.upto packPutsSpec)

/-- 'spinneylaw05.PackWrites', WHERE WHAT IT READS IS OF BULK AT MOST 1048576: true; the input reads as it did. -/
def packWritesUptoRow : OpenClaim := { program := "ytahmjiomkaibgaadoor", sum := "f343e33490402314eea773711c49e76e2dca1d95abf6cce82b28e67f8de9e723", func := "spinney/spinneylaw05.PackWrites", spec := "packWrites", inPlace := ["internal/reflectlite.TypeOf", "internal/reflectlite.ValueOf", "(internal/reflectlite.Value).Type", "(internal/reflectlite.Value).IsNil", "(internal/reflectlite.Value).Elem", "(internal/reflectlite.Value).Set"], unfollowed := true, recurses := true, named := ["spinney/pack.errShort", "errors.errorType"], apart := false, laid := [("errors.errorType", laid_errors_errorType), ("spinney/pack.errShort", laid_spinney_pack_errShort)], narrowed := true }
def PackWritesUptoSaid : Prop := packWritesUptoRow.holds Tryd.pinned (OpenSpec.upto packWritesSpec)

/-- 'spinneylaw05.PackTakes', WHERE WHAT IT READS IS OF BULK AT MOST 1048576: true; the input reads as it did. -/
def packTakesUptoRow : OpenClaim := { program := "ytahmjiomkaibgaadoor", sum := "f343e33490402314eea773711c49e76e2dca1d95abf6cce82b28e67f8de9e723", func := "spinney/spinneylaw05.PackTakes", spec := "packTakes", inPlace := ["internal/reflectlite.TypeOf", "internal/reflectlite.ValueOf", "(internal/reflectlite.Value).Type", "(internal/reflectlite.Value).IsNil", "(internal/reflectlite.Value).Elem", "(internal/reflectlite.Value).Set"], unfollowed := true, recurses := true, named := ["spinney/pack.errShort", "errors.errorType"], apart := false, laid := [("errors.errorType", laid_errors_errorType), ("spinney/pack.errShort", laid_spinney_pack_errShort)], narrowed := true }
def PackTakesUptoSaid : Prop := packTakesUptoRow.holds Tryd.pinned (OpenSpec.upto packTakesSpec)

/-- 'spinneylaw05.PackStays', WHERE WHAT IT READS IS OF BULK AT MOST 1048576: true; the input reads as it did. -/
def packStaysUptoRow : OpenClaim := { program := "ytahmjiomkaibgaadoor", sum := "f343e33490402314eea773711c49e76e2dca1d95abf6cce82b28e67f8de9e723", func := "spinney/spinneylaw05.PackStays", spec := "packStays", inPlace := ["internal/reflectlite.TypeOf", "internal/reflectlite.ValueOf", "(internal/reflectlite.Value).Type", "(internal/reflectlite.Value).IsNil", "(internal/reflectlite.Value).Elem", "(internal/reflectlite.Value).Set"], unfollowed := true, recurses := true, named := ["spinney/pack.errShort", "errors.errorType"], apart := false, laid := [("errors.errorType", laid_errors_errorType), ("spinney/pack.errShort", laid_spinney_pack_errShort)], narrowed := true }
def PackStaysUptoSaid : Prop := packStaysUptoRow.holds Tryd.pinned (OpenSpec.upto packStaysSpec)

/-- 'spinneylaw05.PackApart', WHERE WHAT IT READS IS OF BULK AT MOST 1048576: true; the input reads as it did. -/
def packApartUptoRow : OpenClaim := { program := "ytahmjiomkaibgaadoor", sum := "f343e33490402314eea773711c49e76e2dca1d95abf6cce82b28e67f8de9e723", func := "spinney/spinneylaw05.PackApart", spec := "packApart", inPlace := ["internal/reflectlite.TypeOf", "internal/reflectlite.ValueOf", "(internal/reflectlite.Value).Type", "(internal/reflectlite.Value).IsNil", "(internal/reflectlite.Value).Elem", "(internal/reflectlite.Value).Set"], unfollowed := true, recurses := true, named := ["spinney/pack.errShort", "errors.errorType"], apart := false, laid := [("errors.errorType", laid_errors_errorType), ("spinney/pack.errShort", laid_spinney_pack_errShort)], narrowed := true }
def PackApartUptoSaid : Prop := packApartUptoRow.holds Tryd.pinned (OpenSpec.upto packApartSpec)

/-- 'spinneylaw05.PackGoes', WHERE WHAT IT READS IS OF BULK AT MOST 1048576: true; the input reads as it did. -/
def packGoesUptoRow : OpenClaim := { program := "ytahmjiomkaibgaadoor", sum := "f343e33490402314eea773711c49e76e2dca1d95abf6cce82b28e67f8de9e723", func := "spinney/spinneylaw05.PackGoes", spec := "packGoes", inPlace := ["internal/reflectlite.TypeOf", "internal/reflectlite.ValueOf", "(internal/reflectlite.Value).Type", "(internal/reflectlite.Value).IsNil", "(internal/reflectlite.Value).Elem", "(internal/reflectlite.Value).Set"], unfollowed := true, recurses := true, named := ["spinney/pack.errShort", "errors.errorType"], apart := false, laid := [("errors.errorType", laid_errors_errorType), ("spinney/pack.errShort", laid_spinney_pack_errShort)], narrowed := true }
def PackGoesUptoSaid : Prop := packGoesUptoRow.holds Tryd.pinned (OpenSpec.upto packGoesSpec)

end Rows
end Go.Proofs.YtahmjiomkaibgaaDoor
