/-
  NARROWER THAN 'FOR EVERY INPUT', by the rows' own cells (each row's printed sentence says how): ReachTexts: laid · FrameSeals: laid · FrameOpens: laid · FrameScans: laid · FrameTurned: laid · FrameChains: laid · FrameGreat: laid.
  DERIVED. THE GIVEN ROWS OF THIS SEAT. 7 by the template 'for every input the law returns true; each argument reads behind the call as it read before'; 0 by the template 'total and deterministic' (their statements: YtokkmofcijfmiaaDoorTotals.lean).
  GIVEN WITH THE SEED: the statements are not yours to turn. If you find one false, say at which input.
  Laid BY PROGRAM, IN A SANDBOX (cutbox-rows.mjs): the forced cells as the released guide's own fill.sh prints them over the translation 36ed5375b2becb5b… (all of the seat's roots in one cut). By AI agents, Wed Nov 11 2026. No macro, syntax, notation, axiom, sorry.
-/
import Derived.Test.YtokkmofcijfmiaaDoorChecked
import GoSem.PinnedTables
import GoSem.Claim
import GoSem.ClaimJoined
import GoSem.ClaimMapViews
import Derived.JoinedTies
import Derived.KernelRfl
namespace Go.Proofs.YtokkmofcijfmiaaDoor
/- THE CELL 'sum', in the pinned program and in every row, IS THE sha256 OF THE DUMP (.gsa) THAT YtokkmofcijfmiaaDoorProg.lean LOADS. Nothing in Lean hashes anything: it is a label: what it is worth is what the hold of that sum in a sandbox is worth. -/
noncomputable def Tryd.pinned : Pinned := { name := "ytokkmofcijfmiaadoor", sum := "36ed5375b2becb5b112fc4bab4ec4edfeee041dc5a6c2b7ac6d502e3e660cdc0", checked := Tryd.checked }
namespace Rows
def none {H : Type} : Left H := { results := [], args := [] }

/- WHAT THE LISTED PACKAGE-LEVEL VARIABLES READ AS WHEN THE CALL BEGINS. Each datum BY PROGRAM (the guide's laid-datum.mjs) off the statement by which the dump's own 'gosem.cut.vars' lays the variable. In a bare row this is a premise. The card (YtokkmofcijfmiaaDoorCards.lean) ties it to the program's text. -/
def laid_unicode_utf8_acceptRanges {H : Type} : DataW H := .agg [.agg [.lit (.int .u8 128), .lit (.int .u8 191)], .agg [.lit (.int .u8 160), .lit (.int .u8 191)], .agg [.lit (.int .u8 128), .lit (.int .u8 159)], .agg [.lit (.int .u8 144), .lit (.int .u8 191)], .agg [.lit (.int .u8 128), .lit (.int .u8 143)], .agg [.lit (.int .u8 0), .lit (.int .u8 0)], .agg [.lit (.int .u8 0), .lit (.int .u8 0)], .agg [.lit (.int .u8 0), .lit (.int .u8 0)], .agg [.lit (.int .u8 0), .lit (.int .u8 0)], .agg [.lit (.int .u8 0), .lit (.int .u8 0)], .agg [.lit (.int .u8 0), .lit (.int .u8 0)], .agg [.lit (.int .u8 0), .lit (.int .u8 0)], .agg [.lit (.int .u8 0), .lit (.int .u8 0)], .agg [.lit (.int .u8 0), .lit (.int .u8 0)], .agg [.lit (.int .u8 0), .lit (.int .u8 0)], .agg [.lit (.int .u8 0), .lit (.int .u8 0)]]
/-- One of Go's own tables, pinned by name: the form's constant. -/
def laid_unicode_utf8_first : DataW Unit := Go.Pinned.utf8First
def laid_errors_errorType {H : Type} : DataW H := .iface "internal/reflectlite.rtype" (.agg [.ptr (.lit (.string [101, 114, 114, 111, 114]))])
def laid_spinney_frame_fourBits {H : Type} : DataW H := .agg [.lit (.int .u32 0), .lit (.int .u32 274646895), .lit (.int .u32 549293790), .lit (.int .u32 820201905), .lit (.int .u32 1098587580), .lit (.int .u32 1361435347), .lit (.int .u32 1640403810), .lit (.int .u32 1905808397), .lit (.int .u32 2197175160), .lit (.int .u32 2460548119), .lit (.int .u32 2722870694), .lit (.int .u32 2987750089), .lit (.int .u32 3280807620), .lit (.int .u32 3553878443), .lit (.int .u32 3811616794), .lit (.int .u32 4084100981)]

/-- 'spinneylaw04.ReachTexts': WHATEVER THE INPUT: true; the input reads as it did. -/
def reachTextsSpec : ChangeSpec := { name := "reachTexts", fn := fun _ => fun
  | [d1, d2] => { results := [.lit (.bool true)], args := [d1, d2] }
  | _ => none }
def reachTextsRow : OpenClaim := { program := "ytokkmofcijfmiaadoor", sum := "36ed5375b2becb5b112fc4bab4ec4edfeee041dc5a6c2b7ac6d502e3e660cdc0", func := "spinney/spinneylaw04.ReachTexts", spec := "reachTexts", inPlace := ["internal/abi.NoEscape", "internal/bytealg.CountString", "internal/bytealg.IndexByteString", "internal/bytealg.IndexString"], unfollowed := true, recurses := true, named := ["unicode/utf8.first", "unicode/utf8.acceptRanges", "internal/bytealg.MaxLen"], apart := false, laid := [("unicode/utf8.acceptRanges", laid_unicode_utf8_acceptRanges), ("unicode/utf8.first", laid_unicode_utf8_first)] }
def ReachTextsSaid : Prop := reachTextsRow.holds Tryd.pinned (OpenSpec.ofChange reachTextsSpec)

/-- ITS FALSE NEIGHBOUR: 'it returns false'. Refute it at one input. -/
def reachTextsWrong : ChangeSpec := { name := "reachTexts", fn := fun _ => fun
  | [d1, d2] => { results := [.lit (.bool false)], args := [d1, d2] }
  | _ => none }
def ReachTextsWrongFalsely : Prop := reachTextsRow.holds Tryd.pinned (OpenSpec.ofChange reachTextsWrong)

/-- 'spinneylaw06.FrameSeals': WHATEVER THE INPUT: true; the input reads as it did. -/
def frameSealsSpec : ChangeSpec := { name := "frameSeals", fn := fun _ => fun
  | [d1, d2] => { results := [.lit (.bool true)], args := [d1, d2] }
  | _ => none }
def frameSealsRow : OpenClaim := { program := "ytokkmofcijfmiaadoor", sum := "36ed5375b2becb5b112fc4bab4ec4edfeee041dc5a6c2b7ac6d502e3e660cdc0", func := "spinney/spinneylaw06.FrameSeals", spec := "frameSeals", inPlace := ["internal/reflectlite.ValueOf", "(internal/reflectlite.Value).Type", "(internal/reflectlite.Value).IsNil", "internal/reflectlite.TypeOf", "(internal/reflectlite.Value).Elem", "(internal/reflectlite.Value).Set"], unfollowed := true, recurses := true, named := ["errors.errorType", "spinney/frame.fourBits"], apart := false, laid := [("errors.errorType", laid_errors_errorType), ("spinney/frame.fourBits", laid_spinney_frame_fourBits)] }
def FrameSealsSaid : Prop := frameSealsRow.holds Tryd.pinned (OpenSpec.ofChange frameSealsSpec)

/-- ITS FALSE NEIGHBOUR: 'it returns false'. Refute it at one input. -/
def frameSealsWrong : ChangeSpec := { name := "frameSeals", fn := fun _ => fun
  | [d1, d2] => { results := [.lit (.bool false)], args := [d1, d2] }
  | _ => none }
def FrameSealsWrongFalsely : Prop := frameSealsRow.holds Tryd.pinned (OpenSpec.ofChange frameSealsWrong)

/-- 'spinneylaw06.FrameOpens': WHATEVER THE INPUT: true; the input reads as it did. -/
def frameOpensSpec : ChangeSpec := { name := "frameOpens", fn := fun _ => fun
  | [d] => { results := [.lit (.bool true)], args := [d] }
  | _ => none }
def frameOpensRow : OpenClaim := { program := "ytokkmofcijfmiaadoor", sum := "36ed5375b2becb5b112fc4bab4ec4edfeee041dc5a6c2b7ac6d502e3e660cdc0", func := "spinney/spinneylaw06.FrameOpens", spec := "frameOpens", inPlace := ["internal/reflectlite.ValueOf", "(internal/reflectlite.Value).Type", "(internal/reflectlite.Value).IsNil", "internal/reflectlite.TypeOf", "(internal/reflectlite.Value).Elem", "(internal/reflectlite.Value).Set"], unfollowed := true, recurses := true, named := ["errors.errorType", "spinney/frame.fourBits"], apart := false, laid := [("errors.errorType", laid_errors_errorType), ("spinney/frame.fourBits", laid_spinney_frame_fourBits)] }
def FrameOpensSaid : Prop := frameOpensRow.holds Tryd.pinned (OpenSpec.ofChange frameOpensSpec)

/-- ITS FALSE NEIGHBOUR: 'it returns false'. Refute it at one input. -/
def frameOpensWrong : ChangeSpec := { name := "frameOpens", fn := fun _ => fun
  | [d] => { results := [.lit (.bool false)], args := [d] }
  | _ => none }
def FrameOpensWrongFalsely : Prop := frameOpensRow.holds Tryd.pinned (OpenSpec.ofChange frameOpensWrong)

/-- 'spinneylaw06.FrameScans': WHATEVER THE INPUT: true; the input reads as it did. -/
def frameScansSpec : ChangeSpec := { name := "frameScans", fn := fun _ => fun
  | [d] => { results := [.lit (.bool true)], args := [d] }
  | _ => none }
def frameScansRow : OpenClaim := { program := "ytokkmofcijfmiaadoor", sum := "36ed5375b2becb5b112fc4bab4ec4edfeee041dc5a6c2b7ac6d502e3e660cdc0", func := "spinney/spinneylaw06.FrameScans", spec := "frameScans", inPlace := ["internal/reflectlite.ValueOf", "(internal/reflectlite.Value).Type", "(internal/reflectlite.Value).IsNil", "internal/reflectlite.TypeOf", "(internal/reflectlite.Value).Elem", "(internal/reflectlite.Value).Set"], unfollowed := true, recurses := true, named := ["errors.errorType", "spinney/frame.fourBits"], apart := false, laid := [("errors.errorType", laid_errors_errorType), ("spinney/frame.fourBits", laid_spinney_frame_fourBits)] }
def FrameScansSaid : Prop := frameScansRow.holds Tryd.pinned (OpenSpec.ofChange frameScansSpec)

/-- ITS FALSE NEIGHBOUR: 'it returns false'. Refute it at one input. -/
def frameScansWrong : ChangeSpec := { name := "frameScans", fn := fun _ => fun
  | [d] => { results := [.lit (.bool false)], args := [d] }
  | _ => none }
def FrameScansWrongFalsely : Prop := frameScansRow.holds Tryd.pinned (OpenSpec.ofChange frameScansWrong)

/-- 'spinneylaw06.FrameTurned': WHATEVER THE INPUT: true; the input reads as it did. -/
def frameTurnedSpec : ChangeSpec := { name := "frameTurned", fn := fun _ => fun
  | [d1, d2, d3] => { results := [.lit (.bool true)], args := [d1, d2, d3] }
  | _ => none }
def frameTurnedRow : OpenClaim := { program := "ytokkmofcijfmiaadoor", sum := "36ed5375b2becb5b112fc4bab4ec4edfeee041dc5a6c2b7ac6d502e3e660cdc0", func := "spinney/spinneylaw06.FrameTurned", spec := "frameTurned", inPlace := ["internal/reflectlite.ValueOf", "(internal/reflectlite.Value).Type", "(internal/reflectlite.Value).IsNil", "internal/reflectlite.TypeOf", "(internal/reflectlite.Value).Elem", "(internal/reflectlite.Value).Set"], unfollowed := true, recurses := true, named := ["errors.errorType", "spinney/frame.fourBits"], apart := false, laid := [("errors.errorType", laid_errors_errorType), ("spinney/frame.fourBits", laid_spinney_frame_fourBits)] }
def FrameTurnedSaid : Prop := frameTurnedRow.holds Tryd.pinned (OpenSpec.ofChange frameTurnedSpec)

/-- ITS FALSE NEIGHBOUR: 'it returns false'. Refute it at one input. -/
def frameTurnedWrong : ChangeSpec := { name := "frameTurned", fn := fun _ => fun
  | [d1, d2, d3] => { results := [.lit (.bool false)], args := [d1, d2, d3] }
  | _ => none }
def FrameTurnedWrongFalsely : Prop := frameTurnedRow.holds Tryd.pinned (OpenSpec.ofChange frameTurnedWrong)

/-- 'spinneylaw06.FrameChains': WHATEVER THE INPUT: true; the input reads as it did. -/
def frameChainsSpec : ChangeSpec := { name := "frameChains", fn := fun _ => fun
  | [d1, d2] => { results := [.lit (.bool true)], args := [d1, d2] }
  | _ => none }
def frameChainsRow : OpenClaim := { program := "ytokkmofcijfmiaadoor", sum := "36ed5375b2becb5b112fc4bab4ec4edfeee041dc5a6c2b7ac6d502e3e660cdc0", func := "spinney/spinneylaw06.FrameChains", spec := "frameChains", inPlace := ["internal/reflectlite.ValueOf", "(internal/reflectlite.Value).Type", "(internal/reflectlite.Value).IsNil", "internal/reflectlite.TypeOf", "(internal/reflectlite.Value).Elem", "(internal/reflectlite.Value).Set"], unfollowed := true, recurses := true, named := ["errors.errorType", "spinney/frame.fourBits"], apart := false, laid := [("errors.errorType", laid_errors_errorType), ("spinney/frame.fourBits", laid_spinney_frame_fourBits)] }
def FrameChainsSaid : Prop := frameChainsRow.holds Tryd.pinned (OpenSpec.ofChange frameChainsSpec)

/-- ITS FALSE NEIGHBOUR: 'it returns false'. Refute it at one input. -/
def frameChainsWrong : ChangeSpec := { name := "frameChains", fn := fun _ => fun
  | [d1, d2] => { results := [.lit (.bool false)], args := [d1, d2] }
  | _ => none }
def FrameChainsWrongFalsely : Prop := frameChainsRow.holds Tryd.pinned (OpenSpec.ofChange frameChainsWrong)

/-- 'spinneylaw06.FrameGreat': WHATEVER THE INPUT: true; the input reads as it did. -/
def frameGreatSpec : ChangeSpec := { name := "frameGreat", fn := fun _ => fun
  | [d] => { results := [.lit (.bool true)], args := [d] }
  | _ => none }
def frameGreatRow : OpenClaim := { program := "ytokkmofcijfmiaadoor", sum := "36ed5375b2becb5b112fc4bab4ec4edfeee041dc5a6c2b7ac6d502e3e660cdc0", func := "spinney/spinneylaw06.FrameGreat", spec := "frameGreat", inPlace := ["internal/reflectlite.ValueOf", "(internal/reflectlite.Value).Type", "(internal/reflectlite.Value).IsNil", "internal/reflectlite.TypeOf", "(internal/reflectlite.Value).Elem", "(internal/reflectlite.Value).Set"], unfollowed := true, recurses := true, named := ["errors.errorType", "spinney/frame.fourBits"], apart := false, laid := [("errors.errorType", laid_errors_errorType), ("spinney/frame.fourBits", laid_spinney_frame_fourBits)] }
def FrameGreatSaid : Prop := frameGreatRow.holds Tryd.pinned (OpenSpec.ofChange frameGreatSpec)

/-- ITS FALSE NEIGHBOUR: 'it returns false'. Refute it at one input. -/
def frameGreatWrong : ChangeSpec := { name := "frameGreat", fn := fun _ => fun
  | [d] => { results := [.lit (.bool false)], args := [d] }
  | _ => none }
def FrameGreatWrongFalsely : Prop := frameGreatRow.holds Tryd.pinned (OpenSpec.ofChange frameGreatWrong)

/- THE SECOND FORM. 'bulk': how many values and letters a reading holds, each counted each time it is reached (what is shared counts as often as it is met; a slice's spare places count too). A statement '..UptoSaid' is the law's where the arguments, and the package variables that the reading takes, are together of bulk at most 1048576: NARROWER than '..Said'. Prove '..Said' where nothing that the law and all that it calls make is longer than what came in: it says more and counts as full. Else prove '..UptoSaid'. A law counts once. -/
mutual
def uptoBulk {H : Type} : DataW H → Nat
  | .lit (.string bytes) => bytes.length + 1
  | .lit _ => 1
  | .nil => 1
  | .ptr d => uptoBulk d + 1
  | .slice elems spare => uptoBulkAll elems + uptoBulkAll spare + 1
  | .agg parts => uptoBulkAll parts + 1
  | .iface _ d => uptoBulk d + 1
  | .map entries => uptoBulkEntries entries + 1
  | .held _ => 1
def uptoBulkAll {H : Type} : List (DataW H) → Nat
  | [] => 0
  | d :: r => uptoBulk d + uptoBulkAll r
def uptoBulkEntries {H : Type} : List (Lit × DataW H) → Nat
  | [] => 0
  | x :: r => uptoBulkEntry x + uptoBulkEntries r
def uptoBulkEntry {H : Type} : Lit × DataW H → Nat
  | (.string bytes, d) => bytes.length + uptoBulk d + 1
  | (_, d) => uptoBulk d + 1
 end
def uptoSmall : (H : Type) → List (DataW H) → Bool := fun _ ds => decide (uptoBulkAll ds ≤ 1048576)
def OpenSpec.upto (s : _root_.Go.ChangeSpec) : _root_.Go.OpenSpec := { _root_.Go.OpenSpec.ofChange s with cond := some uptoSmall }

/-- 'spinneylaw04.ReachTexts', WHERE WHAT IT READS IS OF BULK AT MOST 1048576: true; the input reads as it did. -/
def reachTextsUptoRow : OpenClaim := { program := "ytokkmofcijfmiaadoor", sum := "36ed5375b2becb5b112fc4bab4ec4edfeee041dc5a6c2b7ac6d502e3e660cdc0", func := "spinney/spinneylaw04.ReachTexts", spec := "reachTexts", inPlace := ["internal/abi.NoEscape", "internal/bytealg.CountString", "internal/bytealg.IndexByteString", "internal/bytealg.IndexString"], unfollowed := true, recurses := true, named := ["unicode/utf8.first", "unicode/utf8.acceptRanges", "internal/bytealg.MaxLen"], apart := false, laid := [("unicode/utf8.acceptRanges", laid_unicode_utf8_acceptRanges), ("unicode/utf8.first", laid_unicode_utf8_first)], narrowed := true }
def ReachTextsUptoSaid : Prop := reachTextsUptoRow.holds Tryd.pinned (OpenSpec.upto reachTextsSpec)

/-- 'spinneylaw06.FrameSeals', WHERE WHAT IT READS IS OF BULK AT MOST 1048576: true; the input reads as it did. -/
def frameSealsUptoRow : OpenClaim := { program := "ytokkmofcijfmiaadoor", sum := "36ed5375b2becb5b112fc4bab4ec4edfeee041dc5a6c2b7ac6d502e3e660cdc0", func := "spinney/spinneylaw06.FrameSeals", spec := "frameSeals", inPlace := ["internal/reflectlite.ValueOf", "(internal/reflectlite.Value).Type", "(internal/reflectlite.Value).IsNil", "internal/reflectlite.TypeOf", "(internal/reflectlite.Value).Elem", "(internal/reflectlite.Value).Set"], unfollowed := true, recurses := true, named := ["errors.errorType", "spinney/frame.fourBits"], apart := false, laid := [("errors.errorType", laid_errors_errorType), ("spinney/frame.fourBits", laid_spinney_frame_fourBits)], narrowed := true }
def FrameSealsUptoSaid : Prop := frameSealsUptoRow.holds Tryd.pinned (OpenSpec.upto frameSealsSpec)

/-- 'spinneylaw06.FrameOpens', WHERE WHAT IT READS IS OF BULK AT MOST 1048576: true; the input reads as it did. -/
def frameOpensUptoRow : OpenClaim := { program := "ytokkmofcijfmiaadoor", sum := "36ed5375b2becb5b112fc4bab4ec4edfeee041dc5a6c2b7ac6d502e3e660cdc0", func := "spinney/spinneylaw06.FrameOpens", spec := "frameOpens", inPlace := ["internal/reflectlite.ValueOf", "(internal/reflectlite.Value).Type", "(internal/reflectlite.Value).IsNil", "internal/reflectlite.TypeOf", "(internal/reflectlite.Value).Elem", "(internal/reflectlite.Value).Set"], unfollowed := true, recurses := true, named := ["errors.errorType", "spinney/frame.fourBits"], apart := false, laid := [("errors.errorType", laid_errors_errorType), ("spinney/frame.fourBits", laid_spinney_frame_fourBits)], narrowed := true }
def FrameOpensUptoSaid : Prop := frameOpensUptoRow.holds Tryd.pinned (OpenSpec.upto frameOpensSpec)

/-- 'spinneylaw06.FrameScans', WHERE WHAT IT READS IS OF BULK AT MOST 1048576: true; the input reads as it did. -/
def frameScansUptoRow : OpenClaim := { program := "ytokkmofcijfmiaadoor", sum := "36ed5375b2becb5b112fc4bab4ec4edfeee041dc5a6c2b7ac6d502e3e660cdc0", func := "spinney/spinneylaw06.FrameScans", spec := "frameScans", inPlace := ["internal/reflectlite.ValueOf", "(internal/reflectlite.Value).Type", "(internal/reflectlite.Value).IsNil", "internal/reflectlite.TypeOf", "(internal/reflectlite.Value).Elem", "(internal/reflectlite.Value).Set"], unfollowed := true, recurses := true, named := ["errors.errorType", "spinney/frame.fourBits"], apart := false, laid := [("errors.errorType", laid_errors_errorType), ("spinney/frame.fourBits", laid_spinney_frame_fourBits)], narrowed := true }
def FrameScansUptoSaid : Prop := frameScansUptoRow.holds Tryd.pinned (OpenSpec.upto frameScansSpec)

/-- 'spinneylaw06.FrameTurned', WHERE WHAT IT READS IS OF BULK AT MOST 1048576: true; the input reads as it did. -/
def frameTurnedUptoRow : OpenClaim := { program := "ytokkmofcijfmiaadoor", sum := "36ed5375b2becb5b112fc4bab4ec4edfeee041dc5a6c2b7ac6d502e3e660cdc0", func := "spinney/spinneylaw06.FrameTurned", spec := "frameTurned", inPlace := ["internal/reflectlite.ValueOf", "(internal/reflectlite.Value).Type", "(internal/reflectlite.Value).IsNil", "internal/reflectlite.TypeOf", "(internal/reflectlite.Value).Elem", "(internal/reflectlite.Value).Set"], unfollowed := true, recurses := true, named := ["errors.errorType", "spinney/frame.fourBits"], apart := false, laid := [("errors.errorType", laid_errors_errorType), ("spinney/frame.fourBits", laid_spinney_frame_fourBits)], narrowed := true }
def FrameTurnedUptoSaid : Prop := frameTurnedUptoRow.holds Tryd.pinned (OpenSpec.upto frameTurnedSpec)

/-- 'spinneylaw06.FrameChains', WHERE WHAT IT READS IS OF BULK AT MOST 1048576: true; the input reads as it did. -/
def frameChainsUptoRow : OpenClaim := { program := "ytokkmofcijfmiaadoor", sum := "36ed5375b2becb5b112fc4bab4ec4edfeee041dc5a6c2b7ac6d502e3e660cdc0", func := "spinney/spinneylaw06.FrameChains", spec := "frameChains", inPlace := ["internal/reflectlite.ValueOf", "(internal/reflectlite.Value).Type", "(internal/reflectlite.Value).IsNil", "internal/reflectlite.TypeOf", "(internal/reflectlite.Value).Elem", "(internal/reflectlite.Value).Set"], unfollowed := true, recurses := true, named := ["errors.errorType", "spinney/frame.fourBits"], apart := false, laid := [("errors.errorType", laid_errors_errorType), ("spinney/frame.fourBits", laid_spinney_frame_fourBits)], narrowed := true }
def FrameChainsUptoSaid : Prop := frameChainsUptoRow.holds Tryd.pinned (OpenSpec.upto frameChainsSpec)

/-- 'spinneylaw06.FrameGreat', WHERE WHAT IT READS IS OF BULK AT MOST 1048576: true; the input reads as it did. -/
def frameGreatUptoRow : OpenClaim := { program := "ytokkmofcijfmiaadoor", sum := "36ed5375b2becb5b112fc4bab4ec4edfeee041dc5a6c2b7ac6d502e3e660cdc0", func := "spinney/spinneylaw06.FrameGreat", spec := "frameGreat", inPlace := ["internal/reflectlite.ValueOf", "(internal/reflectlite.Value).Type", "(internal/reflectlite.Value).IsNil", "internal/reflectlite.TypeOf", "(internal/reflectlite.Value).Elem", "(internal/reflectlite.Value).Set"], unfollowed := true, recurses := true, named := ["errors.errorType", "spinney/frame.fourBits"], apart := false, laid := [("errors.errorType", laid_errors_errorType), ("spinney/frame.fourBits", laid_spinney_frame_fourBits)], narrowed := true }
def FrameGreatUptoSaid : Prop := frameGreatUptoRow.holds Tryd.pinned (OpenSpec.upto frameGreatSpec)

end Rows
end Go.Proofs.YtokkmofcijfmiaaDoor
