/-
  No cell of these rows narrows 'for every input' (looked for: loops, veiled, ifaces, maps, wideKeys, modest, calm, conditions, laid).
  DERIVED. THE GIVEN ROWS OF THIS SEAT. 3 by the template 'for every input the law returns true; each argument reads behind the call as it read before'; 0 by the template 'total and deterministic' (their statements: YtokkmofcijfmiabTotals.lean).
  GIVEN WITH THE SEED: the statements are not yours to turn. If you find one false, say at which input.
  Laid BY PROGRAM, IN A SANDBOX (cutbox-rows.mjs): the forced cells as the released guide's own fill.sh prints them over the translation 33139ade8207e2ea… (all of the seat's roots in one cut). By AI agents, Wed Nov 11 2026. No macro, syntax, notation, axiom, sorry.
-/
import Derived.Test.YtokkmofcijfmiabChecked
import GoSem.Claim
import GoSem.ClaimJoined
import GoSem.ClaimMapViews
import Derived.JoinedTies
import Derived.KernelRfl
namespace Go.Proofs.Ytokkmofcijfmiab
/- THE CELL 'sum', in the pinned program and in every row, IS THE sha256 OF THE DUMP (.gsa) THAT YtokkmofcijfmiabProg.lean LOADS. Nothing in Lean hashes anything: it is a label: what it is worth is what the hold of that sum in a sandbox is worth. -/
noncomputable def Try.pinned : Pinned := { name := "ytokkmofcijfmiab", sum := "33139ade8207e2ea5498559d6d93ad3666b4058dc75c11e29af8dc46de1f5248", checked := Try.checked }
namespace Rows
def none {H : Type} : Left H := { results := [], args := [] }

/-- 'spinneylaw28.BurlDiffers': WHATEVER THE INPUT: true; the input reads as it did. -/
def burlDiffersSpec : ChangeSpec := { name := "burlDiffers", fn := fun _ => fun
  | [d1, d2] => { results := [.lit (.bool true)], args := [d1, d2] }
  | _ => none }
def burlDiffersRow : OpenClaim := { program := "ytokkmofcijfmiab", sum := "33139ade8207e2ea5498559d6d93ad3666b4058dc75c11e29af8dc46de1f5248", func := "spinney/spinneylaw28.BurlDiffers", spec := "burlDiffers", unfollowed := true, recurses := true, apart := false }
def BurlDiffersSaid : Prop := burlDiffersRow.holds Try.pinned (OpenSpec.ofChange burlDiffersSpec)

/-- ITS FALSE NEIGHBOUR: 'it returns false'. Refute it at one input. -/
def burlDiffersWrong : ChangeSpec := { name := "burlDiffers", fn := fun _ => fun
  | [d1, d2] => { results := [.lit (.bool false)], args := [d1, d2] }
  | _ => none }
def BurlDiffersWrongFalsely : Prop := burlDiffersRow.holds Try.pinned (OpenSpec.ofChange burlDiffersWrong)

/-- 'spinneylaw28.BurlLeaves': WHATEVER THE INPUT: true; the input reads as it did. -/
def burlLeavesSpec : ChangeSpec := { name := "burlLeaves", fn := fun _ => fun
  | [d1, d2] => { results := [.lit (.bool true)], args := [d1, d2] }
  | _ => none }
def burlLeavesRow : OpenClaim := { program := "ytokkmofcijfmiab", sum := "33139ade8207e2ea5498559d6d93ad3666b4058dc75c11e29af8dc46de1f5248", func := "spinney/spinneylaw28.BurlLeaves", spec := "burlLeaves", unfollowed := true, recurses := true, apart := false }
def BurlLeavesSaid : Prop := burlLeavesRow.holds Try.pinned (OpenSpec.ofChange burlLeavesSpec)

/-- ITS FALSE NEIGHBOUR: 'it returns false'. Refute it at one input. -/
def burlLeavesWrong : ChangeSpec := { name := "burlLeaves", fn := fun _ => fun
  | [d1, d2] => { results := [.lit (.bool false)], args := [d1, d2] }
  | _ => none }
def BurlLeavesWrongFalsely : Prop := burlLeavesRow.holds Try.pinned (OpenSpec.ofChange burlLeavesWrong)

/-- 'spinneylaw28.BurlChanges': WHATEVER THE INPUT: true; the input reads as it did. -/
def burlChangesSpec : ChangeSpec := { name := "burlChanges", fn := fun _ => fun
  | [d1, d2] => { results := [.lit (.bool true)], args := [d1, d2] }
  | _ => none }
def burlChangesRow : OpenClaim := { program := "ytokkmofcijfmiab", sum := "33139ade8207e2ea5498559d6d93ad3666b4058dc75c11e29af8dc46de1f5248", func := "spinney/spinneylaw28.BurlChanges", spec := "burlChanges", unfollowed := true, recurses := true, apart := false }
def BurlChangesSaid : Prop := burlChangesRow.holds Try.pinned (OpenSpec.ofChange burlChangesSpec)

/-- ITS FALSE NEIGHBOUR: 'it returns false'. Refute it at one input. -/
def burlChangesWrong : ChangeSpec := { name := "burlChanges", fn := fun _ => fun
  | [d1, d2] => { results := [.lit (.bool false)], args := [d1, d2] }
  | _ => none }
def BurlChangesWrongFalsely : Prop := burlChangesRow.holds Try.pinned (OpenSpec.ofChange burlChangesWrong)

/- THE SECOND FORM. 'bulk': how many values and letters a reading holds, each counted each time it is reached (what is shared counts as often as it is met; a slice's spare places count too). A statement '..UptoSaid' is the law's where the arguments, and the package variables that the reading takes, are together of bulk at most 1048576: NARROWER than '..Said'. Prove '..Said' where nothing that the law and all that it calls make is longer than what came in: it says more and counts as full. Else prove '..UptoSaid'. A law counts once. -/
mutual
def uptoBulk {H : Type} : DataW H → Nat
  | .lit (.string bytes) => bytes.length + 1
  | .lit _ => 1
  | .nil => 1
  | .ptr d => uptoBulk d + 1
  | .slice elems spare => uptoBulkAll elems + uptoBulkAll spare + 1
  | .agg parts => uptoBulkAll parts + 1
  | .iface _ d => uptoBulk d + 1
  | .map entries => uptoBulkEntries entries + 1
  | .held _ => 1
def uptoBulkAll {H : Type} : List (DataW H) → Nat
  | [] => 0
  | d :: r => uptoBulk d + uptoBulkAll r
def uptoBulkEntries {H : Type} : List (Lit × DataW H) → Nat
  | [] => 0
  | x :: r => uptoBulkEntry x + uptoBulkEntries r
def uptoBulkEntry {H : Type} : Lit × DataW H → Nat
  | (.string bytes, d) => bytes.length + uptoBulk d + 1
  | (_, d) => uptoBulk d + 1
 end
def uptoSmall : (H : Type) → List (DataW H) → Bool := fun _ ds => decide (uptoBulkAll ds ≤ 1048576)
def OpenSpec.upto (s : _root_.Go.ChangeSpec) : _root_.Go.OpenSpec := { _root_.Go.OpenSpec.ofChange s with cond := some uptoSmall }

/-- 'spinneylaw28.BurlDiffers', WHERE WHAT IT READS IS OF BULK AT MOST 1048576: true; the input reads as it did. -/
def burlDiffersUptoRow : OpenClaim := { program := "ytokkmofcijfmiab", sum := "33139ade8207e2ea5498559d6d93ad3666b4058dc75c11e29af8dc46de1f5248", func := "spinney/spinneylaw28.BurlDiffers", spec := "burlDiffers", unfollowed := true, recurses := true, apart := false, narrowed := true }
def BurlDiffersUptoSaid : Prop := burlDiffersUptoRow.holds Try.pinned (OpenSpec.upto burlDiffersSpec)

/-- 'spinneylaw28.BurlLeaves', WHERE WHAT IT READS IS OF BULK AT MOST 1048576: true; the input reads as it did. -/
def burlLeavesUptoRow : OpenClaim := { program := "ytokkmofcijfmiab", sum := "33139ade8207e2ea5498559d6d93ad3666b4058dc75c11e29af8dc46de1f5248", func := "spinney/spinneylaw28.BurlLeaves", spec := "burlLeaves", unfollowed := true, recurses := true, apart := false, narrowed := true }
def BurlLeavesUptoSaid : Prop := burlLeavesUptoRow.holds Try.pinned (OpenSpec.upto burlLeavesSpec)

/-- 'spinneylaw28.BurlChanges', WHERE WHAT IT READS IS OF BULK AT MOST 1048576: true; the input reads as it did. -/
def burlChangesUptoRow : OpenClaim := { program := "ytokkmofcijfmiab", sum := "33139ade8207e2ea5498559d6d93ad3666b4058dc75c11e29af8dc46de1f5248", func := "spinney/spinneylaw28.BurlChanges", spec := "burlChanges", unfollowed := true, recurses := true, apart := false, narrowed := true }
def BurlChangesUptoSaid : Prop := burlChangesUptoRow.holds Try.pinned (OpenSpec.upto burlChangesSpec)

end Rows
end Go.Proofs.Ytokkmofcijfmiab
