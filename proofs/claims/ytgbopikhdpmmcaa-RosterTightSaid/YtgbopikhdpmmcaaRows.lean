/-
  No cell of these rows narrows 'for every input' (looked for: loops, veiled, ifaces, maps, wideKeys, modest, calm, conditions, laid).
  DERIVED. THE GIVEN ROWS OF THIS SEAT. 4 by the template 'for every input the law returns true; each argument reads behind the call as it read before'; 0 by the template 'total and deterministic' (their statements: YtgbopikhdpmmcaaTotals.lean).
  GIVEN WITH THE SEED: the statements are not yours to turn. If you find one false, say at which input.
  Laid BY PROGRAM, IN A SANDBOX (cutbox-rows.mjs): the forced cells as the released guide's own fill.sh prints them over the translation 8fd05fd6697e8ff8… (all of the seat's roots in one cut). By AI agents, Wed Nov 11 2026. No macro, syntax, notation, axiom, sorry.
-/
import Derived.Test.YtgbopikhdpmmcaaChecked
import GoSem.Claim
import GoSem.ClaimJoined
import GoSem.ClaimMapViews
import Derived.JoinedTies
import Derived.KernelRfl
namespace Go.Proofs.Ytgbopikhdpmmcaa
/- THE CELL 'sum', in the pinned program and in every row, IS THE sha256 OF THE DUMP (.gsa) THAT YtgbopikhdpmmcaaProg.lean LOADS. Nothing in Lean hashes anything: it is a label: what it is worth is what the hold of that sum in a sandbox is worth. -/
noncomputable def Try.pinned : Pinned := { name := "ytgbopikhdpmmcaa", sum := "8fd05fd6697e8ff85087fd0fb9da9cfb10e9a4e299d2271f6cc789d6b21cb1b2", checked := Try.checked }
namespace Rows
def none {H : Type} : Left H := { results := [], args := [] }

/-- 'spinneylaw13.RosterTells': WHATEVER THE INPUT: true; the input reads as it did. -/
def rosterTellsSpec : ChangeSpec := { name := "rosterTells", fn := fun _ => fun
  | [d1, d2, d3] => { results := [.lit (.bool true)], args := [d1, d2, d3] }
  | _ => none }
def rosterTellsRow : OpenClaim := { program := "ytgbopikhdpmmcaa", sum := "8fd05fd6697e8ff85087fd0fb9da9cfb10e9a4e299d2271f6cc789d6b21cb1b2", func := "spinney/spinneylaw13.RosterTells", spec := "rosterTells", apart := false }
def RosterTellsSaid : Prop := rosterTellsRow.holds Try.pinned (OpenSpec.ofChange rosterTellsSpec)

/-- ITS FALSE NEIGHBOUR: 'it returns false'. Refute it at one input. -/
def rosterTellsWrong : ChangeSpec := { name := "rosterTells", fn := fun _ => fun
  | [d1, d2, d3] => { results := [.lit (.bool false)], args := [d1, d2, d3] }
  | _ => none }
def RosterTellsWrongFalsely : Prop := rosterTellsRow.holds Try.pinned (OpenSpec.ofChange rosterTellsWrong)

/-- 'spinneylaw13.RosterPairs': WHATEVER THE INPUT: true; the input reads as it did. -/
def rosterPairsSpec : ChangeSpec := { name := "rosterPairs", fn := fun _ => fun
  | [d1, d2] => { results := [.lit (.bool true)], args := [d1, d2] }
  | _ => none }
def rosterPairsRow : OpenClaim := { program := "ytgbopikhdpmmcaa", sum := "8fd05fd6697e8ff85087fd0fb9da9cfb10e9a4e299d2271f6cc789d6b21cb1b2", func := "spinney/spinneylaw13.RosterPairs", spec := "rosterPairs", apart := false }
def RosterPairsSaid : Prop := rosterPairsRow.holds Try.pinned (OpenSpec.ofChange rosterPairsSpec)

/-- ITS FALSE NEIGHBOUR: 'it returns false'. Refute it at one input. -/
def rosterPairsWrong : ChangeSpec := { name := "rosterPairs", fn := fun _ => fun
  | [d1, d2] => { results := [.lit (.bool false)], args := [d1, d2] }
  | _ => none }
def RosterPairsWrongFalsely : Prop := rosterPairsRow.holds Try.pinned (OpenSpec.ofChange rosterPairsWrong)

/-- 'spinneylaw13.RosterTight': WHATEVER THE INPUT: true; the input reads as it did. -/
def rosterTightSpec : ChangeSpec := { name := "rosterTight", fn := fun _ => fun
  | [d1, d2] => { results := [.lit (.bool true)], args := [d1, d2] }
  | _ => none }
def rosterTightRow : OpenClaim := { program := "ytgbopikhdpmmcaa", sum := "8fd05fd6697e8ff85087fd0fb9da9cfb10e9a4e299d2271f6cc789d6b21cb1b2", func := "spinney/spinneylaw13.RosterTight", spec := "rosterTight", unfollowed := true, recurses := true, apart := false }
def RosterTightSaid : Prop := rosterTightRow.holds Try.pinned (OpenSpec.ofChange rosterTightSpec)

/-- ITS FALSE NEIGHBOUR: 'it returns false'. Refute it at one input. -/
def rosterTightWrong : ChangeSpec := { name := "rosterTight", fn := fun _ => fun
  | [d1, d2] => { results := [.lit (.bool false)], args := [d1, d2] }
  | _ => none }
def RosterTightWrongFalsely : Prop := rosterTightRow.holds Try.pinned (OpenSpec.ofChange rosterTightWrong)

/-- 'spinneylaw13.RosterOrder': WHATEVER THE INPUT: true; the input reads as it did. -/
def rosterOrderSpec : ChangeSpec := { name := "rosterOrder", fn := fun _ => fun
  | [d1, d2, d3] => { results := [.lit (.bool true)], args := [d1, d2, d3] }
  | _ => none }
def rosterOrderRow : OpenClaim := { program := "ytgbopikhdpmmcaa", sum := "8fd05fd6697e8ff85087fd0fb9da9cfb10e9a4e299d2271f6cc789d6b21cb1b2", func := "spinney/spinneylaw13.RosterOrder", spec := "rosterOrder", apart := false }
def RosterOrderSaid : Prop := rosterOrderRow.holds Try.pinned (OpenSpec.ofChange rosterOrderSpec)

/-- ITS FALSE NEIGHBOUR: 'it returns false'. Refute it at one input. -/
def rosterOrderWrong : ChangeSpec := { name := "rosterOrder", fn := fun _ => fun
  | [d1, d2, d3] => { results := [.lit (.bool false)], args := [d1, d2, d3] }
  | _ => none }
def RosterOrderWrongFalsely : Prop := rosterOrderRow.holds Try.pinned (OpenSpec.ofChange rosterOrderWrong)

/- THE SECOND FORM. 'bulk': how many values and letters a reading holds, each counted each time it is reached (what is shared counts as often as it is met; a slice's spare places count too). A statement '..UptoSaid' is the law's where the arguments, and the package variables that the reading takes, are together of bulk at most 1048576: NARROWER than '..Said'. Prove '..Said' where nothing that the law and all that it calls make is longer than what came in: it says more and counts as full. Else prove '..UptoSaid'. A law counts once. -/
mutual
def uptoBulk {H : Type} : DataW H → Nat
  | .lit (.string bytes) => bytes.length + 1
  | .lit _ => 1
  | .nil => 1
  | .ptr d => uptoBulk d + 1
  | .slice elems spare => uptoBulkAll elems + uptoBulkAll spare + 1
  | .agg parts => uptoBulkAll parts + 1
  | .iface _ d => uptoBulk d + 1
  | .map entries => uptoBulkEntries entries + 1
  | .held _ => 1
def uptoBulkAll {H : Type} : List (DataW H) → Nat
  | [] => 0
  | d :: r => uptoBulk d + uptoBulkAll r
def uptoBulkEntries {H : Type} : List (Lit × DataW H) → Nat
  | [] => 0
  | x :: r => uptoBulkEntry x + uptoBulkEntries r
def uptoBulkEntry {H : Type} : Lit × DataW H → Nat
  | (.string bytes, d) => bytes.length + uptoBulk d + 1
  | (_, d) => uptoBulk d + 1
 end
def uptoSmall : (H : Type) → List (DataW H) → Bool := fun _ ds => decide (uptoBulkAll ds ≤ 1048576)
def OpenSpec.upto (s : _root_.Go.ChangeSpec) : _root_.Go.OpenSpec := { _root_.Go.OpenSpec.ofChange s with cond := some uptoSmall }

/-- 'spinneylaw13.RosterTells', WHERE WHAT IT READS IS OF BULK AT MOST 1048576: true; the input reads as it did. -/
def rosterTellsUptoRow : OpenClaim := { program := "ytgbopikhdpmmcaa", sum := "8fd05fd6697e8ff85087fd0fb9da9cfb10e9a4e299d2271f6cc789d6b21cb1b2", func := "spinney/spinneylaw13.RosterTells", spec := "rosterTells", apart := false, narrowed := true }
def RosterTellsUptoSaid : Prop := rosterTellsUptoRow.holds Try.pinned (OpenSpec.upto rosterTellsSpec)

/-- 'spinneylaw13.RosterPairs', WHERE WHAT IT READS IS OF BULK AT MOST 1048576: true; the input reads as it did. -/
def rosterPairsUptoRow : OpenClaim := { program := "ytgbopikhdpmmcaa", sum := "8fd05fd6697e8ff85087fd0fb9da9cfb10e9a4e299d2271f6cc789d6b21cb1b2", func := "spinney/spinneylaw13.RosterPairs", spec := "rosterPairs", apart := false, narrowed := true }
def RosterPairsUptoSaid : Prop := rosterPairsUptoRow.holds Try.pinned (OpenSpec.upto rosterPairsSpec)

/-- 'spinneylaw13.RosterTight', WHERE WHAT IT READS IS OF BULK AT MOST 1048576: true; the input reads as it did. -/
def rosterTightUptoRow : OpenClaim := { program := "ytgbopikhdpmmcaa", sum := "8fd05fd6697e8ff85087fd0fb9da9cfb10e9a4e299d2271f6cc789d6b21cb1b2", func := "spinney/spinneylaw13.RosterTight", spec := "rosterTight", unfollowed := true, recurses := true, apart := false, narrowed := true }
def RosterTightUptoSaid : Prop := rosterTightUptoRow.holds Try.pinned (OpenSpec.upto rosterTightSpec)

/-- 'spinneylaw13.RosterOrder', WHERE WHAT IT READS IS OF BULK AT MOST 1048576: true; the input reads as it did. -/
def rosterOrderUptoRow : OpenClaim := { program := "ytgbopikhdpmmcaa", sum := "8fd05fd6697e8ff85087fd0fb9da9cfb10e9a4e299d2271f6cc789d6b21cb1b2", func := "spinney/spinneylaw13.RosterOrder", spec := "rosterOrder", apart := false, narrowed := true }
def RosterOrderUptoSaid : Prop := rosterOrderUptoRow.holds Try.pinned (OpenSpec.upto rosterOrderSpec)

end Rows
end Go.Proofs.Ytgbopikhdpmmcaa
