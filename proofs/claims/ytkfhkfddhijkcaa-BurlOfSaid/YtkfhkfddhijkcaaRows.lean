/-
  No cell of these rows narrows 'for every input' (looked for: loops, veiled, ifaces, maps, wideKeys, modest, calm, conditions, laid).
  DERIVED. THE GIVEN ROWS OF THIS SEAT. 11 by the template 'for every input the law returns true; each argument reads behind the call as it read before'; 0 by the template 'total and deterministic' (their statements: YtkfhkfddhijkcaaTotals.lean).
  GIVEN WITH THE SEED: the statements are not yours to turn. If you find one false, say at which input.
  Laid BY PROGRAM, IN A SANDBOX (cutbox-rows.mjs): the forced cells as the released guide's own fill.sh prints them over the translation 97ca6385d9534bab… (all of the seat's roots in one cut). By AI agents, Wed Nov 11 2026. No macro, syntax, notation, axiom, sorry.
-/
import Derived.Test.YtkfhkfddhijkcaaChecked
import GoSem.Claim
import GoSem.ClaimJoined
import GoSem.ClaimMapViews
import Derived.JoinedTies
import Derived.KernelRfl
namespace Go.Proofs.Ytkfhkfddhijkcaa
/- THE CELL 'sum', in the pinned program and in every row, IS THE sha256 OF THE DUMP (.gsa) THAT YtkfhkfddhijkcaaProg.lean LOADS. Nothing in Lean hashes anything: it is a label: what it is worth is what the hold of that sum in a sandbox is worth. -/
noncomputable def Try.pinned : Pinned := { name := "ytkfhkfddhijkcaa", sum := "97ca6385d9534babb7fd977b63bbc5609bdb11f68d19fd4e65c36be3a952c6cb", checked := Try.checked }
namespace Rows
def none {H : Type} : Left H := { results := [], args := [] }

/-- 'spinneylaw14.QueueTight': WHATEVER THE INPUT: true; the input reads as it did. -/
def queueTightSpec : ChangeSpec := { name := "queueTight", fn := fun _ => fun
  | [d1, d2] => { results := [.lit (.bool true)], args := [d1, d2] }
  | _ => none }
def queueTightRow : OpenClaim := { program := "ytkfhkfddhijkcaa", sum := "97ca6385d9534babb7fd977b63bbc5609bdb11f68d19fd4e65c36be3a952c6cb", func := "spinney/spinneylaw14.QueueTight", spec := "queueTight", unfollowed := true, recurses := true, apart := false }
def QueueTightSaid : Prop := queueTightRow.holds Try.pinned (OpenSpec.ofChange queueTightSpec)

/-- ITS FALSE NEIGHBOUR: 'it returns false'. Refute it at one input. -/
def queueTightWrong : ChangeSpec := { name := "queueTight", fn := fun _ => fun
  | [d1, d2] => { results := [.lit (.bool false)], args := [d1, d2] }
  | _ => none }
def QueueTightWrongFalsely : Prop := queueTightRow.holds Try.pinned (OpenSpec.ofChange queueTightWrong)

/-- 'spinneylaw14.QueueRoom': WHATEVER THE INPUT: true; the input reads as it did. -/
def queueRoomSpec : ChangeSpec := { name := "queueRoom", fn := fun _ => fun
  | [d] => { results := [.lit (.bool true)], args := [d] }
  | _ => none }
def queueRoomRow : OpenClaim := { program := "ytkfhkfddhijkcaa", sum := "97ca6385d9534babb7fd977b63bbc5609bdb11f68d19fd4e65c36be3a952c6cb", func := "spinney/spinneylaw14.QueueRoom", spec := "queueRoom", apart := false }
def QueueRoomSaid : Prop := queueRoomRow.holds Try.pinned (OpenSpec.ofChange queueRoomSpec)

/-- ITS FALSE NEIGHBOUR: 'it returns false'. Refute it at one input. -/
def queueRoomWrong : ChangeSpec := { name := "queueRoom", fn := fun _ => fun
  | [d] => { results := [.lit (.bool false)], args := [d] }
  | _ => none }
def QueueRoomWrongFalsely : Prop := queueRoomRow.holds Try.pinned (OpenSpec.ofChange queueRoomWrong)

/-- 'spinneylaw29.WeatherNumbers': WHATEVER THE INPUT: true; the input reads as it did. -/
def weatherNumbersSpec : ChangeSpec := { name := "weatherNumbers", fn := fun _ => fun
  | [d1, d2, d3] => { results := [.lit (.bool true)], args := [d1, d2, d3] }
  | _ => none }
def weatherNumbersRow : OpenClaim := { program := "ytkfhkfddhijkcaa", sum := "97ca6385d9534babb7fd977b63bbc5609bdb11f68d19fd4e65c36be3a952c6cb", func := "spinney/spinneylaw29.WeatherNumbers", spec := "weatherNumbers", unfollowed := true, recurses := true, apart := false }
def WeatherNumbersSaid : Prop := weatherNumbersRow.holds Try.pinned (OpenSpec.ofChange weatherNumbersSpec)

/-- ITS FALSE NEIGHBOUR: 'it returns false'. Refute it at one input. -/
def weatherNumbersWrong : ChangeSpec := { name := "weatherNumbers", fn := fun _ => fun
  | [d1, d2, d3] => { results := [.lit (.bool false)], args := [d1, d2, d3] }
  | _ => none }
def WeatherNumbersWrongFalsely : Prop := weatherNumbersRow.holds Try.pinned (OpenSpec.ofChange weatherNumbersWrong)

/-- 'spinneylaw29.WeatherWithin': WHATEVER THE INPUT: true; the input reads as it did. -/
def weatherWithinSpec : ChangeSpec := { name := "weatherWithin", fn := fun _ => fun
  | [d1, d2, d3] => { results := [.lit (.bool true)], args := [d1, d2, d3] }
  | _ => none }
def weatherWithinRow : OpenClaim := { program := "ytkfhkfddhijkcaa", sum := "97ca6385d9534babb7fd977b63bbc5609bdb11f68d19fd4e65c36be3a952c6cb", func := "spinney/spinneylaw29.WeatherWithin", spec := "weatherWithin", unfollowed := true, recurses := true, apart := false }
def WeatherWithinSaid : Prop := weatherWithinRow.holds Try.pinned (OpenSpec.ofChange weatherWithinSpec)

/-- ITS FALSE NEIGHBOUR: 'it returns false'. Refute it at one input. -/
def weatherWithinWrong : ChangeSpec := { name := "weatherWithin", fn := fun _ => fun
  | [d1, d2, d3] => { results := [.lit (.bool false)], args := [d1, d2, d3] }
  | _ => none }
def WeatherWithinWrongFalsely : Prop := weatherWithinRow.holds Try.pinned (OpenSpec.ofChange weatherWithinWrong)

/-- 'spinneylaw28.BurlParts': WHATEVER THE INPUT: true; the input reads as it did. -/
def burlPartsSpec : ChangeSpec := { name := "burlParts", fn := fun _ => fun
  | [d1, d2] => { results := [.lit (.bool true)], args := [d1, d2] }
  | _ => none }
def burlPartsRow : OpenClaim := { program := "ytkfhkfddhijkcaa", sum := "97ca6385d9534babb7fd977b63bbc5609bdb11f68d19fd4e65c36be3a952c6cb", func := "spinney/spinneylaw28.BurlParts", spec := "burlParts", apart := false }
def BurlPartsSaid : Prop := burlPartsRow.holds Try.pinned (OpenSpec.ofChange burlPartsSpec)

/-- ITS FALSE NEIGHBOUR: 'it returns false'. Refute it at one input. -/
def burlPartsWrong : ChangeSpec := { name := "burlParts", fn := fun _ => fun
  | [d1, d2] => { results := [.lit (.bool false)], args := [d1, d2] }
  | _ => none }
def BurlPartsWrongFalsely : Prop := burlPartsRow.holds Try.pinned (OpenSpec.ofChange burlPartsWrong)

/-- 'spinneylaw28.BurlOf': WHATEVER THE INPUT: true; the input reads as it did. -/
def burlOfSpec : ChangeSpec := { name := "burlOf", fn := fun _ => fun
  | [d1, d2] => { results := [.lit (.bool true)], args := [d1, d2] }
  | _ => none }
def burlOfRow : OpenClaim := { program := "ytkfhkfddhijkcaa", sum := "97ca6385d9534babb7fd977b63bbc5609bdb11f68d19fd4e65c36be3a952c6cb", func := "spinney/spinneylaw28.BurlOf", spec := "burlOf", unfollowed := true, recurses := true, apart := false }
def BurlOfSaid : Prop := burlOfRow.holds Try.pinned (OpenSpec.ofChange burlOfSpec)

/-- ITS FALSE NEIGHBOUR: 'it returns false'. Refute it at one input. -/
def burlOfWrong : ChangeSpec := { name := "burlOf", fn := fun _ => fun
  | [d1, d2] => { results := [.lit (.bool false)], args := [d1, d2] }
  | _ => none }
def BurlOfWrongFalsely : Prop := burlOfRow.holds Try.pinned (OpenSpec.ofChange burlOfWrong)

/-- 'spinneylaw28.BurlDiffers': WHATEVER THE INPUT: true; the input reads as it did. -/
def burlDiffersSpec : ChangeSpec := { name := "burlDiffers", fn := fun _ => fun
  | [d1, d2] => { results := [.lit (.bool true)], args := [d1, d2] }
  | _ => none }
def burlDiffersRow : OpenClaim := { program := "ytkfhkfddhijkcaa", sum := "97ca6385d9534babb7fd977b63bbc5609bdb11f68d19fd4e65c36be3a952c6cb", func := "spinney/spinneylaw28.BurlDiffers", spec := "burlDiffers", unfollowed := true, recurses := true, apart := false }
def BurlDiffersSaid : Prop := burlDiffersRow.holds Try.pinned (OpenSpec.ofChange burlDiffersSpec)

/-- ITS FALSE NEIGHBOUR: 'it returns false'. Refute it at one input. -/
def burlDiffersWrong : ChangeSpec := { name := "burlDiffers", fn := fun _ => fun
  | [d1, d2] => { results := [.lit (.bool false)], args := [d1, d2] }
  | _ => none }
def BurlDiffersWrongFalsely : Prop := burlDiffersRow.holds Try.pinned (OpenSpec.ofChange burlDiffersWrong)

/-- 'spinneylaw28.BurlLeaves': WHATEVER THE INPUT: true; the input reads as it did. -/
def burlLeavesSpec : ChangeSpec := { name := "burlLeaves", fn := fun _ => fun
  | [d1, d2] => { results := [.lit (.bool true)], args := [d1, d2] }
  | _ => none }
def burlLeavesRow : OpenClaim := { program := "ytkfhkfddhijkcaa", sum := "97ca6385d9534babb7fd977b63bbc5609bdb11f68d19fd4e65c36be3a952c6cb", func := "spinney/spinneylaw28.BurlLeaves", spec := "burlLeaves", unfollowed := true, recurses := true, apart := false }
def BurlLeavesSaid : Prop := burlLeavesRow.holds Try.pinned (OpenSpec.ofChange burlLeavesSpec)

/-- ITS FALSE NEIGHBOUR: 'it returns false'. Refute it at one input. -/
def burlLeavesWrong : ChangeSpec := { name := "burlLeaves", fn := fun _ => fun
  | [d1, d2] => { results := [.lit (.bool false)], args := [d1, d2] }
  | _ => none }
def BurlLeavesWrongFalsely : Prop := burlLeavesRow.holds Try.pinned (OpenSpec.ofChange burlLeavesWrong)

/-- 'spinneylaw28.BurlChanges': WHATEVER THE INPUT: true; the input reads as it did. -/
def burlChangesSpec : ChangeSpec := { name := "burlChanges", fn := fun _ => fun
  | [d1, d2] => { results := [.lit (.bool true)], args := [d1, d2] }
  | _ => none }
def burlChangesRow : OpenClaim := { program := "ytkfhkfddhijkcaa", sum := "97ca6385d9534babb7fd977b63bbc5609bdb11f68d19fd4e65c36be3a952c6cb", func := "spinney/spinneylaw28.BurlChanges", spec := "burlChanges", unfollowed := true, recurses := true, apart := false }
def BurlChangesSaid : Prop := burlChangesRow.holds Try.pinned (OpenSpec.ofChange burlChangesSpec)

/-- ITS FALSE NEIGHBOUR: 'it returns false'. Refute it at one input. -/
def burlChangesWrong : ChangeSpec := { name := "burlChanges", fn := fun _ => fun
  | [d1, d2] => { results := [.lit (.bool false)], args := [d1, d2] }
  | _ => none }
def BurlChangesWrongFalsely : Prop := burlChangesRow.holds Try.pinned (OpenSpec.ofChange burlChangesWrong)

/-- 'spinneylaw22.AirPlays': WHATEVER THE INPUT: true; the input reads as it did. -/
def airPlaysSpec : ChangeSpec := { name := "airPlays", fn := fun _ => fun
  | [d] => { results := [.lit (.bool true)], args := [d] }
  | _ => none }
def airPlaysRow : OpenClaim := { program := "ytkfhkfddhijkcaa", sum := "97ca6385d9534babb7fd977b63bbc5609bdb11f68d19fd4e65c36be3a952c6cb", func := "spinney/spinneylaw22.AirPlays", spec := "airPlays", apart := false }
def AirPlaysSaid : Prop := airPlaysRow.holds Try.pinned (OpenSpec.ofChange airPlaysSpec)

/-- ITS FALSE NEIGHBOUR: 'it returns false'. Refute it at one input. -/
def airPlaysWrong : ChangeSpec := { name := "airPlays", fn := fun _ => fun
  | [d] => { results := [.lit (.bool false)], args := [d] }
  | _ => none }
def AirPlaysWrongFalsely : Prop := airPlaysRow.holds Try.pinned (OpenSpec.ofChange airPlaysWrong)

/-- 'spinneylaw22.AirKeeps': WHATEVER THE INPUT: true; the input reads as it did. -/
def airKeepsSpec : ChangeSpec := { name := "airKeeps", fn := fun _ => fun
  | [d] => { results := [.lit (.bool true)], args := [d] }
  | _ => none }
def airKeepsRow : OpenClaim := { program := "ytkfhkfddhijkcaa", sum := "97ca6385d9534babb7fd977b63bbc5609bdb11f68d19fd4e65c36be3a952c6cb", func := "spinney/spinneylaw22.AirKeeps", spec := "airKeeps", apart := false }
def AirKeepsSaid : Prop := airKeepsRow.holds Try.pinned (OpenSpec.ofChange airKeepsSpec)

/-- ITS FALSE NEIGHBOUR: 'it returns false'. Refute it at one input. -/
def airKeepsWrong : ChangeSpec := { name := "airKeeps", fn := fun _ => fun
  | [d] => { results := [.lit (.bool false)], args := [d] }
  | _ => none }
def AirKeepsWrongFalsely : Prop := airKeepsRow.holds Try.pinned (OpenSpec.ofChange airKeepsWrong)

/- THE SECOND FORM. 'bulk': how many values and letters a reading holds, each counted each time it is reached (what is shared counts as often as it is met; a slice's spare places count too). A statement '..UptoSaid' is the law's where the arguments, and the package variables that the reading takes, are together of bulk at most 1048576: NARROWER than '..Said'. Prove '..Said' where nothing that the law and all that it calls make is longer than what came in: it says more and counts as full. Else prove '..UptoSaid'. A law counts once. -/
mutual
def uptoBulk {H : Type} : DataW H → Nat
  | .lit (.string bytes) => bytes.length + 1
  | .lit _ => 1
  | .nil => 1
  | .ptr d => uptoBulk d + 1
  | .slice elems spare => uptoBulkAll elems + uptoBulkAll spare + 1
  | .agg parts => uptoBulkAll parts + 1
  | .iface _ d => uptoBulk d + 1
  | .map entries => uptoBulkEntries entries + 1
  | .held _ => 1
def uptoBulkAll {H : Type} : List (DataW H) → Nat
  | [] => 0
  | d :: r => uptoBulk d + uptoBulkAll r
def uptoBulkEntries {H : Type} : List (Lit × DataW H) → Nat
  | [] => 0
  | x :: r => uptoBulkEntry x + uptoBulkEntries r
def uptoBulkEntry {H : Type} : Lit × DataW H → Nat
  | (.string bytes, d) => bytes.length + uptoBulk d + 1
  | (_, d) => uptoBulk d + 1
 end
def uptoSmall : (H : Type) → List (DataW H) → Bool := fun _ ds => decide (uptoBulkAll ds ≤ 1048576)
def OpenSpec.upto (s : _root_.Go.ChangeSpec) : _root_.Go.OpenSpec := { _root_.Go.OpenSpec.ofChange s with cond := some uptoSmall }

/-- 'spinneylaw14.QueueTight', WHERE WHAT IT READS IS OF BULK AT MOST 1048576: true; the input reads as it did. -/
def queueTightUptoRow : OpenClaim := { program := "ytkfhkfddhijkcaa", sum := "97ca6385d9534babb7fd977b63bbc5609bdb11f68d19fd4e65c36be3a952c6cb", func := "spinney/spinneylaw14.QueueTight", spec := "queueTight", unfollowed := true, recurses := true, apart := false, narrowed := true }
def QueueTightUptoSaid : Prop := queueTightUptoRow.holds Try.pinned (OpenSpec.upto queueTightSpec)

/-- 'spinneylaw14.QueueRoom', WHERE WHAT IT READS IS OF BULK AT MOST 1048576: true; the input reads as it did. -/
def queueRoomUptoRow : OpenClaim := { program := "ytkfhkfddhijkcaa", sum := "97ca6385d9534babb7fd977b63bbc5609bdb11f68d19fd4e65c36be3a952c6cb", func := "spinney/spinneylaw14.QueueRoom", spec := "queueRoom", apart := false, narrowed := true }
def QueueRoomUptoSaid : Prop := queueRoomUptoRow.holds Try.pinned (OpenSpec.upto queueRoomSpec)

/-- 'spinneylaw29.WeatherNumbers', WHERE WHAT IT READS IS OF BULK AT MOST 1048576: true; the input reads as it did. -/
def weatherNumbersUptoRow : OpenClaim := { program := "ytkfhkfddhijkcaa", sum := "97ca6385d9534babb7fd977b63bbc5609bdb11f68d19fd4e65c36be3a952c6cb", func := "spinney/spinneylaw29.WeatherNumbers", spec := "weatherNumbers", unfollowed := true, recurses := true, apart := false, narrowed := true }
def WeatherNumbersUptoSaid : Prop := weatherNumbersUptoRow.holds Try.pinned (OpenSpec.upto weatherNumbersSpec)

/-- 'spinneylaw29.WeatherWithin', WHERE WHAT IT READS IS OF BULK AT MOST 1048576: true; the input reads as it did. -/
def weatherWithinUptoRow : OpenClaim := { program := "ytkfhkfddhijkcaa", sum := "97ca6385d9534babb7fd977b63bbc5609bdb11f68d19fd4e65c36be3a952c6cb", func := "spinney/spinneylaw29.WeatherWithin", spec := "weatherWithin", unfollowed := true, recurses := true, apart := false, narrowed := true }
def WeatherWithinUptoSaid : Prop := weatherWithinUptoRow.holds Try.pinned (OpenSpec.upto weatherWithinSpec)

/-- 'spinneylaw28.BurlParts', WHERE WHAT IT READS IS OF BULK AT MOST 1048576: true; the input reads as it did. -/
def burlPartsUptoRow : OpenClaim := { program := "ytkfhkfddhijkcaa", sum := "97ca6385d9534babb7fd977b63bbc5609bdb11f68d19fd4e65c36be3a952c6cb", func := "spinney/spinneylaw28.BurlParts", spec := "burlParts", apart := false, narrowed := true }
def BurlPartsUptoSaid : Prop := burlPartsUptoRow.holds Try.pinned (OpenSpec.upto burlPartsSpec)

/-- 'spinneylaw28.BurlOf', WHERE WHAT IT READS IS OF BULK AT MOST 1048576: true; the input reads as it did. -/
def burlOfUptoRow : OpenClaim := { program := "ytkfhkfddhijkcaa", sum := "97ca6385d9534babb7fd977b63bbc5609bdb11f68d19fd4e65c36be3a952c6cb", func := "spinney/spinneylaw28.BurlOf", spec := "burlOf", unfollowed := true, recurses := true, apart := false, narrowed := true }
def BurlOfUptoSaid : Prop := burlOfUptoRow.holds Try.pinned (OpenSpec.upto burlOfSpec)

/-- 'spinneylaw28.BurlDiffers', WHERE WHAT IT READS IS OF BULK AT MOST 1048576: true; the input reads as it did. -/
def burlDiffersUptoRow : OpenClaim := { program := "ytkfhkfddhijkcaa", sum := "97ca6385d9534babb7fd977b63bbc5609bdb11f68d19fd4e65c36be3a952c6cb", func := "spinney/spinneylaw28.BurlDiffers", spec := "burlDiffers", unfollowed := true, recurses := true, apart := false, narrowed := true }
def BurlDiffersUptoSaid : Prop := burlDiffersUptoRow.holds Try.pinned (OpenSpec.upto burlDiffersSpec)

/-- 'spinneylaw28.BurlLeaves', WHERE WHAT IT READS IS OF BULK AT MOST 1048576: true; the input reads as it did. -/
def burlLeavesUptoRow : OpenClaim := { program := "ytkfhkfddhijkcaa", sum := "97ca6385d9534babb7fd977b63bbc5609bdb11f68d19fd4e65c36be3a952c6cb", func := "spinney/spinneylaw28.BurlLeaves", spec := "burlLeaves", unfollowed := true, recurses := true, apart := false, narrowed := true }
def BurlLeavesUptoSaid : Prop := burlLeavesUptoRow.holds Try.pinned (OpenSpec.upto burlLeavesSpec)

/-- 'spinneylaw28.BurlChanges', WHERE WHAT IT READS IS OF BULK AT MOST 1048576: true; the input reads as it did. -/
def burlChangesUptoRow : OpenClaim := { program := "ytkfhkfddhijkcaa", sum := "97ca6385d9534babb7fd977b63bbc5609bdb11f68d19fd4e65c36be3a952c6cb", func := "spinney/spinneylaw28.BurlChanges", spec := "burlChanges", unfollowed := true, recurses := true, apart := false, narrowed := true }
def BurlChangesUptoSaid : Prop := burlChangesUptoRow.holds Try.pinned (OpenSpec.upto burlChangesSpec)

/-- 'spinneylaw22.AirPlays', WHERE WHAT IT READS IS OF BULK AT MOST 1048576: true; the input reads as it did. -/
def airPlaysUptoRow : OpenClaim := { program := "ytkfhkfddhijkcaa", sum := "97ca6385d9534babb7fd977b63bbc5609bdb11f68d19fd4e65c36be3a952c6cb", func := "spinney/spinneylaw22.AirPlays", spec := "airPlays", apart := false, narrowed := true }
def AirPlaysUptoSaid : Prop := airPlaysUptoRow.holds Try.pinned (OpenSpec.upto airPlaysSpec)

/-- 'spinneylaw22.AirKeeps', WHERE WHAT IT READS IS OF BULK AT MOST 1048576: true; the input reads as it did. -/
def airKeepsUptoRow : OpenClaim := { program := "ytkfhkfddhijkcaa", sum := "97ca6385d9534babb7fd977b63bbc5609bdb11f68d19fd4e65c36be3a952c6cb", func := "spinney/spinneylaw22.AirKeeps", spec := "airKeeps", apart := false, narrowed := true }
def AirKeepsUptoSaid : Prop := airKeepsUptoRow.holds Try.pinned (OpenSpec.upto airKeepsSpec)

end Rows
end Go.Proofs.Ytkfhkfddhijkcaa
