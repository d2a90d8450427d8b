/-
  WHAT IS PROVED: package roll's calls that put lists behind other bytes (putAll, putList of each kind of element): the document's bytes, behind what was handed in, which stays. Conditions: those typed in each theorem.
-/
import Derived.Test.YtokkmofcijfmiabGQ8
import Derived.Test.YtokkmofcijfmiabGQ7
namespace Go.Proofs.Ytokkmofcijfmiab
open Go.RowKit

abbrev strC (x : ByteArray) : Array Value := #[.string x]
abbrev intC (x : Int) : Array Value := #[.int .i64 x]
abbrev clV (x : Cl) : Value := .agg x.cells
abbrev lnV (x : Ln) : Value := .agg x.cells
/-- A call's answer: a row of bytes of the call's own. -/
def PutX (base : Nat) (w : World) (L : List UInt8) (e : Ending) (w' : World) : Prop := (∃ (A : Option Addr) (n c : Nat), e = .returned (.slice A n c) ∧ OwnB base w' A n c L) ∧ Below base w w'
/-- A function value that answers each of these as bytes. -/
def PutsF {α : Type} (g : Nat) (arg : α → Value) (E : α → List UInt8) (l : List α) : Prop := ∀ x, x ∈ l → ∀ W, Calls Try.prog g #[arg x] W fun e W' => PutR W (E x) e W'
theorem map_get {α β : Type} {f : α → β} {l : List α} {k : Nat} {x : α} (h : l[k]? = some x) : (l.map f)[k]? = some (f x) := by rw [List.getElem?_map, h]; rfl
theorem take_flat {α : Type} {E : α → List UInt8} {L : List UInt8} {l : List α} {k : Nat} {x : α} (h : l[k]? = some x) : L ++ (l.take k).flatMap E ++ E x = L ++ (l.take (k + 1)).flatMap E := by
  rw [List.take_add_one, h]
  simp
theorem PreB.own {base : Nat} {W : World} {A : Option Addr} {n c : Nat} {l : List UInt8} (h : OwnB base W A n c l) : PreB base W A n c l := .inl h

end Go.Proofs.Ytokkmofcijfmiab
