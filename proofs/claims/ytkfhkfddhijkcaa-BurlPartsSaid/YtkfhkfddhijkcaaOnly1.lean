/-
  WHAT IS PROVED: plain words for a world in which one block alone has turned. No program is spoken of.
-/
import Derived.Test.YtkfhkfddhijkcaaMem
namespace Go.Proofs.Ytkfhkfddhijkcaa
open Go.RowKit

/-- Only block b has turned. -/
structure Only1 (b : Nat) (W W' : World) : Prop where
  os : W'.os = W.os
  tape : W'.tape = W.tape
  output : W'.output = W.output
  size : W'.heap.size = W.heap.size
  block : ∀ k, k ≠ b → W'.heap[k]? = W.heap[k]?
theorem Only1.below {b B : Nat} {W W' : World} (h : Only1 b W W') (hB : B ≤ b) : Below B W W' := ⟨h.os, h.tape, h.output, Nat.le_of_eq h.size.symm, fun k hk => h.block k (by omega)⟩
theorem Only1.refl (b : Nat) (W : World) : Only1 b W W := ⟨rfl, rfl, rfl, rfl, fun _ _ => rfl⟩
theorem Only1.trans {b : Nat} {W W' W'' : World} (h : Only1 b W W') (k : Only1 b W' W'') : Only1 b W W'' := ⟨k.os.trans h.os, k.tape.trans h.tape, k.output.trans h.output, k.size.trans h.size, fun i hi => (k.block i hi).trans (h.block i hi)⟩
theorem only_set (W : World) (b : Nat) (o : Obj) : Only1 b W { W with heap := W.heap.setIfInBounds b o } :=
  ⟨rfl, rfl, rfl, by simp, fun k hk => by
    show (W.heap.setIfInBounds b o)[k]? = _
    rw [Array.getElem?_setIfInBounds_ne hk.symm]⟩
theorem only_cell (W : World) (b j : Nat) (v : Value) : Only1 b W (W.setCell ⟨b, j, none⟩ v) :=
  ⟨rfl, rfl, rfl, by simp [World.setCell], fun k hk => Below.heap_setCell W ⟨b, j, none⟩ v k hk⟩
theorem only_cells (b : Nat) : ∀ (vs : List Value) (o : Nat) (W : World), Only1 b W (W.setCells b o vs)
  | [], _, W => Only1.refl b W
  | v :: r, o, W => (only_cell W b o v).trans (only_cells b r (o + 1) _)
theorem only_row (W : World) (g : Nat) (cs : Array Value) : Only1 g W (W.setRow g cs) := ⟨rfl, rfl, rfl, by simp, fun k hk => setRow_other W g k cs hk⟩
theorem Blk.only {W W1 : World} {b c : Nat} {cs : Array Value} {t : TypeId} (h : Blk W b cs t) (ho : Only1 c W W1) (hne : b ≠ c) : Blk W1 b cs t := (ho.block b hne).trans h
theorem Blk.row {W : World} {g : Nat} {old : Array Value} {t : TypeId} (h : Blk W g old t) (cs : Array Value) : Blk (W.setRow g cs) g cs t := setRow_heap W g old cs t (0, 0) h
/-- Cells from j on, one after the other. -/
def setL (cs : Array Value) : Nat → List Value → Array Value
  | _, [] => cs
  | j, v :: r => setL (cs.setIfInBounds j v) (j + 1) r
theorem Blk.cells {b : Nat} {t : TypeId} : ∀ (vs : List Value) (j : Nat) (W : World) (cs : Array Value), Blk W b cs t → Blk (W.setCells b j vs) b (setL cs j vs) t
  | [], _, _, _, h => h
  | v :: r, j, _, _, h => Blk.cells r (j + 1) _ _ (h.set j v)
end Go.Proofs.Ytkfhkfddhijkcaa
