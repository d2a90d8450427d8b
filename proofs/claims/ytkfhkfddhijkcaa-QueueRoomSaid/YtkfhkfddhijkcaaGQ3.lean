/-
  WHAT IS PROVED: plain words for a world in which one block alone has turned. No program is spoken of. · stores in chains of operations (XFast): a cell, several cells, a whole block. Over this program
-/
import Derived.Test.YtkfhkfddhijkcaaGQ1
import Derived.Test.YtkfhkfddhijkcaaFast2
import Derived.Deep.MidRow
namespace Go.Proofs.Ytkfhkfddhijkcaa
open Go.RowKit

/-- Only block b has turned. -/
structure Only1 (b : Nat) (W W' : World) : Prop where
  os : W'.os = W.os
  tape : W'.tape = W.tape
  output : W'.output = W.output
  size : W'.heap.size = W.heap.size
  block : ∀ k, k ≠ b → W'.heap[k]? = W.heap[k]?
theorem Only1.below {b B : Nat} {W W' : World} (h : Only1 b W W') (hB : B ≤ b) : Below B W W' := ⟨h.os, h.tape, h.output, Nat.le_of_eq h.size.symm, fun k hk => h.block k (by omega)⟩
theorem Only1.refl (b : Nat) (W : World) : Only1 b W W := ⟨rfl, rfl, rfl, rfl, fun _ _ => rfl⟩
theorem Only1.trans {b : Nat} {W W' W'' : World} (h : Only1 b W W') (k : Only1 b W' W'') : Only1 b W W'' := ⟨k.os.trans h.os, k.tape.trans h.tape, k.output.trans h.output, k.size.trans h.size, fun i hi => (k.block i hi).trans (h.block i hi)⟩
theorem only_set (W : World) (b : Nat) (o : Obj) : Only1 b W { W with heap := W.heap.setIfInBounds b o } :=
  ⟨rfl, rfl, rfl, by simp, fun k hk => by
    show (W.heap.setIfInBounds b o)[k]? = _
    rw [Array.getElem?_setIfInBounds_ne hk.symm]⟩
theorem only_cell (W : World) (b j : Nat) (v : Value) : Only1 b W (W.setCell ⟨b, j, none⟩ v) :=
  ⟨rfl, rfl, rfl, by simp [World.setCell], fun k hk => Below.heap_setCell W ⟨b, j, none⟩ v k hk⟩
theorem only_cells (b : Nat) : ∀ (vs : List Value) (o : Nat) (W : World), Only1 b W (W.setCells b o vs)
  | [], _, W => Only1.refl b W
  | v :: r, o, W => (only_cell W b o v).trans (only_cells b r (o + 1) _)
theorem only_row (W : World) (g : Nat) (cs : Array Value) : Only1 g W (W.setRow g cs) := ⟨rfl, rfl, rfl, by simp, fun k hk => setRow_other W g k cs hk⟩
theorem Blk.only {W W1 : World} {b c : Nat} {cs : Array Value} {t : TypeId} (h : Blk W b cs t) (ho : Only1 c W W1) (hne : b ≠ c) : Blk W1 b cs t := (ho.block b hne).trans h
theorem Blk.row {W : World} {g : Nat} {old : Array Value} {t : TypeId} (h : Blk W g old t) (cs : Array Value) : Blk (W.setRow g cs) g cs t := setRow_heap W g old cs t (0, 0) h
/-- Cells from j on, one after the other. -/
def setL (cs : Array Value) : Nat → List Value → Array Value
  | _, [] => cs
  | j, v :: r => setL (cs.setIfInBounds j v) (j + 1) r
theorem Blk.cells {b : Nat} {t : TypeId} : ∀ (vs : List Value) (j : Nat) (W : World) (cs : Array Value), Blk W b cs t → Blk (W.setCells b j vs) b (setL cs j vs) t
  | [], _, _, _, h => h
  | v :: r, j, _, _, h => Blk.cells r (j + 1) _ _ (h.set j v)
end Go.Proofs.Ytkfhkfddhijkcaa

namespace Go.Proofs.Ytkfhkfddhijkcaa
open Go.RowKit

section
variable {P : Program} {l : List Oper} {Q : Exit → Act → World → Prop} {rest : List Oper} {a0 : Act} {L : List (Nat × Bool × Value)} {w : World}
theorem fl_skip {o : Oper} {w2 : World} (ho : o.dst = none) (hw : wtG l L o.guard = some true)
    (hr : (∀ p, p ∈ L → p.1 < a0.tmps.size) → (execOp (fr a0 L).eval o).run P w = .ok .skip w2) (h : FL P l Q rest a0 L w2) : FL P l Q (o :: rest) a0 L w := by
  refine ⟨fun hk => ?_⟩
  refine wpList_step fun K hK => ?_
  rw [wt_is hk hw]
  show o.wp P (fr a0 L) w K Q
  unfold Oper.wp
  rw [hr hk, Oper.upon_skip, ho]
  exact hK _ _ (h.go hk)
theorem run_st {t : TypeId} {i : Nat} {x : Operand} {ty : TypeId} {p : String} {af : Array Edge} {gd : Option (Nat × Bool)} {ad v : Value} {w2 : World} {ρ : Operand → Value} (h1 : ρ (.tmp i) = ad) (h2 : ρ x = v) (hr : (Instr.storeAt t ad v).run P w = .ok () w2) :
    (execOp ρ ⟨none, .store t (.tmp i) x, ty, p, af, gd⟩).run P w = .ok .skip w2 := by
  unfold execOp
  dsimp only
  rw [h1, h2, Sem.run_bind, hr]
  rfl
/-- A store of what a constant is. -/
theorem fl_stc {i b j : Nat} {t ty T : TypeId} {v : Value} {p : String} {af : Array Edge} {gd : Option (Nat × Bool)} {cs : Array Value} (hw : wtG l L gd = some true) (hl : lk L i = some (true, .pointer (some ⟨b, j, none⟩))) (hX : Blk w b cs T)
    (hr : (Instr.storeAt t (.pointer (some ⟨b, j, none⟩)) v).run P w = .ok () (w.setCell ⟨b, j, none⟩ v)) (h : ∀ w2, Only1 b w w2 → Blk w2 b (cs.setIfInBounds j v) T → FL P l Q rest a0 L w2) : FL P l Q (⟨none, .store t (.tmp i) (.const v), ty, p, af, gd⟩ :: rest) a0 L w :=
  fl_skip rfl hw (fun hk => run_st (lk_at hk hl (fun _ => rfl) rfl) rfl hr) (h _ (only_cell w b j v) (hX.set j v))
/-- .. of what a slot has. -/
theorem fl_stt {i k b j : Nat} {g : Bool} {t ty T : TypeId} {v : Value} {p : String} {af : Array Edge} {gd : Option (Nat × Bool)} {cs : Array Value} (hw : wtG l L gd = some true) (hl : lk L i = some (true, .pointer (some ⟨b, j, none⟩))) (hl2 : lk L k = some (g, v)) (hg : g = true) (hX : Blk w b cs T)
    (hr : (Instr.storeAt t (.pointer (some ⟨b, j, none⟩)) v).run P w = .ok () (w.setCell ⟨b, j, none⟩ v)) (h : ∀ w2, Only1 b w w2 → Blk w2 b (cs.setIfInBounds j v) T → FL P l Q rest a0 L w2) : FL P l Q (⟨none, .store t (.tmp i) (.tmp k), ty, p, af, gd⟩ :: rest) a0 L w :=
  fl_skip rfl hw (fun hk => run_st (lk_at hk hl (fun _ => rfl) rfl) (lk_at hk hl2 (fun _ => hg) rfl) hr) (h _ (only_cell w b j v) (hX.set j v))
/-- .. of a row or a struct, into cells from j on. -/
theorem fl_stm {i k b j : Nat} {g : Bool} {t ty T : TypeId} {c : Array Value} {p : String} {af : Array Edge} {gd : Option (Nat × Bool)} {cs : Array Value} (hw : wtG l L gd = some true) (hl : lk L i = some (true, .pointer (some ⟨b, j, none⟩))) (hl2 : lk L k = some (g, .agg c)) (hg : g = true) (hX : Blk w b cs T)
    (hs : j + c.size ≤ cs.size) (hi : (P.info? t).map (·.size) = some c.size) (h1 : c.all (·.oneCell') = true) (h : ∀ w2, Only1 b w w2 → Blk w2 b (setL cs j c.toList) T → FL P l Q rest a0 L w2) : FL P l Q (⟨none, .store t (.tmp i) (.tmp k), ty, p, af, gd⟩ :: rest) a0 L w :=
  fl_skip rfl hw (fun hk => run_st (lk_at hk hl (fun _ => rfl) rfl) (lk_at hk hl2 (fun _ => hg) rfl) (by
    simp only [Instr.storeAt, Instr.sureAddr, Sem.run_bind, Sem.run_pure, Result.andThen_ok]
    exact run_storeVar_mid w b j t c (fun i hi => ⟨by rw [hX.cell, Array.getElem?_eq_getElem (by omega)]; rfl, hX.free _⟩) hi h1)) (h _ (only_cells b _ _ w) (Blk.cells _ _ w cs hX))
/-- .. of a whole block. -/
theorem fl_str {i k b : Nat} {g : Bool} {t ty T : TypeId} {c : Array Value} {p : String} {af : Array Edge} {gd : Option (Nat × Bool)} {cs : Array Value} (hw : wtG l L gd = some true) (hl : lk L i = some (true, .pointer (some ⟨b, 0, none⟩))) (hl2 : lk L k = some (g, .agg c)) (hg : g = true) (hX : Blk w b cs T)
    (hs : cs.size = c.size) (hi : (P.info? t).map (·.size) = some c.size) (h1 : c.all (·.oneCell') = true) (h : ∀ w2, Only1 b w w2 → Blk w2 b c T → FL P l Q rest a0 L w2) : FL P l Q (⟨none, .store t (.tmp i) (.tmp k), ty, p, af, gd⟩ :: rest) a0 L w :=
  fl_skip rfl hw (fun hk => run_st (lk_at hk hl (fun _ => rfl) rfl) (lk_at hk hl2 (fun _ => hg) rfl) (by
    simp only [Instr.storeAt, Instr.sureAddr, Sem.run_bind, Sem.run_pure, Result.andThen_ok]
    exact run_storeVar_row w b T t cs c hX hi hs h1)) (h _ (only_row w b c) (hX.row c))
end
section
variable {W : World} {b j : Nat} {cs : Array Value} {T : TypeId}
theorem blk_some (hX : Blk W b cs T) (hj : j < cs.size) : ∃ u, W.cell? ⟨b, j, none⟩ = some u := ⟨cs[j], by rw [hX.cell]; simp [hj]⟩
theorem st_int (hX : Blk W b cs T) (hj : j < cs.size) (m : Int) : (Instr.storeAt 3 (.pointer (some ⟨b, j, none⟩)) (.int .i64 m)).run Try.prog W = .ok () (W.setCell ⟨b, j, none⟩ (.int .i64 m)) := by
  obtain ⟨u, hu⟩ := blk_some hX hj
  have hf := hX.free j
  clear hX
  go_simp
theorem st_bool (hX : Blk W b cs T) (hj : j < cs.size) (m : Bool) : (Instr.storeAt 4 (.pointer (some ⟨b, j, none⟩)) (.bool m)).run Try.prog W = .ok () (W.setCell ⟨b, j, none⟩ (.bool m)) := by
  obtain ⟨u, hu⟩ := blk_some hX hj
  have hf := hX.free j
  clear hX
  go_simp
end
end Go.Proofs.Ytkfhkfddhijkcaa
