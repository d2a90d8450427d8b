/-
  WHAT IS PROVED: stores in chains of operations (XFast): a cell, several cells, a whole block. Over this program
-/
import Derived.Test.YtkfhkfddhijkcaaFast2
import Derived.Test.YtkfhkfddhijkcaaOnly1
import Derived.Deep.MidRow
namespace Go.Proofs.Ytkfhkfddhijkcaa
open Go.RowKit

section
variable {P : Program} {l : List Oper} {Q : Exit → Act → World → Prop} {rest : List Oper} {a0 : Act} {L : List (Nat × Bool × Value)} {w : World}
theorem fl_skip {o : Oper} {w2 : World} (ho : o.dst = none) (hw : wtG l L o.guard = some true)
    (hr : (∀ p, p ∈ L → p.1 < a0.tmps.size) → (execOp (fr a0 L).eval o).run P w = .ok .skip w2) (h : FL P l Q rest a0 L w2) : FL P l Q (o :: rest) a0 L w := by
  refine ⟨fun hk => ?_⟩
  refine wpList_step fun K hK => ?_
  rw [wt_is hk hw]
  show o.wp P (fr a0 L) w K Q
  unfold Oper.wp
  rw [hr hk, Oper.upon_skip, ho]
  exact hK _ _ (h.go hk)
theorem run_st {t : TypeId} {i : Nat} {x : Operand} {ty : TypeId} {p : String} {af : Array Edge} {gd : Option (Nat × Bool)} {ad v : Value} {w2 : World} {ρ : Operand → Value} (h1 : ρ (.tmp i) = ad) (h2 : ρ x = v) (hr : (Instr.storeAt t ad v).run P w = .ok () w2) :
    (execOp ρ ⟨none, .store t (.tmp i) x, ty, p, af, gd⟩).run P w = .ok .skip w2 := by
  unfold execOp
  dsimp only
  rw [h1, h2, Sem.run_bind, hr]
  rfl
/-- A store of what a constant is. -/
theorem fl_stc {i b j : Nat} {t ty T : TypeId} {v : Value} {p : String} {af : Array Edge} {gd : Option (Nat × Bool)} {cs : Array Value} (hw : wtG l L gd = some true) (hl : lk L i = some (true, .pointer (some ⟨b, j, none⟩))) (hX : Blk w b cs T)
    (hr : (Instr.storeAt t (.pointer (some ⟨b, j, none⟩)) v).run P w = .ok () (w.setCell ⟨b, j, none⟩ v)) (h : ∀ w2, Only1 b w w2 → Blk w2 b (cs.setIfInBounds j v) T → FL P l Q rest a0 L w2) : FL P l Q (⟨none, .store t (.tmp i) (.const v), ty, p, af, gd⟩ :: rest) a0 L w :=
  fl_skip rfl hw (fun hk => run_st (lk_at hk hl (fun _ => rfl) rfl) rfl hr) (h _ (only_cell w b j v) (hX.set j v))
/-- .. of what a slot has. -/
theorem fl_stt {i k b j : Nat} {g : Bool} {t ty T : TypeId} {v : Value} {p : String} {af : Array Edge} {gd : Option (Nat × Bool)} {cs : Array Value} (hw : wtG l L gd = some true) (hl : lk L i = some (true, .pointer (some ⟨b, j, none⟩))) (hl2 : lk L k = some (g, v)) (hg : g = true) (hX : Blk w b cs T)
    (hr : (Instr.storeAt t (.pointer (some ⟨b, j, none⟩)) v).run P w = .ok () (w.setCell ⟨b, j, none⟩ v)) (h : ∀ w2, Only1 b w w2 → Blk w2 b (cs.setIfInBounds j v) T → FL P l Q rest a0 L w2) : FL P l Q (⟨none, .store t (.tmp i) (.tmp k), ty, p, af, gd⟩ :: rest) a0 L w :=
  fl_skip rfl hw (fun hk => run_st (lk_at hk hl (fun _ => rfl) rfl) (lk_at hk hl2 (fun _ => hg) rfl) hr) (h _ (only_cell w b j v) (hX.set j v))
/-- .. of a row or a struct, into cells from j on. -/
theorem fl_stm {i k b j : Nat} {g : Bool} {t ty T : TypeId} {c : Array Value} {p : String} {af : Array Edge} {gd : Option (Nat × Bool)} {cs : Array Value} (hw : wtG l L gd = some true) (hl : lk L i = some (true, .pointer (some ⟨b, j, none⟩))) (hl2 : lk L k = some (g, .agg c)) (hg : g = true) (hX : Blk w b cs T)
    (hs : j + c.size ≤ cs.size) (hi : (P.info? t).map (·.size) = some c.size) (h1 : c.all (·.oneCell') = true) (h : ∀ w2, Only1 b w w2 → Blk w2 b (setL cs j c.toList) T → FL P l Q rest a0 L w2) : FL P l Q (⟨none, .store t (.tmp i) (.tmp k), ty, p, af, gd⟩ :: rest) a0 L w :=
  fl_skip rfl hw (fun hk => run_st (lk_at hk hl (fun _ => rfl) rfl) (lk_at hk hl2 (fun _ => hg) rfl) (by
    simp only [Instr.storeAt, Instr.sureAddr, Sem.run_bind, Sem.run_pure, Result.andThen_ok]
    exact run_storeVar_mid w b j t c (fun i hi => ⟨by rw [hX.cell, Array.getElem?_eq_getElem (by omega)]; rfl, hX.free _⟩) hi h1)) (h _ (only_cells b _ _ w) (Blk.cells _ _ w cs hX))
/-- .. of a whole block. -/
theorem fl_str {i k b : Nat} {g : Bool} {t ty T : TypeId} {c : Array Value} {p : String} {af : Array Edge} {gd : Option (Nat × Bool)} {cs : Array Value} (hw : wtG l L gd = some true) (hl : lk L i = some (true, .pointer (some ⟨b, 0, none⟩))) (hl2 : lk L k = some (g, .agg c)) (hg : g = true) (hX : Blk w b cs T)
    (hs : cs.size = c.size) (hi : (P.info? t).map (·.size) = some c.size) (h1 : c.all (·.oneCell') = true) (h : ∀ w2, Only1 b w w2 → Blk w2 b c T → FL P l Q rest a0 L w2) : FL P l Q (⟨none, .store t (.tmp i) (.tmp k), ty, p, af, gd⟩ :: rest) a0 L w :=
  fl_skip rfl hw (fun hk => run_st (lk_at hk hl (fun _ => rfl) rfl) (lk_at hk hl2 (fun _ => hg) rfl) (by
    simp only [Instr.storeAt, Instr.sureAddr, Sem.run_bind, Sem.run_pure, Result.andThen_ok]
    exact run_storeVar_row w b T t cs c hX hi hs h1)) (h _ (only_row w b c) (hX.row c))
end
section
variable {W : World} {b j : Nat} {cs : Array Value} {T : TypeId}
theorem blk_some (hX : Blk W b cs T) (hj : j < cs.size) : ∃ u, W.cell? ⟨b, j, none⟩ = some u := ⟨cs[j], by rw [hX.cell]; simp [hj]⟩
theorem st_int (hX : Blk W b cs T) (hj : j < cs.size) (m : Int) : (Instr.storeAt 3 (.pointer (some ⟨b, j, none⟩)) (.int .i64 m)).run Try.prog W = .ok () (W.setCell ⟨b, j, none⟩ (.int .i64 m)) := by
  obtain ⟨u, hu⟩ := blk_some hX hj
  have hf := hX.free j
  clear hX
  go_simp
theorem st_bool (hX : Blk W b cs T) (hj : j < cs.size) (m : Bool) : (Instr.storeAt 4 (.pointer (some ⟨b, j, none⟩)) (.bool m)).run Try.prog W = .ok () (W.setCell ⟨b, j, none⟩ (.bool m)) := by
  obtain ⟨u, hu⟩ := blk_some hX hj
  have hf := hX.free j
  clear hX
  go_simp
end
end Go.Proofs.Ytkfhkfddhijkcaa
