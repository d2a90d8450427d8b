/-
  WHAT IS PROVED: more laws for chains of guarded operations (XFast): calls that keep what lay there, assignments, comparisons. Over this program · plain words for a world in which one block alone has turned. No program is spoken of. · stores in chains of operations (XFast): a cell, several cells, a whole block. Over this program · the laws of XFast, Fast2, Fast3 once more, their side conditions as default arguments. Over this program · a letter's fields and cells as steps of a chain (Fast4). Over this program
-/
import Derived.Test.YtpjleeeligahaaaGreatDoorGQ7
import Derived.Test.YtpjleeeligahaaaGreatDoorGQ1
import Derived.Deep.MidRow
namespace Go.Proofs.YtpjleeeligahaaaGreatDoor
open Go.RowKit

section
variable {P : Program} {l : List Oper} {Q : Exit → Act → World → Prop} {rest : List Oper} {a0 : Act} {L : List (Nat × Bool × Value)} {w : World}
theorem fl_callw {o : Oper} {d n : Nat} {g : Bool} {v : Value} {f : FuncId} {args : Array Value} (hn : a0.tmps.size = n) (ho : o.dst = some d) (hd : Nat.blt d n = true) (hw : wtG l L o.guard = some g)
    (hr : (∀ p, p ∈ L → p.1 < a0.tmps.size) → g = true → (execOp (fr a0 L).eval o).run P w = .ok (.enter f args) w) (hc : g = true → Calls P f args w fun e w' => e = .returned v ∧ Below w.heap.size w w') (h : ∀ w2, Below w.heap.size w w2 → FL P l Q rest a0 ((d, g, v) :: L) w2) : FL P l Q (o :: rest) a0 L w := by
  refine ⟨fun hk => ?_⟩
  have h2 : ∀ w2, Below w.heap.size w w2 → wpList P l.toArray Q rest ((fr a0 L).put (some d) (cnd g v)) w2 := fun w2 hb => (h w2 hb).go (fun p hp => by
    rcases List.mem_cons.1 hp with e | e
    · rw [e, hn]; exact blt_lt hd
    · exact hk p e)
  refine wpList_step fun K hK => ?_
  rw [wt_is hk hw]
  cases g with
  | false => exact hK _ _ (by rw [ho]; exact h2 w (Below.refl _ _))
  | true =>
    show o.wp P (fr a0 L) w K Q
    unfold Oper.wp
    rw [hr hk rfl, Oper.upon_enter]
    refine (hc rfl).mono ?_
    rintro e w' ⟨rfl, hb⟩
    exact hK _ _ (by rw [ho]; exact h2 w' hb)
theorem fl_callx {o : Oper} {d n : Nat} {f : FuncId} {args : Array Value} {R : Value → World → Prop} (hn : a0.tmps.size = n) (ho : o.dst = some d) (hd : Nat.blt d n = true) (hw : wtG l L o.guard = some true)
    (hr : (∀ p, p ∈ L → p.1 < a0.tmps.size) → (execOp (fr a0 L).eval o).run P w = .ok (.enter f args) w) (hc : Calls P f args w fun e w' => ∃ v, e = .returned v ∧ R v w') (h : ∀ v w2, R v w2 → FL P l Q rest a0 ((d, true, v) :: L) w2) : FL P l Q (o :: rest) a0 L w := by
  refine ⟨fun hk => ?_⟩
  refine wpList_step fun K hK => ?_
  rw [wt_is hk hw]
  show o.wp P (fr a0 L) w K Q
  unfold Oper.wp
  rw [hr hk, Oper.upon_enter]
  refine hc.mono ?_
  rintro e w' ⟨v, rfl, hR⟩
  have h2 : wpList P l.toArray Q rest ((fr a0 L).put (some d) (cnd true v)) w' := (h v w' hR).go (fun p hp => by
    rcases List.mem_cons.1 hp with e | e
    · rw [e, hn]; exact blt_lt hd
    · exact hk p e)
  exact hK _ _ (by rw [ho]; exact h2)
theorem fl_opw {o : Oper} {d n : Nat} {v : Value} {w2 : World} (hn : a0.tmps.size = n) (ho : o.dst = some d) (hd : Nat.blt d n = true) (hw : wtG l L o.guard = some true)
    (hr : (∀ p, p ∈ L → p.1 < a0.tmps.size) → (execOp (fr a0 L).eval o).run P w = .ok (.value v) w2) (h : FL P l Q rest a0 ((d, true, v) :: L) w2) : FL P l Q (o :: rest) a0 L w := by
  refine ⟨fun hk => ?_⟩
  have h2 : wpList P l.toArray Q rest ((fr a0 L).put (some d) (cnd true v)) w2 := h.go (fun p hp => by
    rcases List.mem_cons.1 hp with e | e
    · rw [e, hn]; exact blt_lt hd
    · exact hk p e)
  refine wpList_step fun K hK => ?_
  rw [wt_is hk hw]
  show o.wp P (fr a0 L) w K Q
  unfold Oper.wp
  rw [hr hk]
  exact hK _ _ (by rw [ho]; exact h2)
theorem fl_assign {i d n : Nat} {ty : TypeId} {p : String} {af : Array Edge} {gd : Option (Nat × Bool)} {g gi : Bool} {v : Value} (hn : a0.tmps.size = n) (hd : Nat.blt d n = true) (hw : wtG l L gd = some g) (hl : lk L i = some (gi, v)) (hs : g = true → gi = true)
    (h : FL P l Q rest a0 ((d, g, v) :: L) w) : FL P l Q (⟨some d, .assign (.tmp i), ty, p, af, gd⟩ :: rest) a0 L w :=
  fl_op hn rfl hd hw (fun hk hg => by show Result.ok (Next.value ((fr a0 L).eval (.tmp i))) w = _; rw [lk_at hk hl hs hg]) h
theorem fl_nilc {i d n : Nat} {ty : TypeId} {p : String} {af : Array Edge} {gd : Option (Nat × Bool)} {g gi : Bool} {ad : Addr} (hn : a0.tmps.size = n) (hd : Nat.blt d n = true) (hw : wtG l L gd = some g) (hl : lk L i = some (gi, (.pointer (some ad)))) (hs : g = true → gi = true)
    (h : FL P l Q rest a0 ((d, g, (.pointer (some ad))) :: L) w) : FL P l Q (⟨some d, .nilCheck (.tmp i), ty, p, af, gd⟩ :: rest) a0 L w :=
  fl_op hn rfl hd hw (fun hk hg => by
    have e := lk_at hk hl hs hg
    unfold execOp
    dsimp only
    rw [e]
    rfl) h
end
section
variable {l : List Oper} {Q : Exit → Act → World → Prop} {rest : List Oper} {a0 : Act} {L : List (Nat × Bool × Value)} {w : World}
theorem bin_lss (d : Option Tmp) (x y : Operand) (ty ty2 : TypeId) (p : String) (af : Array Edge) (gd : Option (Nat × Bool)) (ρ : Operand → Value) (m k : Int) (h1 : ρ x = .int .i64 m) (h2 : ρ y = .int .i64 k) : (execOp ρ ⟨d, .binOp .lss 3 x y ty2, ty, p, af, gd⟩).run Tryz.prog w = .ok (.value (.bool (decide (m < k)))) w := by
  unfold execOp
  dsimp only
  rw [h1, h2]
  go_simp
theorem fl_lss {i d n : Nat} {m k : Int} {ty ty2 : TypeId} {p : String} {af : Array Edge} {gd : Option (Nat × Bool)} {g gi : Bool} (hn : a0.tmps.size = n) (hd : Nat.blt d n = true) (hw : wtG l L gd = some g) (hl : lk L i = some (gi, (.int .i64 m))) (hs : g = true → gi = true)
    (h : FL Tryz.prog l Q rest a0 ((d, g, (.bool (decide (m < k)))) :: L) w) : FL Tryz.prog l Q (⟨some d, .binOp .lss 3 (.tmp i) (.const (.int .i64 k)) ty2, ty, p, af, gd⟩ :: rest) a0 L w :=
  fl_op hn rfl hd hw (fun hk hg => bin_lss _ _ _ _ _ _ _ _ _ m k (lk_at hk hl hs hg) rfl) h
theorem fl_lss2 {i j d n : Nat} {m k : Int} {ty ty2 : TypeId} {p : String} {af : Array Edge} {gd : Option (Nat × Bool)} {g gi gj : Bool} (hn : a0.tmps.size = n) (hd : Nat.blt d n = true) (hw : wtG l L gd = some g) (hl : lk L i = some (gi, (.int .i64 m))) (hs : g = true → gi = true) (hl2 : lk L j = some (gj, (.int .i64 k))) (hs2 : g = true → gj = true)
    (h : FL Tryz.prog l Q rest a0 ((d, g, (.bool (decide (m < k)))) :: L) w) : FL Tryz.prog l Q (⟨some d, .binOp .lss 3 (.tmp i) (.tmp j) ty2, ty, p, af, gd⟩ :: rest) a0 L w :=
  fl_op hn rfl hd hw (fun hk hg => bin_lss _ _ _ _ _ _ _ _ _ m k (lk_at hk hl hs hg) (lk_at hk hl2 hs2 hg)) h
theorem bin_geq (d : Option Tmp) (x y : Operand) (ty ty2 : TypeId) (p : String) (af : Array Edge) (gd : Option (Nat × Bool)) (ρ : Operand → Value) (m k : Int) (h1 : ρ x = .int .i64 m) (h2 : ρ y = .int .i64 k) : (execOp ρ ⟨d, .binOp .geq 3 x y ty2, ty, p, af, gd⟩).run Tryz.prog w = .ok (.value (.bool (decide (k ≤ m)))) w := by
  unfold execOp
  dsimp only
  rw [h1, h2]
  go_simp
theorem fl_geq {i d n : Nat} {m k : Int} {ty ty2 : TypeId} {p : String} {af : Array Edge} {gd : Option (Nat × Bool)} {g gi : Bool} (hn : a0.tmps.size = n) (hd : Nat.blt d n = true) (hw : wtG l L gd = some g) (hl : lk L i = some (gi, (.int .i64 m))) (hs : g = true → gi = true)
    (h : FL Tryz.prog l Q rest a0 ((d, g, (.bool (decide (k ≤ m)))) :: L) w) : FL Tryz.prog l Q (⟨some d, .binOp .geq 3 (.tmp i) (.const (.int .i64 k)) ty2, ty, p, af, gd⟩ :: rest) a0 L w :=
  fl_op hn rfl hd hw (fun hk hg => bin_geq _ _ _ _ _ _ _ _ _ m k (lk_at hk hl hs hg) rfl) h
theorem fl_geq2 {i j d n : Nat} {m k : Int} {ty ty2 : TypeId} {p : String} {af : Array Edge} {gd : Option (Nat × Bool)} {g gi gj : Bool} (hn : a0.tmps.size = n) (hd : Nat.blt d n = true) (hw : wtG l L gd = some g) (hl : lk L i = some (gi, (.int .i64 m))) (hs : g = true → gi = true) (hl2 : lk L j = some (gj, (.int .i64 k))) (hs2 : g = true → gj = true)
    (h : FL Tryz.prog l Q rest a0 ((d, g, (.bool (decide (k ≤ m)))) :: L) w) : FL Tryz.prog l Q (⟨some d, .binOp .geq 3 (.tmp i) (.tmp j) ty2, ty, p, af, gd⟩ :: rest) a0 L w :=
  fl_op hn rfl hd hw (fun hk hg => bin_geq _ _ _ _ _ _ _ _ _ m k (lk_at hk hl hs hg) (lk_at hk hl2 hs2 hg)) h
theorem call1_is {f : FuncId} (he : ∀ args w, (callFunc f args).run Tryz.prog w = .ok (.enter f args) w) (d : Option Tmp) (x0 : Operand) (ts : Array TypeId) (ty : TypeId) (p : String) (af : Array Edge) (gd : Option (Nat × Bool)) (ρ : Operand → Value) (v0 : Value) (h0 : ρ x0 = v0) (hf : ρ (.func f) = .func (.func f) #[] #[]) : (execOp ρ ⟨d, .call { callee := .value (.func f), args := #[x0], argTypes := ts }, ty, p, af, gd⟩).run Tryz.prog w = .ok (.enter f #[v0]) w := by
  unfold execOp
  dsimp only
  go_simp
theorem call2_is {f : FuncId} (he : ∀ args w, (callFunc f args).run Tryz.prog w = .ok (.enter f args) w) (d : Option Tmp) (x0 x1 : Operand) (ts : Array TypeId) (ty : TypeId) (p : String) (af : Array Edge) (gd : Option (Nat × Bool)) (ρ : Operand → Value) (v0 v1 : Value) (h0 : ρ x0 = v0) (h1 : ρ x1 = v1) (hf : ρ (.func f) = .func (.func f) #[] #[]) : (execOp ρ ⟨d, .call { callee := .value (.func f), args := #[x0, x1], argTypes := ts }, ty, p, af, gd⟩).run Tryz.prog w = .ok (.enter f #[v0, v1]) w := by
  unfold execOp
  dsimp only
  go_simp
theorem fl_call1w {f : FuncId} {i0 d n : Nat} {v0 r : Value} {ts : Array TypeId} {ty : TypeId} {p : String} {af : Array Edge} {gd : Option (Nat × Bool)} {g g0 : Bool} (he : ∀ args w, (callFunc f args).run Tryz.prog w = .ok (.enter f args) w) (hn : a0.tmps.size = n) (hd : Nat.blt d n = true) (hw : wtG l L gd = some g) (hl0 : lk L i0 = some (g0, v0)) (hs0 : g = true → g0 = true)
    (hc : g = true → Calls Tryz.prog f #[v0] w fun e w' => e = .returned r ∧ Below w.heap.size w w') (h : ∀ w2, Below w.heap.size w w2 → FL Tryz.prog l Q rest a0 ((d, g, r) :: L) w2) : FL Tryz.prog l Q (⟨some d, .call { callee := .value (.func f), args := #[.tmp i0], argTypes := ts }, ty, p, af, gd⟩ :: rest) a0 L w :=
  fl_callw hn rfl hd hw (fun hk hg => call1_is he _ _ _ _ _ _ _ _ v0 (lk_at hk hl0 hs0 hg) rfl) hc h
theorem fl_call1x {f : FuncId} {i0 d n : Nat} {v0 : Value} {R : Value → World → Prop} {ts : Array TypeId} {ty : TypeId} {p : String} {af : Array Edge} {gd : Option (Nat × Bool)} {g0 : Bool} (he : ∀ args w, (callFunc f args).run Tryz.prog w = .ok (.enter f args) w) (hn : a0.tmps.size = n) (hd : Nat.blt d n = true) (hw : wtG l L gd = some true) (hl0 : lk L i0 = some (g0, v0)) (hs0 : g0 = true)
    (hc : Calls Tryz.prog f #[v0] w fun e w' => ∃ v, e = .returned v ∧ R v w') (h : ∀ v w2, R v w2 → FL Tryz.prog l Q rest a0 ((d, true, v) :: L) w2) : FL Tryz.prog l Q (⟨some d, .call { callee := .value (.func f), args := #[.tmp i0], argTypes := ts }, ty, p, af, gd⟩ :: rest) a0 L w :=
  fl_callx hn rfl hd hw (fun hk => call1_is he _ _ _ _ _ _ _ _ v0 (lk_at hk hl0 (fun _ => hs0) rfl) rfl) hc h
theorem fl_call2w {f : FuncId} {i0 i1 d n : Nat} {v0 v1 r : Value} {ts : Array TypeId} {ty : TypeId} {p : String} {af : Array Edge} {gd : Option (Nat × Bool)} {g g0 g1 : Bool} (he : ∀ args w, (callFunc f args).run Tryz.prog w = .ok (.enter f args) w) (hn : a0.tmps.size = n) (hd : Nat.blt d n = true) (hw : wtG l L gd = some g) (hl0 : lk L i0 = some (g0, v0)) (hs0 : g = true → g0 = true) (hl1 : lk L i1 = some (g1, v1)) (hs1 : g = true → g1 = true)
    (hc : g = true → Calls Tryz.prog f #[v0, v1] w fun e w' => e = .returned r ∧ Below w.heap.size w w') (h : ∀ w2, Below w.heap.size w w2 → FL Tryz.prog l Q rest a0 ((d, g, r) :: L) w2) : FL Tryz.prog l Q (⟨some d, .call { callee := .value (.func f), args := #[.tmp i0, .tmp i1], argTypes := ts }, ty, p, af, gd⟩ :: rest) a0 L w :=
  fl_callw hn rfl hd hw (fun hk hg => call2_is he _ _ _ _ _ _ _ _ _ v0 v1 (lk_at hk hl0 hs0 hg) (lk_at hk hl1 hs1 hg) rfl) hc h
theorem fl_call2x {f : FuncId} {i0 i1 d n : Nat} {v0 v1 : Value} {R : Value → World → Prop} {ts : Array TypeId} {ty : TypeId} {p : String} {af : Array Edge} {gd : Option (Nat × Bool)} {g0 g1 : Bool} (he : ∀ args w, (callFunc f args).run Tryz.prog w = .ok (.enter f args) w) (hn : a0.tmps.size = n) (hd : Nat.blt d n = true) (hw : wtG l L gd = some true) (hl0 : lk L i0 = some (g0, v0)) (hs0 : g0 = true) (hl1 : lk L i1 = some (g1, v1)) (hs1 : g1 = true)
    (hc : Calls Tryz.prog f #[v0, v1] w fun e w' => ∃ v, e = .returned v ∧ R v w') (h : ∀ v w2, R v w2 → FL Tryz.prog l Q rest a0 ((d, true, v) :: L) w2) : FL Tryz.prog l Q (⟨some d, .call { callee := .value (.func f), args := #[.tmp i0, .tmp i1], argTypes := ts }, ty, p, af, gd⟩ :: rest) a0 L w :=
  fl_callx hn rfl hd hw (fun hk => call2_is he _ _ _ _ _ _ _ _ _ v0 v1 (lk_at hk hl0 (fun _ => hs0) rfl) (lk_at hk hl1 (fun _ => hs1) rfl) rfl) hc h
end
end Go.Proofs.YtpjleeeligahaaaGreatDoor

namespace Go.Proofs.YtpjleeeligahaaaGreatDoor
open Go.RowKit

/-- Only block b has turned. -/
structure Only1 (b : Nat) (W W' : World) : Prop where
  os : W'.os = W.os
  tape : W'.tape = W.tape
  output : W'.output = W.output
  size : W'.heap.size = W.heap.size
  block : ∀ k, k ≠ b → W'.heap[k]? = W.heap[k]?
theorem Only1.below {b B : Nat} {W W' : World} (h : Only1 b W W') (hB : B ≤ b) : Below B W W' := ⟨h.os, h.tape, h.output, Nat.le_of_eq h.size.symm, fun k hk => h.block k (by omega)⟩
theorem Only1.refl (b : Nat) (W : World) : Only1 b W W := ⟨rfl, rfl, rfl, rfl, fun _ _ => rfl⟩
theorem Only1.trans {b : Nat} {W W' W'' : World} (h : Only1 b W W') (k : Only1 b W' W'') : Only1 b W W'' := ⟨k.os.trans h.os, k.tape.trans h.tape, k.output.trans h.output, k.size.trans h.size, fun i hi => (k.block i hi).trans (h.block i hi)⟩
theorem only_set (W : World) (b : Nat) (o : Obj) : Only1 b W { W with heap := W.heap.setIfInBounds b o } :=
  ⟨rfl, rfl, rfl, by simp, fun k hk => by
    show (W.heap.setIfInBounds b o)[k]? = _
    rw [Array.getElem?_setIfInBounds_ne hk.symm]⟩
theorem only_cell (W : World) (b j : Nat) (v : Value) : Only1 b W (W.setCell ⟨b, j, none⟩ v) :=
  ⟨rfl, rfl, rfl, by simp [World.setCell], fun k hk => Below.heap_setCell W ⟨b, j, none⟩ v k hk⟩
theorem only_cells (b : Nat) : ∀ (vs : List Value) (o : Nat) (W : World), Only1 b W (W.setCells b o vs)
  | [], _, W => Only1.refl b W
  | v :: r, o, W => (only_cell W b o v).trans (only_cells b r (o + 1) _)
theorem only_row (W : World) (g : Nat) (cs : Array Value) : Only1 g W (W.setRow g cs) := ⟨rfl, rfl, rfl, by simp, fun k hk => setRow_other W g k cs hk⟩
theorem Blk.only {W W1 : World} {b c : Nat} {cs : Array Value} {t : TypeId} (h : Blk W b cs t) (ho : Only1 c W W1) (hne : b ≠ c) : Blk W1 b cs t := (ho.block b hne).trans h
theorem Blk.row {W : World} {g : Nat} {old : Array Value} {t : TypeId} (h : Blk W g old t) (cs : Array Value) : Blk (W.setRow g cs) g cs t := setRow_heap W g old cs t (0, 0) h
/-- Cells from j on, one after the other. -/
def setL (cs : Array Value) : Nat → List Value → Array Value
  | _, [] => cs
  | j, v :: r => setL (cs.setIfInBounds j v) (j + 1) r
theorem Blk.cells {b : Nat} {t : TypeId} : ∀ (vs : List Value) (j : Nat) (W : World) (cs : Array Value), Blk W b cs t → Blk (W.setCells b j vs) b (setL cs j vs) t
  | [], _, _, _, h => h
  | v :: r, j, _, _, h => Blk.cells r (j + 1) _ _ (h.set j v)
end Go.Proofs.YtpjleeeligahaaaGreatDoor

namespace Go.Proofs.YtpjleeeligahaaaGreatDoor
open Go.RowKit

section
variable {P : Program} {l : List Oper} {Q : Exit → Act → World → Prop} {rest : List Oper} {a0 : Act} {L : List (Nat × Bool × Value)} {w : World}
theorem fl_skip {o : Oper} {w2 : World} (ho : o.dst = none) (hw : wtG l L o.guard = some true)
    (hr : (∀ p, p ∈ L → p.1 < a0.tmps.size) → (execOp (fr a0 L).eval o).run P w = .ok .skip w2) (h : FL P l Q rest a0 L w2) : FL P l Q (o :: rest) a0 L w := by
  refine ⟨fun hk => ?_⟩
  refine wpList_step fun K hK => ?_
  rw [wt_is hk hw]
  show o.wp P (fr a0 L) w K Q
  unfold Oper.wp
  rw [hr hk, Oper.upon_skip, ho]
  exact hK _ _ (h.go hk)
theorem run_st {t : TypeId} {i : Nat} {x : Operand} {ty : TypeId} {p : String} {af : Array Edge} {gd : Option (Nat × Bool)} {ad v : Value} {w2 : World} {ρ : Operand → Value} (h1 : ρ (.tmp i) = ad) (h2 : ρ x = v) (hr : (Instr.storeAt t ad v).run P w = .ok () w2) :
    (execOp ρ ⟨none, .store t (.tmp i) x, ty, p, af, gd⟩).run P w = .ok .skip w2 := by
  unfold execOp
  dsimp only
  rw [h1, h2, Sem.run_bind, hr]
  rfl
/-- A store of what a constant is. -/
theorem fl_stc {i b j : Nat} {t ty T : TypeId} {v : Value} {p : String} {af : Array Edge} {gd : Option (Nat × Bool)} {cs : Array Value} (hw : wtG l L gd = some true) (hl : lk L i = some (true, .pointer (some ⟨b, j, none⟩))) (hX : Blk w b cs T)
    (hr : (Instr.storeAt t (.pointer (some ⟨b, j, none⟩)) v).run P w = .ok () (w.setCell ⟨b, j, none⟩ v)) (h : ∀ w2, Only1 b w w2 → Blk w2 b (cs.setIfInBounds j v) T → FL P l Q rest a0 L w2) : FL P l Q (⟨none, .store t (.tmp i) (.const v), ty, p, af, gd⟩ :: rest) a0 L w :=
  fl_skip rfl hw (fun hk => run_st (lk_at hk hl (fun _ => rfl) rfl) rfl hr) (h _ (only_cell w b j v) (hX.set j v))
/-- .. of what a slot has. -/
theorem fl_stt {i k b j : Nat} {g : Bool} {t ty T : TypeId} {v : Value} {p : String} {af : Array Edge} {gd : Option (Nat × Bool)} {cs : Array Value} (hw : wtG l L gd = some true) (hl : lk L i = some (true, .pointer (some ⟨b, j, none⟩))) (hl2 : lk L k = some (g, v)) (hg : g = true) (hX : Blk w b cs T)
    (hr : (Instr.storeAt t (.pointer (some ⟨b, j, none⟩)) v).run P w = .ok () (w.setCell ⟨b, j, none⟩ v)) (h : ∀ w2, Only1 b w w2 → Blk w2 b (cs.setIfInBounds j v) T → FL P l Q rest a0 L w2) : FL P l Q (⟨none, .store t (.tmp i) (.tmp k), ty, p, af, gd⟩ :: rest) a0 L w :=
  fl_skip rfl hw (fun hk => run_st (lk_at hk hl (fun _ => rfl) rfl) (lk_at hk hl2 (fun _ => hg) rfl) hr) (h _ (only_cell w b j v) (hX.set j v))
/-- .. of a row or a struct, into cells from j on. -/
theorem fl_stm {i k b j : Nat} {g : Bool} {t ty T : TypeId} {c : Array Value} {p : String} {af : Array Edge} {gd : Option (Nat × Bool)} {cs : Array Value} (hw : wtG l L gd = some true) (hl : lk L i = some (true, .pointer (some ⟨b, j, none⟩))) (hl2 : lk L k = some (g, .agg c)) (hg : g = true) (hX : Blk w b cs T)
    (hs : j + c.size ≤ cs.size) (hi : (P.info? t).map (·.size) = some c.size) (h1 : c.all (·.oneCell') = true) (h : ∀ w2, Only1 b w w2 → Blk w2 b (setL cs j c.toList) T → FL P l Q rest a0 L w2) : FL P l Q (⟨none, .store t (.tmp i) (.tmp k), ty, p, af, gd⟩ :: rest) a0 L w :=
  fl_skip rfl hw (fun hk => run_st (lk_at hk hl (fun _ => rfl) rfl) (lk_at hk hl2 (fun _ => hg) rfl) (by
    simp only [Instr.storeAt, Instr.sureAddr, Sem.run_bind, Sem.run_pure, Result.andThen_ok]
    exact run_storeVar_mid w b j t c (fun i hi => ⟨by rw [hX.cell, Array.getElem?_eq_getElem (by omega)]; rfl, hX.free _⟩) hi h1)) (h _ (only_cells b _ _ w) (Blk.cells _ _ w cs hX))
/-- .. of a whole block. -/
theorem fl_str {i k b : Nat} {g : Bool} {t ty T : TypeId} {c : Array Value} {p : String} {af : Array Edge} {gd : Option (Nat × Bool)} {cs : Array Value} (hw : wtG l L gd = some true) (hl : lk L i = some (true, .pointer (some ⟨b, 0, none⟩))) (hl2 : lk L k = some (g, .agg c)) (hg : g = true) (hX : Blk w b cs T)
    (hs : cs.size = c.size) (hi : (P.info? t).map (·.size) = some c.size) (h1 : c.all (·.oneCell') = true) (h : ∀ w2, Only1 b w w2 → Blk w2 b c T → FL P l Q rest a0 L w2) : FL P l Q (⟨none, .store t (.tmp i) (.tmp k), ty, p, af, gd⟩ :: rest) a0 L w :=
  fl_skip rfl hw (fun hk => run_st (lk_at hk hl (fun _ => rfl) rfl) (lk_at hk hl2 (fun _ => hg) rfl) (by
    simp only [Instr.storeAt, Instr.sureAddr, Sem.run_bind, Sem.run_pure, Result.andThen_ok]
    exact run_storeVar_row w b T t cs c hX hi hs h1)) (h _ (only_row w b c) (hX.row c))
end
section
variable {W : World} {b j : Nat} {cs : Array Value} {T : TypeId}
theorem blk_some (hX : Blk W b cs T) (hj : j < cs.size) : ∃ u, W.cell? ⟨b, j, none⟩ = some u := ⟨cs[j], by rw [hX.cell]; simp [hj]⟩
theorem st_int (hX : Blk W b cs T) (hj : j < cs.size) (m : Int) : (Instr.storeAt 3 (.pointer (some ⟨b, j, none⟩)) (.int .i64 m)).run Tryz.prog W = .ok () (W.setCell ⟨b, j, none⟩ (.int .i64 m)) := by
  obtain ⟨u, hu⟩ := blk_some hX hj
  have hf := hX.free j
  clear hX
  go_simp
theorem st_bool (hX : Blk W b cs T) (hj : j < cs.size) (m : Bool) : (Instr.storeAt 4 (.pointer (some ⟨b, j, none⟩)) (.bool m)).run Tryz.prog W = .ok () (W.setCell ⟨b, j, none⟩ (.bool m)) := by
  obtain ⟨u, hu⟩ := blk_some hX hj
  have hf := hX.free j
  clear hX
  go_simp
end
end Go.Proofs.YtpjleeeligahaaaGreatDoor

namespace Go.Proofs.YtpjleeeligahaaaGreatDoor
open Go.RowKit

section
variable {P : Program} {l : List Oper} {Q : Exit → Act → World → Prop} {rest : List Oper} {a0 : Act} {L : List (Nat × Bool × Value)} {w : World}
theorem run_bc {w : World} {op : BinOp} {x : Operand} {t ty ty2 : TypeId} {c v vi : Value} {d : Option Tmp} {p : String} {af : Array Edge} {gd : Option (Nat × Bool)} {ρ : Operand → Value} (h1 : ρ x = vi) (hr : ((do eqGuard op t x (.const c) vi c; binOp op t vi c) : Sem Value).run P w = .ok v w) (h2 : ρ (.const c) = c := by rfl) : (execOp ρ ⟨d, .binOp op t x (.const c) ty2, ty, p, af, gd⟩).run P w = .ok (.value v) w := by
  unfold execOp
  dsimp only
  rw [h1, h2, Sem.run_bind, hr]
  rfl
theorem run_cv {w : World} {x : Operand} {t t2 ty : TypeId} {v vi : Value} {d : Option Tmp} {p : String} {af : Array Edge} {gd : Option (Nat × Bool)} {ρ : Operand → Value} (h1 : ρ x = vi) (hr : (convert t t2 vi).run P w = .ok v w) : (execOp ρ ⟨d, .convert t t2 x, ty, p, af, gd⟩).run P w = .ok (.value v) w := by
  unfold execOp
  dsimp only
  rw [h1, Sem.run_bind, hr]
  rfl
theorem run_ex {w : World} {x : Operand} {k : Nat} {ty : TypeId} {v : Value} {cs : Array Value} {d : Option Tmp} {p : String} {af : Array Edge} {gd : Option (Nat × Bool)} {ρ : Operand → Value} (h1 : ρ x = .tuple cs) (hr : cs[k]? = some v) : (execOp ρ ⟨d, .extract x k, ty, p, af, gd⟩).run P w = .ok (.value v) w := by
  unfold execOp
  dsimp only
  rw [h1]
  simp [Instr.extract, hr]
theorem g_mv {d n : Nat} {i : Nat} {gi : Bool} {v : Value} {ty : TypeId} {p : String} {af : Array Edge} {gd : Option (Nat × Bool)} {g : Bool} (hn : a0.tmps.size = n)  (h : FL P l Q rest a0 ((d, g, v) :: L) w) (hd : Nat.blt d n = true := by rfl) (hw : wtG l L gd = some g := by rfl) (hli : lk L i = some (gi, v) := by rfl) (hsi : g = true → gi = true := by first | exact fun _ => rfl | exact id | exact and_l | exact fun h => and_l (and_l h) | exact fun h => and_l (and_l (and_l h)) | exact fun h => and_l (and_l (and_l (and_l h))) | exact fun h => and_l (and_l (and_l (and_l (and_l h))))) : FL P l Q (⟨some d, .move (.tmp i), ty, p, af, gd⟩ :: rest) a0 L w := fl_move hn hd hw hli hsi h
theorem g_as {d n : Nat} {i : Nat} {gi : Bool} {v : Value} {ty : TypeId} {p : String} {af : Array Edge} {gd : Option (Nat × Bool)} {g : Bool} (hn : a0.tmps.size = n)  (h : FL P l Q rest a0 ((d, g, v) :: L) w) (hd : Nat.blt d n = true := by rfl) (hw : wtG l L gd = some g := by rfl) (hli : lk L i = some (gi, v) := by rfl) (hsi : g = true → gi = true := by first | exact fun _ => rfl | exact id | exact and_l | exact fun h => and_l (and_l h) | exact fun h => and_l (and_l (and_l h)) | exact fun h => and_l (and_l (and_l (and_l h))) | exact fun h => and_l (and_l (and_l (and_l (and_l h))))) : FL P l Q (⟨some d, .assign (.tmp i), ty, p, af, gd⟩ :: rest) a0 L w := fl_assign hn hd hw hli hsi h
theorem g_nc {d n : Nat} {i : Nat} {gi : Bool} {ad : Addr} {ty : TypeId} {p : String} {af : Array Edge} {gd : Option (Nat × Bool)} {g : Bool} (hn : a0.tmps.size = n)  (h : FL P l Q rest a0 ((d, g, (.pointer (some ad))) :: L) w) (hd : Nat.blt d n = true := by rfl) (hw : wtG l L gd = some g := by rfl) (hli : lk L i = some (gi, .pointer (some ad)) := by rfl) (hsi : g = true → gi = true := by first | exact fun _ => rfl | exact id | exact and_l | exact fun h => and_l (and_l h) | exact fun h => and_l (and_l (and_l h)) | exact fun h => and_l (and_l (and_l (and_l h))) | exact fun h => and_l (and_l (and_l (and_l (and_l h))))) : FL P l Q (⟨some d, .nilCheck (.tmp i), ty, p, af, gd⟩ :: rest) a0 L w := fl_nilc hn hd hw hli hsi h
theorem g_nt {d n : Nat} {i : Nat} {ty2 : TypeId} {gi b : Bool} {ty : TypeId} {p : String} {af : Array Edge} {gd : Option (Nat × Bool)} {g : Bool} (hn : a0.tmps.size = n)  (h : FL P l Q rest a0 ((d, g, (.bool !b)) :: L) w) (hd : Nat.blt d n = true := by rfl) (hw : wtG l L gd = some g := by rfl) (hli : lk L i = some (gi, .bool b) := by rfl) (hsi : g = true → gi = true := by first | exact fun _ => rfl | exact id | exact and_l | exact fun h => and_l (and_l h) | exact fun h => and_l (and_l (and_l h)) | exact fun h => and_l (and_l (and_l (and_l h))) | exact fun h => and_l (and_l (and_l (and_l (and_l h))))) : FL P l Q (⟨some d, .unOp .not ty2 (.tmp i), ty, p, af, gd⟩ :: rest) a0 L w := fl_not hn hd hw hli hsi h
theorem g_or {d n : Nat} {i c : Nat} {gi gc b b2 : Bool} {ty : TypeId} {p : String} {af : Array Edge} {gd : Option (Nat × Bool)} {g : Bool} (hn : a0.tmps.size = n)  (h : FL P l Q rest a0 ((d, g, (.bool (b || b2))) :: L) w) (hd : Nat.blt d n = true := by rfl) (hw : wtG l L gd = some g := by rfl) (hlc : lk L c = some (gc, .bool b) := by rfl) (hsc : g = true → gc = true := by first | exact fun _ => rfl | exact id | exact and_l | exact fun h => and_l (and_l h) | exact fun h => and_l (and_l (and_l h)) | exact fun h => and_l (and_l (and_l (and_l h))) | exact fun h => and_l (and_l (and_l (and_l (and_l h))))) (hl2 : lk L i = some (gi, .bool b2) := by rfl) (hs2 : g = true → b = false → gi = true := by (intro h1 h2; first | rfl | (rw [h1, h2]; rfl) | simp_all)) : FL P l Q (⟨some d, .pick (.tmp c) (.const (.bool true)) (.tmp i), ty, p, af, gd⟩ :: rest) a0 L w := fl_or hn hd hw hlc hsc hl2 hs2 h
theorem g_an {d n : Nat} {i c : Nat} {gi gc b b2 : Bool} {ty : TypeId} {p : String} {af : Array Edge} {gd : Option (Nat × Bool)} {g : Bool} (hn : a0.tmps.size = n)  (h : FL P l Q rest a0 ((d, g, (.bool (b && b2))) :: L) w) (hd : Nat.blt d n = true := by rfl) (hw : wtG l L gd = some g := by rfl) (hlc : lk L c = some (gc, .bool b) := by rfl) (hsc : g = true → gc = true := by first | exact fun _ => rfl | exact id | exact and_l | exact fun h => and_l (and_l h) | exact fun h => and_l (and_l (and_l h)) | exact fun h => and_l (and_l (and_l (and_l h))) | exact fun h => and_l (and_l (and_l (and_l (and_l h))))) (hl2 : lk L i = some (gi, .bool b2) := by rfl) (hs2 : g = true → b = true → gi = true := by (intro h1 h2; first | rfl | (rw [h1, h2]; rfl) | simp_all)) : FL P l Q (⟨some d, .pick (.tmp c) (.tmp i) (.const (.bool false)), ty, p, af, gd⟩ :: rest) a0 L w := fl_and hn hd hw hlc hsc hl2 hs2 h
theorem g_fd {d n : Nat} {i f : Nat} {t : TypeId} {gi : Bool} {ad ad2 : Addr} {ty : TypeId} {p : String} {af : Array Edge} {gd : Option (Nat × Bool)} {g : Bool} (hn : a0.tmps.size = n)  (h : FL P l Q rest a0 ((d, g, (.pointer (some ad2))) :: L) w) (hd : Nat.blt d n = true := by rfl) (hw : wtG l L gd = some g := by rfl) (hli : lk L i = some (gi, .pointer (some ad)) := by rfl) (hsi : g = true → gi = true := by first | exact fun _ => rfl | exact id | exact and_l | exact fun h => and_l (and_l h) | exact fun h => and_l (and_l (and_l h)) | exact fun h => and_l (and_l (and_l (and_l h))) | exact fun h => and_l (and_l (and_l (and_l (and_l h))))) (hr : (Instr.fieldAt t (.pointer (some ad)) f).run P w = .ok (.pointer (some ad2)) w := by with_reducible assumption) : FL P l Q (⟨some d, .fieldAddr t (.tmp i) f, ty, p, af, gd⟩ :: rest) a0 L w := fl_field hn hd hw hli hsi hr h
theorem g_ld {d n : Nat} {i : Nat} {t : TypeId} {gi : Bool} {ad : Addr} {v : Value} {ty : TypeId} {p : String} {af : Array Edge} {gd : Option (Nat × Bool)} {g : Bool} (hn : a0.tmps.size = n)  (h : FL P l Q rest a0 ((d, g, v) :: L) w) (hd : Nat.blt d n = true := by rfl) (hw : wtG l L gd = some g := by rfl) (hli : lk L i = some (gi, .pointer (some ad)) := by rfl) (hsi : g = true → gi = true := by first | exact fun _ => rfl | exact id | exact and_l | exact fun h => and_l (and_l h) | exact fun h => and_l (and_l (and_l h)) | exact fun h => and_l (and_l (and_l (and_l h))) | exact fun h => and_l (and_l (and_l (and_l (and_l h))))) (hr : (Instr.loadAt t (.pointer (some ad))).run P w = .ok v w := by with_reducible assumption) : FL P l Q (⟨some d, .load t (.tmp i), ty, p, af, gd⟩ :: rest) a0 L w := fl_load hn hd hw hli hsi hr h
theorem g_b0 {d n : Nat} {t : TypeId} {v : Value} {ty : TypeId} {p : String} {af : Array Edge} {gd : Option (Nat × Bool)} {g : Bool} (hn : a0.tmps.size = n)  (h : FL P l Q rest a0 ((d, g, v) :: L) w) (hd : Nat.blt d n = true := by rfl) (hw : wtG l L gd = some g := by rfl) (hr : (Instr.build t #[]).run P w = .ok v w := by with_reducible assumption) : FL P l Q (⟨some d, .build t #[], ty, p, af, gd⟩ :: rest) a0 L w := fl_build0 hn hd hw hr h
theorem g_bn {d n : Nat} {op : BinOp} {i j : Nat} {t ty2 : TypeId} {gi gj : Bool} {vi vj v : Value} {ty : TypeId} {p : String} {af : Array Edge} {gd : Option (Nat × Bool)} {g : Bool} (hn : a0.tmps.size = n)  (h : FL P l Q rest a0 ((d, g, v) :: L) w) (hd : Nat.blt d n = true := by rfl) (hw : wtG l L gd = some g := by rfl) (hli : lk L i = some (gi, vi) := by rfl) (hsi : g = true → gi = true := by first | exact fun _ => rfl | exact id | exact and_l | exact fun h => and_l (and_l h) | exact fun h => and_l (and_l (and_l h)) | exact fun h => and_l (and_l (and_l (and_l h))) | exact fun h => and_l (and_l (and_l (and_l (and_l h))))) (hlj : lk L j = some (gj, vj) := by rfl) (hsj : g = true → gj = true := by first | exact fun _ => rfl | exact id | exact and_l | exact fun h => and_l (and_l h) | exact fun h => and_l (and_l (and_l h)) | exact fun h => and_l (and_l (and_l (and_l h))) | exact fun h => and_l (and_l (and_l (and_l (and_l h))))) (hr : ((do eqGuard op t (.tmp i) (.tmp j) vi vj; binOp op t vi vj) : Sem Value).run P w = .ok v w := by with_reducible assumption) : FL P l Q (⟨some d, .binOp op t (.tmp i) (.tmp j) ty2, ty, p, af, gd⟩ :: rest) a0 L w := fl_bin hn hd hw hli hsi hlj hsj hr h
theorem g_bc {d n : Nat} {op : BinOp} {i : Nat} {t ty2 : TypeId} {gi : Bool} {vi c v : Value} {ty : TypeId} {p : String} {af : Array Edge} {gd : Option (Nat × Bool)} {g : Bool} (hn : a0.tmps.size = n)  (h : FL P l Q rest a0 ((d, g, v) :: L) w) (hd : Nat.blt d n = true := by rfl) (hw : wtG l L gd = some g := by rfl) (hli : lk L i = some (gi, vi) := by rfl) (hsi : g = true → gi = true := by first | exact fun _ => rfl | exact id | exact and_l | exact fun h => and_l (and_l h) | exact fun h => and_l (and_l (and_l h)) | exact fun h => and_l (and_l (and_l (and_l h))) | exact fun h => and_l (and_l (and_l (and_l (and_l h))))) (hr : ((do eqGuard op t (.tmp i) (.const c) vi c; binOp op t vi c) : Sem Value).run P w = .ok v w := by with_reducible assumption) : FL P l Q (⟨some d, .binOp op t (.tmp i) (.const c) ty2, ty, p, af, gd⟩ :: rest) a0 L w := fl_op hn rfl hd hw (fun hk hg => run_bc (lk_at hk hli hsi hg) hr) h
theorem g_cv {d n : Nat} {i : Nat} {t t2 : TypeId} {gi : Bool} {vi v : Value} {ty : TypeId} {p : String} {af : Array Edge} {gd : Option (Nat × Bool)} {g : Bool} (hn : a0.tmps.size = n)  (h : FL P l Q rest a0 ((d, g, v) :: L) w) (hd : Nat.blt d n = true := by rfl) (hw : wtG l L gd = some g := by rfl) (hli : lk L i = some (gi, vi) := by rfl) (hsi : g = true → gi = true := by first | exact fun _ => rfl | exact id | exact and_l | exact fun h => and_l (and_l h) | exact fun h => and_l (and_l (and_l h)) | exact fun h => and_l (and_l (and_l (and_l h))) | exact fun h => and_l (and_l (and_l (and_l (and_l h))))) (hr : (convert t t2 vi).run P w = .ok v w := by with_reducible assumption) : FL P l Q (⟨some d, .convert t t2 (.tmp i), ty, p, af, gd⟩ :: rest) a0 L w := fl_op hn rfl hd hw (fun hk hg => run_cv (lk_at hk hli hsi hg) hr) h
theorem g_ex {d n : Nat} {i k : Nat} {gi : Bool} {cs : Array Value} {v : Value} {ty : TypeId} {p : String} {af : Array Edge} {gd : Option (Nat × Bool)} {g : Bool} (hn : a0.tmps.size = n)  (h : FL P l Q rest a0 ((d, g, v) :: L) w) (hd : Nat.blt d n = true := by rfl) (hw : wtG l L gd = some g := by rfl) (hli : lk L i = some (gi, .tuple cs) := by rfl) (hsi : g = true → gi = true := by first | exact fun _ => rfl | exact id | exact and_l | exact fun h => and_l (and_l h) | exact fun h => and_l (and_l (and_l h)) | exact fun h => and_l (and_l (and_l (and_l h))) | exact fun h => and_l (and_l (and_l (and_l (and_l h))))) (hr : cs[k]? = some v := by rfl) : FL P l Q (⟨some d, .extract (.tmp i) k, ty, p, af, gd⟩ :: rest) a0 L w := fl_op hn rfl hd hw (fun hk hg => run_ex (lk_at hk hli hsi hg) hr) h
theorem g_ac {d n : Nat} {v : Value} {ty : TypeId} {p : String} {af : Array Edge} {gd : Option (Nat × Bool)} {g : Bool} (hn : a0.tmps.size = n)  (h : FL P l Q rest a0 ((d, g, v) :: L) w) (hd : Nat.blt d n = true := by rfl) (hw : wtG l L gd = some g := by rfl)  : FL P l Q (⟨some d, .assign (.const v), ty, p, af, gd⟩ :: rest) a0 L w := fl_op hn rfl hd hw (fun _ _ => rfl) h
theorem g_mc {d n : Nat} {v : Value} {ty : TypeId} {p : String} {af : Array Edge} {gd : Option (Nat × Bool)} {g : Bool} (hn : a0.tmps.size = n)  (h : FL P l Q rest a0 ((d, g, v) :: L) w) (hd : Nat.blt d n = true := by rfl) (hw : wtG l L gd = some g := by rfl)  : FL P l Q (⟨some d, .move (.const v), ty, p, af, gd⟩ :: rest) a0 L w := fl_op hn rfl hd hw (fun _ _ => rfl) h
theorem g_stc {i b j : Nat} {t ty T : TypeId} {v : Value} {p : String} {af : Array Edge} {gd : Option (Nat × Bool)} {cs : Array Value} (hX : Blk w b cs T) (hr : (Instr.storeAt t (.pointer (some ⟨b, j, none⟩)) v).run P w = .ok () (w.setCell ⟨b, j, none⟩ v)) (h : ∀ w2, Only1 b w w2 → Blk w2 b (cs.setIfInBounds j v) T → FL P l Q rest a0 L w2) (hw : wtG l L gd = some true := by rfl) (hl : lk L i = some (true, .pointer (some ⟨b, j, none⟩)) := by rfl) : FL P l Q (⟨none, .store t (.tmp i) (.const v), ty, p, af, gd⟩ :: rest) a0 L w := fl_stc hw hl hX hr h
theorem g_stt {i k b j : Nat} {g : Bool} {t ty T : TypeId} {v : Value} {p : String} {af : Array Edge} {gd : Option (Nat × Bool)} {cs : Array Value} (hX : Blk w b cs T) (hr : (Instr.storeAt t (.pointer (some ⟨b, j, none⟩)) v).run P w = .ok () (w.setCell ⟨b, j, none⟩ v)) (h : ∀ w2, Only1 b w w2 → Blk w2 b (cs.setIfInBounds j v) T → FL P l Q rest a0 L w2) (hw : wtG l L gd = some true := by rfl) (hl : lk L i = some (true, .pointer (some ⟨b, j, none⟩)) := by rfl) (hl2 : lk L k = some (g, v) := by rfl) (hg : g = true := by rfl) : FL P l Q (⟨none, .store t (.tmp i) (.tmp k), ty, p, af, gd⟩ :: rest) a0 L w := fl_stt hw hl hl2 hg hX hr h
theorem g_stm {i k b j : Nat} {g : Bool} {t ty T : TypeId} {c : Array Value} {p : String} {af : Array Edge} {gd : Option (Nat × Bool)} {cs : Array Value} (hX : Blk w b cs T) (h : ∀ w2, Only1 b w w2 → Blk w2 b (setL cs j c.toList) T → FL P l Q rest a0 L w2) (hw : wtG l L gd = some true := by rfl) (hl : lk L i = some (true, .pointer (some ⟨b, j, none⟩)) := by rfl) (hl2 : lk L k = some (g, .agg c) := by rfl) (hg : g = true := by rfl) (hs : j + c.size ≤ cs.size := by simp) (hi : (P.info? t).map (·.size) = some c.size := by kernel_rfl) (h1 : c.all (·.oneCell') = true := by rfl) : FL P l Q (⟨none, .store t (.tmp i) (.tmp k), ty, p, af, gd⟩ :: rest) a0 L w := fl_stm hw hl hl2 hg hX hs hi h1 h
theorem g_str {i k b : Nat} {g : Bool} {t ty T : TypeId} {c : Array Value} {p : String} {af : Array Edge} {gd : Option (Nat × Bool)} {cs : Array Value} (hX : Blk w b cs T) (h : ∀ w2, Only1 b w w2 → Blk w2 b c T → FL P l Q rest a0 L w2) (hw : wtG l L gd = some true := by rfl) (hl : lk L i = some (true, .pointer (some ⟨b, 0, none⟩)) := by rfl) (hl2 : lk L k = some (g, .agg c) := by rfl) (hg : g = true := by rfl) (hs : cs.size = c.size := by rfl) (hi : (P.info? t).map (·.size) = some c.size := by kernel_rfl) (h1 : c.all (·.oneCell') = true := by rfl) : FL P l Q (⟨none, .store t (.tmp i) (.tmp k), ty, p, af, gd⟩ :: rest) a0 L w := fl_str hw hl hl2 hg hX hs hi h1 h
end
section
variable {l : List Oper} {Q : Exit → Act → World → Prop} {rest : List Oper} {a0 : Act} {L : List (Nat × Bool × Value)} {w : World}
theorem g_neq {d n : Nat} {i : Nat} {m k : Int} {ty2 : TypeId} {gi : Bool} {ty : TypeId} {p : String} {af : Array Edge} {gd : Option (Nat × Bool)} {g : Bool} (hn : a0.tmps.size = n)  (h : FL Tryz.prog l Q rest a0 ((d, g, (.bool (m != k))) :: L) w) (hd : Nat.blt d n = true := by rfl) (hw : wtG l L gd = some g := by rfl) (hli : lk L i = some (gi, .int .i64 m) := by rfl) (hsi : g = true → gi = true := by first | exact fun _ => rfl | exact id | exact and_l | exact fun h => and_l (and_l h) | exact fun h => and_l (and_l (and_l h)) | exact fun h => and_l (and_l (and_l (and_l h))) | exact fun h => and_l (and_l (and_l (and_l (and_l h))))) : FL Tryz.prog l Q (⟨some d, .binOp .neq 3 (.tmp i) (.const (.int .i64 k)) ty2, ty, p, af, gd⟩ :: rest) a0 L w := fl_neq hn hd hw hli hsi h
theorem g_neq2 {d n : Nat} {i j : Nat} {m k : Int} {ty2 : TypeId} {gi gj : Bool} {ty : TypeId} {p : String} {af : Array Edge} {gd : Option (Nat × Bool)} {g : Bool} (hn : a0.tmps.size = n)  (h : FL Tryz.prog l Q rest a0 ((d, g, (.bool (m != k))) :: L) w) (hd : Nat.blt d n = true := by rfl) (hw : wtG l L gd = some g := by rfl) (hli : lk L i = some (gi, .int .i64 m) := by rfl) (hsi : g = true → gi = true := by first | exact fun _ => rfl | exact id | exact and_l | exact fun h => and_l (and_l h) | exact fun h => and_l (and_l (and_l h)) | exact fun h => and_l (and_l (and_l (and_l h))) | exact fun h => and_l (and_l (and_l (and_l (and_l h))))) (hlj : lk L j = some (gj, .int .i64 k) := by rfl) (hsj : g = true → gj = true := by first | exact fun _ => rfl | exact id | exact and_l | exact fun h => and_l (and_l h) | exact fun h => and_l (and_l (and_l h)) | exact fun h => and_l (and_l (and_l (and_l h))) | exact fun h => and_l (and_l (and_l (and_l (and_l h))))) : FL Tryz.prog l Q (⟨some d, .binOp .neq 3 (.tmp i) (.tmp j) ty2, ty, p, af, gd⟩ :: rest) a0 L w := fl_neq2 hn hd hw hli hsi hlj hsj h
theorem g_gtr {d n : Nat} {i : Nat} {m k : Int} {ty2 : TypeId} {gi : Bool} {ty : TypeId} {p : String} {af : Array Edge} {gd : Option (Nat × Bool)} {g : Bool} (hn : a0.tmps.size = n)  (h : FL Tryz.prog l Q rest a0 ((d, g, (.bool (decide (k < m)))) :: L) w) (hd : Nat.blt d n = true := by rfl) (hw : wtG l L gd = some g := by rfl) (hli : lk L i = some (gi, .int .i64 m) := by rfl) (hsi : g = true → gi = true := by first | exact fun _ => rfl | exact id | exact and_l | exact fun h => and_l (and_l h) | exact fun h => and_l (and_l (and_l h)) | exact fun h => and_l (and_l (and_l (and_l h))) | exact fun h => and_l (and_l (and_l (and_l (and_l h))))) : FL Tryz.prog l Q (⟨some d, .binOp .gtr 3 (.tmp i) (.const (.int .i64 k)) ty2, ty, p, af, gd⟩ :: rest) a0 L w := fl_gtr hn hd hw hli hsi h
theorem g_gtr2 {d n : Nat} {i j : Nat} {m k : Int} {ty2 : TypeId} {gi gj : Bool} {ty : TypeId} {p : String} {af : Array Edge} {gd : Option (Nat × Bool)} {g : Bool} (hn : a0.tmps.size = n)  (h : FL Tryz.prog l Q rest a0 ((d, g, (.bool (decide (k < m)))) :: L) w) (hd : Nat.blt d n = true := by rfl) (hw : wtG l L gd = some g := by rfl) (hli : lk L i = some (gi, .int .i64 m) := by rfl) (hsi : g = true → gi = true := by first | exact fun _ => rfl | exact id | exact and_l | exact fun h => and_l (and_l h) | exact fun h => and_l (and_l (and_l h)) | exact fun h => and_l (and_l (and_l (and_l h))) | exact fun h => and_l (and_l (and_l (and_l (and_l h))))) (hlj : lk L j = some (gj, .int .i64 k) := by rfl) (hsj : g = true → gj = true := by first | exact fun _ => rfl | exact id | exact and_l | exact fun h => and_l (and_l h) | exact fun h => and_l (and_l (and_l h)) | exact fun h => and_l (and_l (and_l (and_l h))) | exact fun h => and_l (and_l (and_l (and_l (and_l h))))) : FL Tryz.prog l Q (⟨some d, .binOp .gtr 3 (.tmp i) (.tmp j) ty2, ty, p, af, gd⟩ :: rest) a0 L w := fl_gtr2 hn hd hw hli hsi hlj hsj h
theorem g_eql {d n : Nat} {i : Nat} {m k : Int} {ty2 : TypeId} {gi : Bool} {ty : TypeId} {p : String} {af : Array Edge} {gd : Option (Nat × Bool)} {g : Bool} (hn : a0.tmps.size = n)  (h : FL Tryz.prog l Q rest a0 ((d, g, (.bool (m == k))) :: L) w) (hd : Nat.blt d n = true := by rfl) (hw : wtG l L gd = some g := by rfl) (hli : lk L i = some (gi, .int .i64 m) := by rfl) (hsi : g = true → gi = true := by first | exact fun _ => rfl | exact id | exact and_l | exact fun h => and_l (and_l h) | exact fun h => and_l (and_l (and_l h)) | exact fun h => and_l (and_l (and_l (and_l h))) | exact fun h => and_l (and_l (and_l (and_l (and_l h))))) : FL Tryz.prog l Q (⟨some d, .binOp .eql 3 (.tmp i) (.const (.int .i64 k)) ty2, ty, p, af, gd⟩ :: rest) a0 L w := fl_eql hn hd hw hli hsi h
theorem g_eql2 {d n : Nat} {i j : Nat} {m k : Int} {ty2 : TypeId} {gi gj : Bool} {ty : TypeId} {p : String} {af : Array Edge} {gd : Option (Nat × Bool)} {g : Bool} (hn : a0.tmps.size = n)  (h : FL Tryz.prog l Q rest a0 ((d, g, (.bool (m == k))) :: L) w) (hd : Nat.blt d n = true := by rfl) (hw : wtG l L gd = some g := by rfl) (hli : lk L i = some (gi, .int .i64 m) := by rfl) (hsi : g = true → gi = true := by first | exact fun _ => rfl | exact id | exact and_l | exact fun h => and_l (and_l h) | exact fun h => and_l (and_l (and_l h)) | exact fun h => and_l (and_l (and_l (and_l h))) | exact fun h => and_l (and_l (and_l (and_l (and_l h))))) (hlj : lk L j = some (gj, .int .i64 k) := by rfl) (hsj : g = true → gj = true := by first | exact fun _ => rfl | exact id | exact and_l | exact fun h => and_l (and_l h) | exact fun h => and_l (and_l (and_l h)) | exact fun h => and_l (and_l (and_l (and_l h))) | exact fun h => and_l (and_l (and_l (and_l (and_l h))))) : FL Tryz.prog l Q (⟨some d, .binOp .eql 3 (.tmp i) (.tmp j) ty2, ty, p, af, gd⟩ :: rest) a0 L w := fl_eql2 hn hd hw hli hsi hlj hsj h
theorem g_leq {d n : Nat} {i : Nat} {m k : Int} {ty2 : TypeId} {gi : Bool} {ty : TypeId} {p : String} {af : Array Edge} {gd : Option (Nat × Bool)} {g : Bool} (hn : a0.tmps.size = n)  (h : FL Tryz.prog l Q rest a0 ((d, g, (.bool (decide (m ≤ k)))) :: L) w) (hd : Nat.blt d n = true := by rfl) (hw : wtG l L gd = some g := by rfl) (hli : lk L i = some (gi, .int .i64 m) := by rfl) (hsi : g = true → gi = true := by first | exact fun _ => rfl | exact id | exact and_l | exact fun h => and_l (and_l h) | exact fun h => and_l (and_l (and_l h)) | exact fun h => and_l (and_l (and_l (and_l h))) | exact fun h => and_l (and_l (and_l (and_l (and_l h))))) : FL Tryz.prog l Q (⟨some d, .binOp .leq 3 (.tmp i) (.const (.int .i64 k)) ty2, ty, p, af, gd⟩ :: rest) a0 L w := fl_leq hn hd hw hli hsi h
theorem g_leq2 {d n : Nat} {i j : Nat} {m k : Int} {ty2 : TypeId} {gi gj : Bool} {ty : TypeId} {p : String} {af : Array Edge} {gd : Option (Nat × Bool)} {g : Bool} (hn : a0.tmps.size = n)  (h : FL Tryz.prog l Q rest a0 ((d, g, (.bool (decide (m ≤ k)))) :: L) w) (hd : Nat.blt d n = true := by rfl) (hw : wtG l L gd = some g := by rfl) (hli : lk L i = some (gi, .int .i64 m) := by rfl) (hsi : g = true → gi = true := by first | exact fun _ => rfl | exact id | exact and_l | exact fun h => and_l (and_l h) | exact fun h => and_l (and_l (and_l h)) | exact fun h => and_l (and_l (and_l (and_l h))) | exact fun h => and_l (and_l (and_l (and_l (and_l h))))) (hlj : lk L j = some (gj, .int .i64 k) := by rfl) (hsj : g = true → gj = true := by first | exact fun _ => rfl | exact id | exact and_l | exact fun h => and_l (and_l h) | exact fun h => and_l (and_l (and_l h)) | exact fun h => and_l (and_l (and_l (and_l h))) | exact fun h => and_l (and_l (and_l (and_l (and_l h))))) : FL Tryz.prog l Q (⟨some d, .binOp .leq 3 (.tmp i) (.tmp j) ty2, ty, p, af, gd⟩ :: rest) a0 L w := fl_leq2 hn hd hw hli hsi hlj hsj h
theorem g_lss {d n : Nat} {i : Nat} {m k : Int} {ty2 : TypeId} {gi : Bool} {ty : TypeId} {p : String} {af : Array Edge} {gd : Option (Nat × Bool)} {g : Bool} (hn : a0.tmps.size = n)  (h : FL Tryz.prog l Q rest a0 ((d, g, (.bool (decide (m < k)))) :: L) w) (hd : Nat.blt d n = true := by rfl) (hw : wtG l L gd = some g := by rfl) (hli : lk L i = some (gi, .int .i64 m) := by rfl) (hsi : g = true → gi = true := by first | exact fun _ => rfl | exact id | exact and_l | exact fun h => and_l (and_l h) | exact fun h => and_l (and_l (and_l h)) | exact fun h => and_l (and_l (and_l (and_l h))) | exact fun h => and_l (and_l (and_l (and_l (and_l h))))) : FL Tryz.prog l Q (⟨some d, .binOp .lss 3 (.tmp i) (.const (.int .i64 k)) ty2, ty, p, af, gd⟩ :: rest) a0 L w := fl_lss hn hd hw hli hsi h
theorem g_lss2 {d n : Nat} {i j : Nat} {m k : Int} {ty2 : TypeId} {gi gj : Bool} {ty : TypeId} {p : String} {af : Array Edge} {gd : Option (Nat × Bool)} {g : Bool} (hn : a0.tmps.size = n)  (h : FL Tryz.prog l Q rest a0 ((d, g, (.bool (decide (m < k)))) :: L) w) (hd : Nat.blt d n = true := by rfl) (hw : wtG l L gd = some g := by rfl) (hli : lk L i = some (gi, .int .i64 m) := by rfl) (hsi : g = true → gi = true := by first | exact fun _ => rfl | exact id | exact and_l | exact fun h => and_l (and_l h) | exact fun h => and_l (and_l (and_l h)) | exact fun h => and_l (and_l (and_l (and_l h))) | exact fun h => and_l (and_l (and_l (and_l (and_l h))))) (hlj : lk L j = some (gj, .int .i64 k) := by rfl) (hsj : g = true → gj = true := by first | exact fun _ => rfl | exact id | exact and_l | exact fun h => and_l (and_l h) | exact fun h => and_l (and_l (and_l h)) | exact fun h => and_l (and_l (and_l (and_l h))) | exact fun h => and_l (and_l (and_l (and_l (and_l h))))) : FL Tryz.prog l Q (⟨some d, .binOp .lss 3 (.tmp i) (.tmp j) ty2, ty, p, af, gd⟩ :: rest) a0 L w := fl_lss2 hn hd hw hli hsi hlj hsj h
theorem g_geq {d n : Nat} {i : Nat} {m k : Int} {ty2 : TypeId} {gi : Bool} {ty : TypeId} {p : String} {af : Array Edge} {gd : Option (Nat × Bool)} {g : Bool} (hn : a0.tmps.size = n)  (h : FL Tryz.prog l Q rest a0 ((d, g, (.bool (decide (k ≤ m)))) :: L) w) (hd : Nat.blt d n = true := by rfl) (hw : wtG l L gd = some g := by rfl) (hli : lk L i = some (gi, .int .i64 m) := by rfl) (hsi : g = true → gi = true := by first | exact fun _ => rfl | exact id | exact and_l | exact fun h => and_l (and_l h) | exact fun h => and_l (and_l (and_l h)) | exact fun h => and_l (and_l (and_l (and_l h))) | exact fun h => and_l (and_l (and_l (and_l (and_l h))))) : FL Tryz.prog l Q (⟨some d, .binOp .geq 3 (.tmp i) (.const (.int .i64 k)) ty2, ty, p, af, gd⟩ :: rest) a0 L w := fl_geq hn hd hw hli hsi h
theorem g_geq2 {d n : Nat} {i j : Nat} {m k : Int} {ty2 : TypeId} {gi gj : Bool} {ty : TypeId} {p : String} {af : Array Edge} {gd : Option (Nat × Bool)} {g : Bool} (hn : a0.tmps.size = n)  (h : FL Tryz.prog l Q rest a0 ((d, g, (.bool (decide (k ≤ m)))) :: L) w) (hd : Nat.blt d n = true := by rfl) (hw : wtG l L gd = some g := by rfl) (hli : lk L i = some (gi, .int .i64 m) := by rfl) (hsi : g = true → gi = true := by first | exact fun _ => rfl | exact id | exact and_l | exact fun h => and_l (and_l h) | exact fun h => and_l (and_l (and_l h)) | exact fun h => and_l (and_l (and_l (and_l h))) | exact fun h => and_l (and_l (and_l (and_l (and_l h))))) (hlj : lk L j = some (gj, .int .i64 k) := by rfl) (hsj : g = true → gj = true := by first | exact fun _ => rfl | exact id | exact and_l | exact fun h => and_l (and_l h) | exact fun h => and_l (and_l (and_l h)) | exact fun h => and_l (and_l (and_l (and_l h))) | exact fun h => and_l (and_l (and_l (and_l (and_l h))))) : FL Tryz.prog l Q (⟨some d, .binOp .geq 3 (.tmp i) (.tmp j) ty2, ty, p, af, gd⟩ :: rest) a0 L w := fl_geq2 hn hd hw hli hsi hlj hsj h
theorem g_ln {d n : Nat} {i m c : Nat} {A : Option Addr} {ts : Array TypeId} {gi : Bool} {ty : TypeId} {p : String} {af : Array Edge} {gd : Option (Nat × Bool)} {g : Bool} (hn : a0.tmps.size = n)  (h : FL Tryz.prog l Q rest a0 ((d, g, (.int .i64 m)) :: L) w) (hd : Nat.blt d n = true := by rfl) (hw : wtG l L gd = some g := by rfl) (hli : lk L i = some (gi, .slice A m c) := by rfl) (hsi : g = true → gi = true := by first | exact fun _ => rfl | exact id | exact and_l | exact fun h => and_l (and_l h) | exact fun h => and_l (and_l (and_l h)) | exact fun h => and_l (and_l (and_l (and_l h))) | exact fun h => and_l (and_l (and_l (and_l (and_l h))))) (hr : (Builtin.len_ ts ty #[.slice A m c]).run Tryz.prog w = .ok (.int .i64 m) w := by kernel_rfl) : FL Tryz.prog l Q (⟨some d, .call { callee := .builtin .len, args := #[.tmp i], argTypes := ts }, ty, p, af, gd⟩ :: rest) a0 L w := fl_len hn hd hw hli hsi hr h
theorem g_c1w {f : FuncId} {i0 d n : Nat} {v0 r : Value} {ts : Array TypeId} {ty : TypeId} {p : String} {af : Array Edge} {gd : Option (Nat × Bool)} {g g0 : Bool} (he : ∀ args w, (callFunc f args).run Tryz.prog w = .ok (.enter f args) w) (hn : a0.tmps.size = n) (hc : Calls Tryz.prog f #[v0] w fun e w' => e = .returned r ∧ Below w.heap.size w w') (h : ∀ w2, Below w.heap.size w w2 → FL Tryz.prog l Q rest a0 ((d, g, r) :: L) w2) (hd : Nat.blt d n = true := by rfl) (hw : wtG l L gd = some g := by rfl) (hl0 : lk L i0 = some (g0, v0) := by rfl) (hs0 : g = true → g0 = true := by first | exact fun _ => rfl | exact id | exact and_l | exact fun h => and_l (and_l h) | exact fun h => and_l (and_l (and_l h)) | exact fun h => and_l (and_l (and_l (and_l h))) | exact fun h => and_l (and_l (and_l (and_l (and_l h))))) : FL Tryz.prog l Q (⟨some d, .call { callee := .value (.func f), args := #[.tmp i0], argTypes := ts }, ty, p, af, gd⟩ :: rest) a0 L w :=
  fl_call1w he hn hd hw hl0 hs0 (fun _ => hc) h
theorem g_c1x {f : FuncId} {i0 d n : Nat} {v0 : Value} {R : Value → World → Prop} {ts : Array TypeId} {ty : TypeId} {p : String} {af : Array Edge} {gd : Option (Nat × Bool)} {g0 : Bool} (he : ∀ args w, (callFunc f args).run Tryz.prog w = .ok (.enter f args) w) (hn : a0.tmps.size = n) (hc : Calls Tryz.prog f #[v0] w fun e w' => ∃ v, e = .returned v ∧ R v w') (h : ∀ v w2, R v w2 → FL Tryz.prog l Q rest a0 ((d, true, v) :: L) w2) (hd : Nat.blt d n = true := by rfl) (hw : wtG l L gd = some true := by rfl) (hl0 : lk L i0 = some (g0, v0) := by rfl) (hs0 : g0 = true := by rfl) : FL Tryz.prog l Q (⟨some d, .call { callee := .value (.func f), args := #[.tmp i0], argTypes := ts }, ty, p, af, gd⟩ :: rest) a0 L w :=
  fl_call1x he hn hd hw hl0 hs0 hc h
theorem g_c2w {f : FuncId} {i0 i1 d n : Nat} {v0 v1 r : Value} {ts : Array TypeId} {ty : TypeId} {p : String} {af : Array Edge} {gd : Option (Nat × Bool)} {g g0 g1 : Bool} (he : ∀ args w, (callFunc f args).run Tryz.prog w = .ok (.enter f args) w) (hn : a0.tmps.size = n) (hc : Calls Tryz.prog f #[v0, v1] w fun e w' => e = .returned r ∧ Below w.heap.size w w') (h : ∀ w2, Below w.heap.size w w2 → FL Tryz.prog l Q rest a0 ((d, g, r) :: L) w2) (hd : Nat.blt d n = true := by rfl) (hw : wtG l L gd = some g := by rfl) (hl0 : lk L i0 = some (g0, v0) := by rfl) (hs0 : g = true → g0 = true := by first | exact fun _ => rfl | exact id | exact and_l | exact fun h => and_l (and_l h) | exact fun h => and_l (and_l (and_l h)) | exact fun h => and_l (and_l (and_l (and_l h))) | exact fun h => and_l (and_l (and_l (and_l (and_l h))))) (hl1 : lk L i1 = some (g1, v1) := by rfl) (hs1 : g = true → g1 = true := by first | exact fun _ => rfl | exact id | exact and_l | exact fun h => and_l (and_l h) | exact fun h => and_l (and_l (and_l h)) | exact fun h => and_l (and_l (and_l (and_l h))) | exact fun h => and_l (and_l (and_l (and_l (and_l h))))) : FL Tryz.prog l Q (⟨some d, .call { callee := .value (.func f), args := #[.tmp i0, .tmp i1], argTypes := ts }, ty, p, af, gd⟩ :: rest) a0 L w :=
  fl_call2w he hn hd hw hl0 hs0 hl1 hs1 (fun _ => hc) h
theorem g_c2x {f : FuncId} {i0 i1 d n : Nat} {v0 v1 : Value} {R : Value → World → Prop} {ts : Array TypeId} {ty : TypeId} {p : String} {af : Array Edge} {gd : Option (Nat × Bool)} {g0 g1 : Bool} (he : ∀ args w, (callFunc f args).run Tryz.prog w = .ok (.enter f args) w) (hn : a0.tmps.size = n) (hc : Calls Tryz.prog f #[v0, v1] w fun e w' => ∃ v, e = .returned v ∧ R v w') (h : ∀ v w2, R v w2 → FL Tryz.prog l Q rest a0 ((d, true, v) :: L) w2) (hd : Nat.blt d n = true := by rfl) (hw : wtG l L gd = some true := by rfl) (hl0 : lk L i0 = some (g0, v0) := by rfl) (hs0 : g0 = true := by rfl) (hl1 : lk L i1 = some (g1, v1) := by rfl) (hs1 : g1 = true := by rfl) : FL Tryz.prog l Q (⟨some d, .call { callee := .value (.func f), args := #[.tmp i0, .tmp i1], argTypes := ts }, ty, p, af, gd⟩ :: rest) a0 L w :=
  fl_call2x he hn hd hw hl0 hs0 hl1 hs1 hc h
end
end Go.Proofs.YtpjleeeligahaaaGreatDoor

namespace Go.Proofs.YtpjleeeligahaaaGreatDoor
open Go.RowKit

/-- A letter's cells, with their types. -/
def ltC (x : Lt) (h : Hn) (j : Nat) : Option (TypeId × Value) := match j with
  | 0 => some (3, .int .i64 x.k)
  | 1 => some (3, .int .i64 x.fr)
  | 2 => some (3, .int .i64 x.tt)
  | 3 => some (3, .int .i64 x.li)
  | 4 => some (3, .int .i64 x.tu)
  | 5 => some (3, .int .i64 x.pr)
  | 6 => some (3, .int .i64 x.lo)
  | 7 => some (3, .int .i64 x.fi)
  | 8 => some (3, .int .i64 x.st)
  | 9 => some (3, .int .i64 x.ta)
  | 10 => some (3, .int .i64 x.sr)
  | 11 => some (3, .int .i64 x.en)
  | 12 => some (4, .bool x.sn)
  | 13 => some (53, .slice h.A1 h.n1 h.c1)
  | 14 => some (37, .slice h.A2 h.n2 h.c2)
  | 15 => some (22, .slice h.A3 h.n3 h.c3)
  | 16 => some (54, .slice h.A4 h.n4 h.c4)
  | 17 => some (56, .agg (laI x.a0 x.a1 x.a2 x.a3 x.a4 x.a5 x.a6 x.a7 x.a8 x.a9 x.a10 x.a11))
  | _ => none
section
variable {l : List Oper} {Q : Exit → Act → World → Prop} {rest : List Oper} {a0 : Act} {L : List (Nat × Bool × Value)} {w : World} {b : Nat} {x : Lt} {h : Hn}
theorem lc_at {j : Nat} {t : TypeId} {v : Value} (hX : Blk w b (ltI x h) 58) (hv : ltC x h j = some (t, v)) : (Instr.loadAt t (.pointer (some ⟨b, j, none⟩))).run Tryz.prog w = .ok v w := by
  match j, hv with
  | 0, hv => cases hv; exact lc_l0 hX
  | 1, hv => cases hv; exact lc_l1 hX
  | 2, hv => cases hv; exact lc_l2 hX
  | 3, hv => cases hv; exact lc_l3 hX
  | 4, hv => cases hv; exact lc_l4 hX
  | 5, hv => cases hv; exact lc_l5 hX
  | 6, hv => cases hv; exact lc_l6 hX
  | 7, hv => cases hv; exact lc_l7 hX
  | 8, hv => cases hv; exact lc_l8 hX
  | 9, hv => cases hv; exact lc_l9 hX
  | 10, hv => cases hv; exact lc_l10 hX
  | 11, hv => cases hv; exact lc_l11 hX
  | 12, hv => cases hv; exact lc_l12 hX
  | 13, hv => cases hv; exact lc_l13 hX
  | 14, hv => cases hv; exact lc_l14 hX
  | 15, hv => cases hv; exact lc_l15 hX
  | 16, hv => cases hv; exact lc_l16 hX
  | 17, hv => cases hv; exact lc_l17 hX
theorem lc_ad {f : Nat} (hf : Nat.blt f 18 = true) : (Instr.fieldAt 58 (.pointer (some ⟨b, 0, none⟩)) f).run Tryz.prog w = .ok (.pointer (some ⟨b, f, none⟩)) w := by
  match f, hf with
  | 0, _ => exact lc_a0 w b
  | 1, _ => exact lc_a1 w b
  | 2, _ => exact lc_a2 w b
  | 3, _ => exact lc_a3 w b
  | 4, _ => exact lc_a4 w b
  | 5, _ => exact lc_a5 w b
  | 6, _ => exact lc_a6 w b
  | 7, _ => exact lc_a7 w b
  | 8, _ => exact lc_a8 w b
  | 9, _ => exact lc_a9 w b
  | 10, _ => exact lc_a10 w b
  | 11, _ => exact lc_a11 w b
  | 12, _ => exact lc_a12 w b
  | 13, _ => exact lc_a13 w b
  | 14, _ => exact lc_a14 w b
  | 15, _ => exact lc_a15 w b
  | 16, _ => exact lc_a16 w b
  | 17, _ => exact lc_a17 w b
theorem g_fdL {i f d n : Nat} {ty : TypeId} {p : String} {af : Array Edge} {gd : Option (Nat × Bool)} {g gi : Bool} (hn : a0.tmps.size = n) (k : FL Tryz.prog l Q rest a0 ((d, g, (.pointer (some ⟨b, f, none⟩))) :: L) w) (hd : Nat.blt d n = true := by rfl) (hw : wtG l L gd = some g := by rfl) (hl : lk L i = some (gi, .pointer (some ⟨b, 0, none⟩)) := by rfl) (hs : g = true → gi = true := by first | exact fun _ => rfl | exact id | exact and_l | exact fun h => and_l (and_l h) | exact fun h => and_l (and_l (and_l h)) | exact fun h => and_l (and_l (and_l (and_l h))) | exact fun h => and_l (and_l (and_l (and_l (and_l h))))) (hf : Nat.blt f 18 = true := by rfl) : FL Tryz.prog l Q (⟨some d, .fieldAddr 58 (.tmp i) f, ty, p, af, gd⟩ :: rest) a0 L w := fl_field hn hd hw hl hs (lc_ad hf) k
theorem g_ldL {i j d n : Nat} {t ty : TypeId} {p : String} {af : Array Edge} {gd : Option (Nat × Bool)} {g gi : Bool} {v : Value} (hn : a0.tmps.size = n) (hX : Blk w b (ltI x h) 58) (k : FL Tryz.prog l Q rest a0 ((d, g, v) :: L) w) (hd : Nat.blt d n = true := by rfl) (hw : wtG l L gd = some g := by rfl) (hl : lk L i = some (gi, .pointer (some ⟨b, j, none⟩)) := by rfl) (hs : g = true → gi = true := by first | exact fun _ => rfl | exact id | exact and_l | exact fun h => and_l (and_l h) | exact fun h => and_l (and_l (and_l h)) | exact fun h => and_l (and_l (and_l (and_l h))) | exact fun h => and_l (and_l (and_l (and_l (and_l h))))) (hv : ltC x h j = some (t, v) := by rfl) : FL Tryz.prog l Q (⟨some d, .load t (.tmp i), ty, p, af, gd⟩ :: rest) a0 L w := fl_load hn hd hw hl hs (lc_at hX hv) k
theorem g_ldA {i d n : Nat} {ty : TypeId} {p : String} {af : Array Edge} {gd : Option (Nat × Bool)} {g gi : Bool} (hn : a0.tmps.size = n) (hX : Blk w b (ltI x h) 58) (k : FL Tryz.prog l Q rest a0 ((d, g, .agg (ltI x h)) :: L) w) (hd : Nat.blt d n = true := by rfl) (hw : wtG l L gd = some g := by rfl) (hl : lk L i = some (gi, .pointer (some ⟨b, 0, none⟩)) := by rfl) (hs : g = true → gi = true := by first | exact fun _ => rfl | exact id | exact and_l | exact fun h => and_l (and_l h) | exact fun h => and_l (and_l (and_l h)) | exact fun h => and_l (and_l (and_l (and_l h))) | exact fun h => and_l (and_l (and_l (and_l (and_l h))))) : FL Tryz.prog l Q (⟨some d, .load 58 (.tmp i), ty, p, af, gd⟩ :: rest) a0 L w := fl_load hn hd hw hl hs (lc_all hX) k
end
end Go.Proofs.YtpjleeeligahaaaGreatDoor
