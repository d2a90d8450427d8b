/-
  WHAT IS PROVED: more laws for chains of guarded operations (XFast): calls that keep what lay there, assignments, comparisons. Over this program
-/
import Derived.Test.YtkfhkfddhijkcaaFast
namespace Go.Proofs.Ytkfhkfddhijkcaa
open Go.RowKit

section
variable {P : Program} {l : List Oper} {Q : Exit → Act → World → Prop} {rest : List Oper} {a0 : Act} {L : List (Nat × Bool × Value)} {w : World}
theorem fl_callw {o : Oper} {d n : Nat} {g : Bool} {v : Value} {f : FuncId} {args : Array Value} (hn : a0.tmps.size = n) (ho : o.dst = some d) (hd : Nat.blt d n = true) (hw : wtG l L o.guard = some g)
    (hr : (∀ p, p ∈ L → p.1 < a0.tmps.size) → g = true → (execOp (fr a0 L).eval o).run P w = .ok (.enter f args) w) (hc : g = true → Calls P f args w fun e w' => e = .returned v ∧ Below w.heap.size w w') (h : ∀ w2, Below w.heap.size w w2 → FL P l Q rest a0 ((d, g, v) :: L) w2) : FL P l Q (o :: rest) a0 L w := by
  refine ⟨fun hk => ?_⟩
  have h2 : ∀ w2, Below w.heap.size w w2 → wpList P l.toArray Q rest ((fr a0 L).put (some d) (cnd g v)) w2 := fun w2 hb => (h w2 hb).go (fun p hp => by
    rcases List.mem_cons.1 hp with e | e
    · rw [e, hn]; exact blt_lt hd
    · exact hk p e)
  refine wpList_step fun K hK => ?_
  rw [wt_is hk hw]
  cases g with
  | false => exact hK _ _ (by rw [ho]; exact h2 w (Below.refl _ _))
  | true =>
    show o.wp P (fr a0 L) w K Q
    unfold Oper.wp
    rw [hr hk rfl, Oper.upon_enter]
    refine (hc rfl).mono ?_
    rintro e w' ⟨rfl, hb⟩
    exact hK _ _ (by rw [ho]; exact h2 w' hb)
theorem fl_callx {o : Oper} {d n : Nat} {f : FuncId} {args : Array Value} {R : Value → World → Prop} (hn : a0.tmps.size = n) (ho : o.dst = some d) (hd : Nat.blt d n = true) (hw : wtG l L o.guard = some true)
    (hr : (∀ p, p ∈ L → p.1 < a0.tmps.size) → (execOp (fr a0 L).eval o).run P w = .ok (.enter f args) w) (hc : Calls P f args w fun e w' => ∃ v, e = .returned v ∧ R v w') (h : ∀ v w2, R v w2 → FL P l Q rest a0 ((d, true, v) :: L) w2) : FL P l Q (o :: rest) a0 L w := by
  refine ⟨fun hk => ?_⟩
  refine wpList_step fun K hK => ?_
  rw [wt_is hk hw]
  show o.wp P (fr a0 L) w K Q
  unfold Oper.wp
  rw [hr hk, Oper.upon_enter]
  refine hc.mono ?_
  rintro e w' ⟨v, rfl, hR⟩
  have h2 : wpList P l.toArray Q rest ((fr a0 L).put (some d) (cnd true v)) w' := (h v w' hR).go (fun p hp => by
    rcases List.mem_cons.1 hp with e | e
    · rw [e, hn]; exact blt_lt hd
    · exact hk p e)
  exact hK _ _ (by rw [ho]; exact h2)
theorem fl_opw {o : Oper} {d n : Nat} {v : Value} {w2 : World} (hn : a0.tmps.size = n) (ho : o.dst = some d) (hd : Nat.blt d n = true) (hw : wtG l L o.guard = some true)
    (hr : (∀ p, p ∈ L → p.1 < a0.tmps.size) → (execOp (fr a0 L).eval o).run P w = .ok (.value v) w2) (h : FL P l Q rest a0 ((d, true, v) :: L) w2) : FL P l Q (o :: rest) a0 L w := by
  refine ⟨fun hk => ?_⟩
  have h2 : wpList P l.toArray Q rest ((fr a0 L).put (some d) (cnd true v)) w2 := h.go (fun p hp => by
    rcases List.mem_cons.1 hp with e | e
    · rw [e, hn]; exact blt_lt hd
    · exact hk p e)
  refine wpList_step fun K hK => ?_
  rw [wt_is hk hw]
  show o.wp P (fr a0 L) w K Q
  unfold Oper.wp
  rw [hr hk]
  exact hK _ _ (by rw [ho]; exact h2)
theorem fl_assign {i d n : Nat} {ty : TypeId} {p : String} {af : Array Edge} {gd : Option (Nat × Bool)} {g gi : Bool} {v : Value} (hn : a0.tmps.size = n) (hd : Nat.blt d n = true) (hw : wtG l L gd = some g) (hl : lk L i = some (gi, v)) (hs : g = true → gi = true)
    (h : FL P l Q rest a0 ((d, g, v) :: L) w) : FL P l Q (⟨some d, .assign (.tmp i), ty, p, af, gd⟩ :: rest) a0 L w :=
  fl_op hn rfl hd hw (fun hk hg => by show Result.ok (Next.value ((fr a0 L).eval (.tmp i))) w = _; rw [lk_at hk hl hs hg]) h
theorem fl_nilc {i d n : Nat} {ty : TypeId} {p : String} {af : Array Edge} {gd : Option (Nat × Bool)} {g gi : Bool} {ad : Addr} (hn : a0.tmps.size = n) (hd : Nat.blt d n = true) (hw : wtG l L gd = some g) (hl : lk L i = some (gi, (.pointer (some ad)))) (hs : g = true → gi = true)
    (h : FL P l Q rest a0 ((d, g, (.pointer (some ad))) :: L) w) : FL P l Q (⟨some d, .nilCheck (.tmp i), ty, p, af, gd⟩ :: rest) a0 L w :=
  fl_op hn rfl hd hw (fun hk hg => by
    have e := lk_at hk hl hs hg
    unfold execOp
    dsimp only
    rw [e]
    rfl) h
end
section
variable {l : List Oper} {Q : Exit → Act → World → Prop} {rest : List Oper} {a0 : Act} {L : List (Nat × Bool × Value)} {w : World}
theorem bin_lss (d : Option Tmp) (x y : Operand) (ty ty2 : TypeId) (p : String) (af : Array Edge) (gd : Option (Nat × Bool)) (ρ : Operand → Value) (m k : Int) (h1 : ρ x = .int .i64 m) (h2 : ρ y = .int .i64 k) : (execOp ρ ⟨d, .binOp .lss 3 x y ty2, ty, p, af, gd⟩).run Try.prog w = .ok (.value (.bool (decide (m < k)))) w := by
  unfold execOp
  dsimp only
  rw [h1, h2]
  go_simp
theorem fl_lss {i d n : Nat} {m k : Int} {ty ty2 : TypeId} {p : String} {af : Array Edge} {gd : Option (Nat × Bool)} {g gi : Bool} (hn : a0.tmps.size = n) (hd : Nat.blt d n = true) (hw : wtG l L gd = some g) (hl : lk L i = some (gi, (.int .i64 m))) (hs : g = true → gi = true)
    (h : FL Try.prog l Q rest a0 ((d, g, (.bool (decide (m < k)))) :: L) w) : FL Try.prog l Q (⟨some d, .binOp .lss 3 (.tmp i) (.const (.int .i64 k)) ty2, ty, p, af, gd⟩ :: rest) a0 L w :=
  fl_op hn rfl hd hw (fun hk hg => bin_lss _ _ _ _ _ _ _ _ _ m k (lk_at hk hl hs hg) rfl) h
theorem fl_lss2 {i j d n : Nat} {m k : Int} {ty ty2 : TypeId} {p : String} {af : Array Edge} {gd : Option (Nat × Bool)} {g gi gj : Bool} (hn : a0.tmps.size = n) (hd : Nat.blt d n = true) (hw : wtG l L gd = some g) (hl : lk L i = some (gi, (.int .i64 m))) (hs : g = true → gi = true) (hl2 : lk L j = some (gj, (.int .i64 k))) (hs2 : g = true → gj = true)
    (h : FL Try.prog l Q rest a0 ((d, g, (.bool (decide (m < k)))) :: L) w) : FL Try.prog l Q (⟨some d, .binOp .lss 3 (.tmp i) (.tmp j) ty2, ty, p, af, gd⟩ :: rest) a0 L w :=
  fl_op hn rfl hd hw (fun hk hg => bin_lss _ _ _ _ _ _ _ _ _ m k (lk_at hk hl hs hg) (lk_at hk hl2 hs2 hg)) h
theorem bin_geq (d : Option Tmp) (x y : Operand) (ty ty2 : TypeId) (p : String) (af : Array Edge) (gd : Option (Nat × Bool)) (ρ : Operand → Value) (m k : Int) (h1 : ρ x = .int .i64 m) (h2 : ρ y = .int .i64 k) : (execOp ρ ⟨d, .binOp .geq 3 x y ty2, ty, p, af, gd⟩).run Try.prog w = .ok (.value (.bool (decide (k ≤ m)))) w := by
  unfold execOp
  dsimp only
  rw [h1, h2]
  go_simp
theorem fl_geq {i d n : Nat} {m k : Int} {ty ty2 : TypeId} {p : String} {af : Array Edge} {gd : Option (Nat × Bool)} {g gi : Bool} (hn : a0.tmps.size = n) (hd : Nat.blt d n = true) (hw : wtG l L gd = some g) (hl : lk L i = some (gi, (.int .i64 m))) (hs : g = true → gi = true)
    (h : FL Try.prog l Q rest a0 ((d, g, (.bool (decide (k ≤ m)))) :: L) w) : FL Try.prog l Q (⟨some d, .binOp .geq 3 (.tmp i) (.const (.int .i64 k)) ty2, ty, p, af, gd⟩ :: rest) a0 L w :=
  fl_op hn rfl hd hw (fun hk hg => bin_geq _ _ _ _ _ _ _ _ _ m k (lk_at hk hl hs hg) rfl) h
theorem fl_geq2 {i j d n : Nat} {m k : Int} {ty ty2 : TypeId} {p : String} {af : Array Edge} {gd : Option (Nat × Bool)} {g gi gj : Bool} (hn : a0.tmps.size = n) (hd : Nat.blt d n = true) (hw : wtG l L gd = some g) (hl : lk L i = some (gi, (.int .i64 m))) (hs : g = true → gi = true) (hl2 : lk L j = some (gj, (.int .i64 k))) (hs2 : g = true → gj = true)
    (h : FL Try.prog l Q rest a0 ((d, g, (.bool (decide (k ≤ m)))) :: L) w) : FL Try.prog l Q (⟨some d, .binOp .geq 3 (.tmp i) (.tmp j) ty2, ty, p, af, gd⟩ :: rest) a0 L w :=
  fl_op hn rfl hd hw (fun hk hg => bin_geq _ _ _ _ _ _ _ _ _ m k (lk_at hk hl hs hg) (lk_at hk hl2 hs2 hg)) h
theorem call1_is {f : FuncId} (he : ∀ args w, (callFunc f args).run Try.prog w = .ok (.enter f args) w) (d : Option Tmp) (x0 : Operand) (ts : Array TypeId) (ty : TypeId) (p : String) (af : Array Edge) (gd : Option (Nat × Bool)) (ρ : Operand → Value) (v0 : Value) (h0 : ρ x0 = v0) (hf : ρ (.func f) = .func (.func f) #[] #[]) : (execOp ρ ⟨d, .call { callee := .value (.func f), args := #[x0], argTypes := ts }, ty, p, af, gd⟩).run Try.prog w = .ok (.enter f #[v0]) w := by
  unfold execOp
  dsimp only
  go_simp
theorem call2_is {f : FuncId} (he : ∀ args w, (callFunc f args).run Try.prog w = .ok (.enter f args) w) (d : Option Tmp) (x0 x1 : Operand) (ts : Array TypeId) (ty : TypeId) (p : String) (af : Array Edge) (gd : Option (Nat × Bool)) (ρ : Operand → Value) (v0 v1 : Value) (h0 : ρ x0 = v0) (h1 : ρ x1 = v1) (hf : ρ (.func f) = .func (.func f) #[] #[]) : (execOp ρ ⟨d, .call { callee := .value (.func f), args := #[x0, x1], argTypes := ts }, ty, p, af, gd⟩).run Try.prog w = .ok (.enter f #[v0, v1]) w := by
  unfold execOp
  dsimp only
  go_simp
theorem fl_call1w {f : FuncId} {i0 d n : Nat} {v0 r : Value} {ts : Array TypeId} {ty : TypeId} {p : String} {af : Array Edge} {gd : Option (Nat × Bool)} {g g0 : Bool} (he : ∀ args w, (callFunc f args).run Try.prog w = .ok (.enter f args) w) (hn : a0.tmps.size = n) (hd : Nat.blt d n = true) (hw : wtG l L gd = some g) (hl0 : lk L i0 = some (g0, v0)) (hs0 : g = true → g0 = true)
    (hc : g = true → Calls Try.prog f #[v0] w fun e w' => e = .returned r ∧ Below w.heap.size w w') (h : ∀ w2, Below w.heap.size w w2 → FL Try.prog l Q rest a0 ((d, g, r) :: L) w2) : FL Try.prog l Q (⟨some d, .call { callee := .value (.func f), args := #[.tmp i0], argTypes := ts }, ty, p, af, gd⟩ :: rest) a0 L w :=
  fl_callw hn rfl hd hw (fun hk hg => call1_is he _ _ _ _ _ _ _ _ v0 (lk_at hk hl0 hs0 hg) rfl) hc h
theorem fl_call1x {f : FuncId} {i0 d n : Nat} {v0 : Value} {R : Value → World → Prop} {ts : Array TypeId} {ty : TypeId} {p : String} {af : Array Edge} {gd : Option (Nat × Bool)} {g0 : Bool} (he : ∀ args w, (callFunc f args).run Try.prog w = .ok (.enter f args) w) (hn : a0.tmps.size = n) (hd : Nat.blt d n = true) (hw : wtG l L gd = some true) (hl0 : lk L i0 = some (g0, v0)) (hs0 : g0 = true)
    (hc : Calls Try.prog f #[v0] w fun e w' => ∃ v, e = .returned v ∧ R v w') (h : ∀ v w2, R v w2 → FL Try.prog l Q rest a0 ((d, true, v) :: L) w2) : FL Try.prog l Q (⟨some d, .call { callee := .value (.func f), args := #[.tmp i0], argTypes := ts }, ty, p, af, gd⟩ :: rest) a0 L w :=
  fl_callx hn rfl hd hw (fun hk => call1_is he _ _ _ _ _ _ _ _ v0 (lk_at hk hl0 (fun _ => hs0) rfl) rfl) hc h
theorem fl_call2w {f : FuncId} {i0 i1 d n : Nat} {v0 v1 r : Value} {ts : Array TypeId} {ty : TypeId} {p : String} {af : Array Edge} {gd : Option (Nat × Bool)} {g g0 g1 : Bool} (he : ∀ args w, (callFunc f args).run Try.prog w = .ok (.enter f args) w) (hn : a0.tmps.size = n) (hd : Nat.blt d n = true) (hw : wtG l L gd = some g) (hl0 : lk L i0 = some (g0, v0)) (hs0 : g = true → g0 = true) (hl1 : lk L i1 = some (g1, v1)) (hs1 : g = true → g1 = true)
    (hc : g = true → Calls Try.prog f #[v0, v1] w fun e w' => e = .returned r ∧ Below w.heap.size w w') (h : ∀ w2, Below w.heap.size w w2 → FL Try.prog l Q rest a0 ((d, g, r) :: L) w2) : FL Try.prog l Q (⟨some d, .call { callee := .value (.func f), args := #[.tmp i0, .tmp i1], argTypes := ts }, ty, p, af, gd⟩ :: rest) a0 L w :=
  fl_callw hn rfl hd hw (fun hk hg => call2_is he _ _ _ _ _ _ _ _ _ v0 v1 (lk_at hk hl0 hs0 hg) (lk_at hk hl1 hs1 hg) rfl) hc h
theorem fl_call2x {f : FuncId} {i0 i1 d n : Nat} {v0 v1 : Value} {R : Value → World → Prop} {ts : Array TypeId} {ty : TypeId} {p : String} {af : Array Edge} {gd : Option (Nat × Bool)} {g0 g1 : Bool} (he : ∀ args w, (callFunc f args).run Try.prog w = .ok (.enter f args) w) (hn : a0.tmps.size = n) (hd : Nat.blt d n = true) (hw : wtG l L gd = some true) (hl0 : lk L i0 = some (g0, v0)) (hs0 : g0 = true) (hl1 : lk L i1 = some (g1, v1)) (hs1 : g1 = true)
    (hc : Calls Try.prog f #[v0, v1] w fun e w' => ∃ v, e = .returned v ∧ R v w') (h : ∀ v w2, R v w2 → FL Try.prog l Q rest a0 ((d, true, v) :: L) w2) : FL Try.prog l Q (⟨some d, .call { callee := .value (.func f), args := #[.tmp i0, .tmp i1], argTypes := ts }, ty, p, af, gd⟩ :: rest) a0 L w :=
  fl_callx hn rfl hd hw (fun hk => call2_is he _ _ _ _ _ _ _ _ _ v0 v1 (lk_at hk hl0 (fun _ => hs0) rfl) (lk_at hk hl1 (fun _ => hs1) rfl) rfl) hc h
end
end Go.Proofs.Ytkfhkfddhijkcaa
