/-
  WHAT IS PROVED: words for a region that is one chain of guarded operations which only read: its frame as a list of what was written, each slot's value under the guard that it has; one law an operation. Over any program of these types. · more laws for chains of guarded operations (XFast): calls that keep what lay there, assignments, comparisons. Over this program · plain words for a world in which one block alone has turned. No program is spoken of. · stores in chains of operations (XFast): a cell, several cells, a whole block. Over this program
-/
import Derived.Test.YtjbmhbnlanbbkaaDoorGQ0
import Derived.Deep.MidRow
namespace Go.Proofs.YtjbmhbnlanbbkaaDoor
open Go.RowKit

theorem blt_lt {a b : Nat} (h : Nat.blt a b = true) : a < b := by rw [← Nat.blt_eq]; exact h
/-- A slot's value under its guard. -/
def cnd (g : Bool) (v : Value) : Value := bif g then v else undef
/-- A frame with slots written, the last one first: the slot, the guard, the value. -/
def fr (a0 : Act) : List (Nat × Bool × Value) → Act
  | [] => a0
  | p :: L => (fr a0 L).put (some p.1) (cnd p.2.1 p.2.2)
/-- What was written into a slot. -/
def lk : List (Nat × Bool × Value) → Nat → Option (Bool × Value)
  | [], _ => none
  | p :: L, i => bif Nat.beq p.1 i then some p.2 else lk L i
theorem fr_size (a0 : Act) : ∀ L, (fr a0 L).tmps.size = a0.tmps.size
  | [] => rfl
  | p :: L => by
    show ((fr a0 L).tmps.setIfInBounds p.1 (cnd p.2.1 p.2.2)).size = _
    rw [Array.size_setIfInBounds, fr_size a0 L]
theorem ev_fr {a0 : Act} {i : Nat} {g : Bool} {v : Value} : ∀ {L : List (Nat × Bool × Value)}, (∀ p, p ∈ L → p.1 < a0.tmps.size) → lk L i = some (g, v) → (fr a0 L).eval (.tmp i) = cnd g v
  | [], _, h => by cases h
  | p :: L, h, hl => by
    have h1 := h p (List.mem_cons_self ..)
    show ((fr a0 L).tmps.setIfInBounds p.1 (cnd p.2.1 p.2.2)).getD i undef = _
    have hs := fr_size a0 L
    have hl' : (bif Nat.beq p.1 i then some p.2 else lk L i) = some (g, v) := hl
    by_cases e : p.1 = i
    · subst e
      rw [Nat.beq_refl, cond_true] at hl'
      have hp : p.2 = (g, v) := Option.some.inj hl'
      rw [hp, Array.getD_eq_getD_getElem?, Array.getElem?_setIfInBounds_self_of_lt (by omega)]
      rfl
    · have e2 : Nat.beq p.1 i = false := by
        cases hb : Nat.beq p.1 i with
        | false => rfl
        | true => exact absurd (Nat.eq_of_beq_eq_true hb) e
      rw [e2, cond_false] at hl'
      rw [Array.getD_eq_getD_getElem?, Array.getElem?_setIfInBounds_ne e, ← Array.getD_eq_getD_getElem?]
      exact ev_fr (fun q hq => h q (List.mem_cons_of_mem _ hq)) hl'
theorem lk_at {a0 : Act} {L : List (Nat × Bool × Value)} {i : Nat} {g gi : Bool} {v : Value} (hk : ∀ p, p ∈ L → p.1 < a0.tmps.size) (hl : lk L i = some (gi, v)) (hs : g = true → gi = true) (hg : g = true) : (fr a0 L).eval (.tmp i) = v := by
  rw [ev_fr hk hl, hs hg]
  rfl
def nthO : List Oper → Nat → Option Oper
  | [], _ => none
  | o :: _, 0 => some o
  | _ :: t, j + 1 => nthO t j
theorem nthO_is : ∀ (l : List Oper) (j : Nat), l[j]? = nthO l j
  | [], j => by simp [nthO]
  | o :: t, 0 => by simp [nthO]
  | o :: t, j + 1 => by rw [List.getElem?_cons_succ, nthO_is t j]; rfl
/-- The guard of an operation that stands under another one's result. -/
def gdOf (want : Bool) : Option (Bool × Value) → Option Bool
  | some (g0, .bool b) => some (bif want then g0 && b else g0 && !b)
  | _ => none
def gdAt (L : List (Nat × Bool × Value)) (want : Bool) : Option Nat → Option Bool
  | some d => gdOf want (lk L d)
  | none => none
/-- When is an operation wanted? -/
def wtG (l : List Oper) (L : List (Nat × Bool × Value)) : Option (Nat × Bool) → Option Bool
  | none => some true
  | some (j, want) => gdAt L want ((nthO l j).bind (·.dst))
theorem lk_mem : ∀ {L : List (Nat × Bool × Value)} {d : Nat} {q : Bool × Value}, lk L d = some q → ∃ p, p ∈ L ∧ p.1 = d
  | [], _, _, h => by cases h
  | p :: L, d, q, h => by
    by_cases e : p.1 = d
    · exact ⟨p, List.mem_cons_self .., e⟩
    · have e2 : Nat.beq p.1 d = false := by
        cases hb : Nat.beq p.1 d with
        | false => rfl
        | true => exact absurd (Nat.eq_of_beq_eq_true hb) e
      have h' : (bif Nat.beq p.1 d then some p.2 else lk L d) = some q := h
      rw [e2, cond_false] at h'
      obtain ⟨p', h1, h2⟩ := lk_mem h'
      exact ⟨p', List.mem_cons_of_mem _ h1, h2⟩
theorem wt_is {l : List Oper} {a0 : Act} {L : List (Nat × Bool × Value)} {o : Oper} {g : Bool} (hk : ∀ p, p ∈ L → p.1 < a0.tmps.size) (h : wtG l L o.guard = some g) : Region.wanted o (yielded l.toArray (fr a0 L).tmps) = g := by
  unfold Region.wanted
  cases hg : o.guard with
  | none => rw [hg] at h; exact Option.some.inj h
  | some q =>
    obtain ⟨j, want⟩ := q
    rw [hg] at h
    have h0 : gdAt L want ((nthO l j).bind (·.dst)) = some g := h
    cases hd : (nthO l j).bind (·.dst) with
    | none => rw [hd] at h0; cases h0
    | some d =>
      rw [hd] at h0
      have h1 : gdOf want (lk L d) = some g := h0
      cases hl : lk L d with
      | none => rw [hl] at h1; cases h1
      | some q =>
        obtain ⟨g0, v⟩ := q
        rw [hl] at h1
        cases v with
        | bool b =>
          have h2 : (bif want then g0 && b else g0 && !b) = g := Option.some.inj h1
          obtain ⟨p, hp, hpd⟩ := lk_mem hl
          have h5 : d < (fr a0 L).tmps.size := by rw [fr_size, ← hpd]; exact hk p hp
          have hv : (fr a0 L).tmps[d]? = some (cnd g0 (.bool b)) := by
            have h4 : (fr a0 L).tmps.getD d undef = cnd g0 (.bool b) := ev_fr hk hl
            rw [Array.getElem?_eq_getElem h5]
            rw [Array.getD_eq_getD_getElem?, Array.getElem?_eq_getElem h5] at h4
            exact congrArg some h4
          show (yielded l.toArray (fr a0 L).tmps j == some want) = _
          unfold yielded
          rw [List.getElem?_toArray, nthO_is, hd]
          show ((match (fr a0 L).tmps[d]? with | some (.bool b) => some b | _ => none) == some want) = _
          rw [hv, ← h2]
          cases g0
          · cases want <;> rfl
          · cases b <;> cases want <;> rfl
        | _ => cases h1
section
variable {P : Program} {l : List Oper} {Q : Exit → Act → World → Prop} {rest : List Oper} {a0 : Act} {L : List (Nat × Bool × Value)} {w : World}
/-- The operations that are left, over a frame so written. -/
structure FL (P : Program) (l : List Oper) (Q : Exit → Act → World → Prop) (rest : List Oper) (a0 : Act) (L : List (Nat × Bool × Value)) (w : World) : Prop where
  go : (∀ p, p ∈ L → p.1 < a0.tmps.size) → wpList P l.toArray Q rest (fr a0 L) w
theorem fl_start (h : FL P l Q rest a0 [] w) : wpList P l.toArray Q rest a0 w := h.go fun p hp => by cases hp
theorem fl_know {i n : Nat} {v : Value} (hn : a0.tmps.size = n) (hi : Nat.blt i n = true) (hv : (fr a0 L).eval (.tmp i) = v) (h : FL P l Q rest a0 ((i, true, v) :: L) w) : FL P l Q rest a0 L w := by
  refine ⟨fun hk => ?_⟩
  have hi' : i < a0.tmps.size := by rw [hn]; exact blt_lt hi
  have h2 := h.go (fun p hp => by
    rcases List.mem_cons.1 hp with e | e
    · rw [e]; exact hi'
    · exact hk p e)
  have e : fr a0 ((i, true, v) :: L) = fr a0 L := by
    show (fr a0 L).put (some i) v = fr a0 L
    have h5 : i < (fr a0 L).tmps.size := by rw [fr_size]; exact hi'
    have h4 : (fr a0 L).tmps.getD i undef = v := hv
    rw [Array.getD_eq_getD_getElem?, Array.getElem?_eq_getElem h5] at h4
    have h6 : (fr a0 L).tmps.setIfInBounds i v = (fr a0 L).tmps := by
      apply Array.ext (by simp)
      intro j h1 h2
      by_cases e : i = j
      · subst e
        rw [Array.getElem_setIfInBounds_self]
        exact h4.symm
      · rw [Array.getElem_setIfInBounds_ne _ e]
    show ({ fr a0 L with tmps := (fr a0 L).tmps.setIfInBounds i v } : Act) = fr a0 L
    rw [h6]
  rw [e] at h2
  exact h2
theorem fl_end (h : Q .normal (fr a0 L) w) : FL P l Q [] a0 L w := ⟨fun _ => h⟩
theorem fl_endb {d : Nat} {g b c : Bool} (e : b = c) (h : Q .normal (fr a0 ((d, g, .bool c) :: L)) w) : FL P l Q [] a0 ((d, g, .bool b) :: L) w := by
  subst e
  exact ⟨fun _ => h⟩
theorem fl_op {o : Oper} {d n : Nat} {g : Bool} {v : Value} (hn : a0.tmps.size = n) (ho : o.dst = some d) (hd : Nat.blt d n = true) (hw : wtG l L o.guard = some g)
    (hr : (∀ p, p ∈ L → p.1 < a0.tmps.size) → g = true → (execOp (fr a0 L).eval o).run P w = .ok (.value v) w) (h : FL P l Q rest a0 ((d, g, v) :: L) w) : FL P l Q (o :: rest) a0 L w := by
  refine ⟨fun hk => ?_⟩
  have h2 : wpList P l.toArray Q rest ((fr a0 L).put (some d) (cnd g v)) w := h.go (fun p hp => by
    rcases List.mem_cons.1 hp with e | e
    · rw [e, hn]; exact blt_lt hd
    · exact hk p e)
  refine wpList_step fun K hK => ?_
  rw [wt_is hk hw]
  cases g with
  | false => exact hK _ _ (by rw [ho]; exact h2)
  | true =>
    show o.wp P (fr a0 L) w K Q
    unfold Oper.wp
    rw [hr hk rfl]
    exact hK _ _ (by rw [ho]; exact h2)
theorem fl_callq {o : Oper} {d n : Nat} {g : Bool} {v : Value} {f : FuncId} {args : Array Value} (hn : a0.tmps.size = n) (ho : o.dst = some d) (hd : Nat.blt d n = true) (hw : wtG l L o.guard = some g)
    (hr : (∀ p, p ∈ L → p.1 < a0.tmps.size) → g = true → (execOp (fr a0 L).eval o).run P w = .ok (.enter f args) w) (hc : g = true → Calls P f args w fun e w' => e = .returned v ∧ w = w') (h : FL P l Q rest a0 ((d, g, v) :: L) w) : FL P l Q (o :: rest) a0 L w := by
  refine ⟨fun hk => ?_⟩
  have h2 : wpList P l.toArray Q rest ((fr a0 L).put (some d) (cnd g v)) w := h.go (fun p hp => by
    rcases List.mem_cons.1 hp with e | e
    · rw [e, hn]; exact blt_lt hd
    · exact hk p e)
  refine wpList_step fun K hK => ?_
  rw [wt_is hk hw]
  cases g with
  | false => exact hK _ _ (by rw [ho]; exact h2)
  | true =>
    show o.wp P (fr a0 L) w K Q
    unfold Oper.wp
    rw [hr hk rfl, Oper.upon_enter]
    refine (hc rfl).mono ?_
    rintro e w' ⟨rfl, rfl⟩
    exact hK _ _ (by rw [ho]; exact h2)
theorem fl_move {i d n : Nat} {ty : TypeId} {p : String} {af : Array Edge} {gd : Option (Nat × Bool)} {g gi : Bool} {v : Value} (hn : a0.tmps.size = n) (hd : Nat.blt d n = true) (hw : wtG l L gd = some g) (hl : lk L i = some (gi, v)) (hs : g = true → gi = true)
    (h : FL P l Q rest a0 ((d, g, v) :: L) w) : FL P l Q (⟨some d, .move (.tmp i), ty, p, af, gd⟩ :: rest) a0 L w :=
  fl_op hn rfl hd hw (fun hk hg => by show Result.ok (Next.value ((fr a0 L).eval (.tmp i))) w = _; rw [lk_at hk hl hs hg]) h
theorem fl_not {i d n : Nat} {ty ty' : TypeId} {p : String} {af : Array Edge} {gd : Option (Nat × Bool)} {g gi b : Bool} (hn : a0.tmps.size = n) (hd : Nat.blt d n = true) (hw : wtG l L gd = some g) (hl : lk L i = some (gi, (.bool b))) (hs : g = true → gi = true)
    (h : FL P l Q rest a0 ((d, g, (.bool !b)) :: L) w) : FL P l Q (⟨some d, .unOp .not ty' (.tmp i), ty, p, af, gd⟩ :: rest) a0 L w :=
  fl_op hn rfl hd hw (fun hk hg => by
    have e := lk_at hk hl hs hg
    unfold execOp
    dsimp only
    rw [e]
    rfl) h
theorem fl_or {c i d n : Nat} {ty : TypeId} {p : String} {af : Array Edge} {gd : Option (Nat × Bool)} {g gc gi b b2 : Bool} (hn : a0.tmps.size = n) (hd : Nat.blt d n = true) (hw : wtG l L gd = some g) (hc : lk L c = some (gc, (.bool b))) (hs : g = true → gc = true) (hl : lk L i = some (gi, (.bool b2))) (hs2 : g = true → b = false → gi = true)
    (h : FL P l Q rest a0 ((d, g, (.bool (b || b2))) :: L) w) : FL P l Q (⟨some d, .pick (.tmp c) (.const (.bool true)) (.tmp i), ty, p, af, gd⟩ :: rest) a0 L w :=
  fl_op hn rfl hd hw (fun hk hg => by
    have e := lk_at hk hc hs hg
    unfold execOp
    dsimp only
    rw [e]
    cases b with
    | true => rfl
    | false =>
      have e2 := lk_at hk hl (fun _ => hs2 hg rfl) hg
      rw [e2]
      rfl) h
theorem fl_and {c i d n : Nat} {ty : TypeId} {p : String} {af : Array Edge} {gd : Option (Nat × Bool)} {g gc gi b b2 : Bool} (hn : a0.tmps.size = n) (hd : Nat.blt d n = true) (hw : wtG l L gd = some g) (hc : lk L c = some (gc, (.bool b))) (hs : g = true → gc = true) (hl : lk L i = some (gi, (.bool b2))) (hs2 : g = true → b = true → gi = true)
    (h : FL P l Q rest a0 ((d, g, (.bool (b && b2))) :: L) w) : FL P l Q (⟨some d, .pick (.tmp c) (.tmp i) (.const (.bool false)), ty, p, af, gd⟩ :: rest) a0 L w :=
  fl_op hn rfl hd hw (fun hk hg => by
    have e := lk_at hk hc hs hg
    unfold execOp
    dsimp only
    rw [e]
    cases b with
    | false => rfl
    | true =>
      have e2 := lk_at hk hl (fun _ => hs2 hg rfl) hg
      rw [e2]
      rfl) h
theorem fl_load {i d n : Nat} {t ty : TypeId} {p : String} {af : Array Edge} {gd : Option (Nat × Bool)} {g gi : Bool} {ad : Addr} {v : Value} (hn : a0.tmps.size = n) (hd : Nat.blt d n = true) (hw : wtG l L gd = some g) (hl : lk L i = some (gi, (.pointer (some ad)))) (hs : g = true → gi = true) (hr : (Instr.loadAt t (.pointer (some ad))).run P w = .ok v w)
    (h : FL P l Q rest a0 ((d, g, v) :: L) w) : FL P l Q (⟨some d, .load t (.tmp i), ty, p, af, gd⟩ :: rest) a0 L w :=
  fl_op hn rfl hd hw (fun hk hg => by
    have e := lk_at hk hl hs hg
    unfold execOp
    dsimp only
    rw [e, Sem.run_bind, hr]
    rfl) h
theorem fl_field {i f d n : Nat} {t ty : TypeId} {p : String} {af : Array Edge} {gd : Option (Nat × Bool)} {g gi : Bool} {ad ad' : Addr} (hn : a0.tmps.size = n) (hd : Nat.blt d n = true) (hw : wtG l L gd = some g) (hl : lk L i = some (gi, (.pointer (some ad)))) (hs : g = true → gi = true) (hr : (Instr.fieldAt t (.pointer (some ad)) f).run P w = .ok (.pointer (some ad')) w)
    (h : FL P l Q rest a0 ((d, g, (.pointer (some ad'))) :: L) w) : FL P l Q (⟨some d, .fieldAddr t (.tmp i) f, ty, p, af, gd⟩ :: rest) a0 L w :=
  fl_op hn rfl hd hw (fun hk hg => by
    have e := lk_at hk hl hs hg
    unfold execOp
    dsimp only
    rw [e, Sem.run_bind, hr]
    rfl) h
theorem fl_build0 {d n : Nat} {t ty : TypeId} {p : String} {af : Array Edge} {gd : Option (Nat × Bool)} {g : Bool} {v : Value} (hn : a0.tmps.size = n) (hd : Nat.blt d n = true) (hw : wtG l L gd = some g) (hr : (Instr.build t #[]).run P w = .ok v w)
    (h : FL P l Q rest a0 ((d, g, v) :: L) w) : FL P l Q (⟨some d, .build t #[], ty, p, af, gd⟩ :: rest) a0 L w :=
  fl_op hn rfl hd hw (fun _ _ => by
    unfold execOp
    dsimp only
    simp only [List.map_toArray, List.map_nil]
    rw [Sem.run_bind, hr]
    rfl) h
theorem fl_bin {op : BinOp} {i j d n : Nat} {t ty ty2 : TypeId} {p : String} {af : Array Edge} {gd : Option (Nat × Bool)} {g gi gj : Bool} {vi vj v : Value} (hn : a0.tmps.size = n) (hd : Nat.blt d n = true) (hw : wtG l L gd = some g) (hl : lk L i = some (gi, vi)) (hs : g = true → gi = true) (hl2 : lk L j = some (gj, vj)) (hs2 : g = true → gj = true)
    (hr : ((do eqGuard op t (.tmp i) (.tmp j) vi vj; binOp op t vi vj) : Sem Value).run P w = .ok v w)
    (h : FL P l Q rest a0 ((d, g, v) :: L) w) : FL P l Q (⟨some d, .binOp op t (.tmp i) (.tmp j) ty2, ty, p, af, gd⟩ :: rest) a0 L w :=
  fl_op hn rfl hd hw (fun hk hg => by
    have e := lk_at hk hl hs hg
    have e2 := lk_at hk hl2 hs2 hg
    unfold execOp
    dsimp only
    rw [e, e2, Sem.run_bind, hr]
    rfl) h
theorem and_l {a b : Bool} (h : (a && b) = true) : a = true := by cases a <;> simp_all
end
/-! Over the seat's program: comparisons of numbers, lengths, calls. -/
section
variable {l : List Oper} {Q : Exit → Act → World → Prop} {rest : List Oper} {a0 : Act} {L : List (Nat × Bool × Value)} {w : World}
theorem bin_neq (d : Option Tmp) (x y : Operand) (ty ty2 : TypeId) (p : String) (af : Array Edge) (gd : Option (Nat × Bool)) (ρ : Operand → Value) (m k : Int) (h1 : ρ x = .int .i64 m) (h2 : ρ y = .int .i64 k) : (execOp ρ ⟨d, .binOp .neq 3 x y ty2, ty, p, af, gd⟩).run Tryd.prog w = .ok (.value (.bool (m != k))) w := by
  unfold execOp
  dsimp only
  rw [h1, h2]
  go_simp
theorem fl_neq {i d n : Nat} {m k : Int} {ty ty2 : TypeId} {p : String} {af : Array Edge} {gd : Option (Nat × Bool)} {g gi : Bool} (hn : a0.tmps.size = n) (hd : Nat.blt d n = true) (hw : wtG l L gd = some g) (hl : lk L i = some (gi, (.int .i64 m))) (hs : g = true → gi = true)
    (h : FL Tryd.prog l Q rest a0 ((d, g, (.bool (m != k))) :: L) w) : FL Tryd.prog l Q (⟨some d, .binOp .neq 3 (.tmp i) (.const (.int .i64 k)) ty2, ty, p, af, gd⟩ :: rest) a0 L w :=
  fl_op hn rfl hd hw (fun hk hg => bin_neq _ _ _ _ _ _ _ _ _ m k (lk_at hk hl hs hg) rfl) h
theorem fl_neq2 {i j d n : Nat} {m k : Int} {ty ty2 : TypeId} {p : String} {af : Array Edge} {gd : Option (Nat × Bool)} {g gi gj : Bool} (hn : a0.tmps.size = n) (hd : Nat.blt d n = true) (hw : wtG l L gd = some g) (hl : lk L i = some (gi, (.int .i64 m))) (hs : g = true → gi = true) (hl2 : lk L j = some (gj, (.int .i64 k))) (hs2 : g = true → gj = true)
    (h : FL Tryd.prog l Q rest a0 ((d, g, (.bool (m != k))) :: L) w) : FL Tryd.prog l Q (⟨some d, .binOp .neq 3 (.tmp i) (.tmp j) ty2, ty, p, af, gd⟩ :: rest) a0 L w :=
  fl_op hn rfl hd hw (fun hk hg => bin_neq _ _ _ _ _ _ _ _ _ m k (lk_at hk hl hs hg) (lk_at hk hl2 hs2 hg)) h
theorem bin_eql (d : Option Tmp) (x y : Operand) (ty ty2 : TypeId) (p : String) (af : Array Edge) (gd : Option (Nat × Bool)) (ρ : Operand → Value) (m k : Int) (h1 : ρ x = .int .i64 m) (h2 : ρ y = .int .i64 k) : (execOp ρ ⟨d, .binOp .eql 3 x y ty2, ty, p, af, gd⟩).run Tryd.prog w = .ok (.value (.bool (m == k))) w := by
  unfold execOp
  dsimp only
  rw [h1, h2]
  go_simp
theorem fl_eql {i d n : Nat} {m k : Int} {ty ty2 : TypeId} {p : String} {af : Array Edge} {gd : Option (Nat × Bool)} {g gi : Bool} (hn : a0.tmps.size = n) (hd : Nat.blt d n = true) (hw : wtG l L gd = some g) (hl : lk L i = some (gi, (.int .i64 m))) (hs : g = true → gi = true)
    (h : FL Tryd.prog l Q rest a0 ((d, g, (.bool (m == k))) :: L) w) : FL Tryd.prog l Q (⟨some d, .binOp .eql 3 (.tmp i) (.const (.int .i64 k)) ty2, ty, p, af, gd⟩ :: rest) a0 L w :=
  fl_op hn rfl hd hw (fun hk hg => bin_eql _ _ _ _ _ _ _ _ _ m k (lk_at hk hl hs hg) rfl) h
theorem fl_eql2 {i j d n : Nat} {m k : Int} {ty ty2 : TypeId} {p : String} {af : Array Edge} {gd : Option (Nat × Bool)} {g gi gj : Bool} (hn : a0.tmps.size = n) (hd : Nat.blt d n = true) (hw : wtG l L gd = some g) (hl : lk L i = some (gi, (.int .i64 m))) (hs : g = true → gi = true) (hl2 : lk L j = some (gj, (.int .i64 k))) (hs2 : g = true → gj = true)
    (h : FL Tryd.prog l Q rest a0 ((d, g, (.bool (m == k))) :: L) w) : FL Tryd.prog l Q (⟨some d, .binOp .eql 3 (.tmp i) (.tmp j) ty2, ty, p, af, gd⟩ :: rest) a0 L w :=
  fl_op hn rfl hd hw (fun hk hg => bin_eql _ _ _ _ _ _ _ _ _ m k (lk_at hk hl hs hg) (lk_at hk hl2 hs2 hg)) h
theorem bin_gtr (d : Option Tmp) (x y : Operand) (ty ty2 : TypeId) (p : String) (af : Array Edge) (gd : Option (Nat × Bool)) (ρ : Operand → Value) (m k : Int) (h1 : ρ x = .int .i64 m) (h2 : ρ y = .int .i64 k) : (execOp ρ ⟨d, .binOp .gtr 3 x y ty2, ty, p, af, gd⟩).run Tryd.prog w = .ok (.value (.bool (decide (k < m)))) w := by
  unfold execOp
  dsimp only
  rw [h1, h2]
  go_simp
theorem fl_gtr {i d n : Nat} {m k : Int} {ty ty2 : TypeId} {p : String} {af : Array Edge} {gd : Option (Nat × Bool)} {g gi : Bool} (hn : a0.tmps.size = n) (hd : Nat.blt d n = true) (hw : wtG l L gd = some g) (hl : lk L i = some (gi, (.int .i64 m))) (hs : g = true → gi = true)
    (h : FL Tryd.prog l Q rest a0 ((d, g, (.bool (decide (k < m)))) :: L) w) : FL Tryd.prog l Q (⟨some d, .binOp .gtr 3 (.tmp i) (.const (.int .i64 k)) ty2, ty, p, af, gd⟩ :: rest) a0 L w :=
  fl_op hn rfl hd hw (fun hk hg => bin_gtr _ _ _ _ _ _ _ _ _ m k (lk_at hk hl hs hg) rfl) h
theorem fl_gtr2 {i j d n : Nat} {m k : Int} {ty ty2 : TypeId} {p : String} {af : Array Edge} {gd : Option (Nat × Bool)} {g gi gj : Bool} (hn : a0.tmps.size = n) (hd : Nat.blt d n = true) (hw : wtG l L gd = some g) (hl : lk L i = some (gi, (.int .i64 m))) (hs : g = true → gi = true) (hl2 : lk L j = some (gj, (.int .i64 k))) (hs2 : g = true → gj = true)
    (h : FL Tryd.prog l Q rest a0 ((d, g, (.bool (decide (k < m)))) :: L) w) : FL Tryd.prog l Q (⟨some d, .binOp .gtr 3 (.tmp i) (.tmp j) ty2, ty, p, af, gd⟩ :: rest) a0 L w :=
  fl_op hn rfl hd hw (fun hk hg => bin_gtr _ _ _ _ _ _ _ _ _ m k (lk_at hk hl hs hg) (lk_at hk hl2 hs2 hg)) h
theorem bin_leq (d : Option Tmp) (x y : Operand) (ty ty2 : TypeId) (p : String) (af : Array Edge) (gd : Option (Nat × Bool)) (ρ : Operand → Value) (m k : Int) (h1 : ρ x = .int .i64 m) (h2 : ρ y = .int .i64 k) : (execOp ρ ⟨d, .binOp .leq 3 x y ty2, ty, p, af, gd⟩).run Tryd.prog w = .ok (.value (.bool (decide (m ≤ k)))) w := by
  unfold execOp
  dsimp only
  rw [h1, h2]
  go_simp
theorem fl_leq {i d n : Nat} {m k : Int} {ty ty2 : TypeId} {p : String} {af : Array Edge} {gd : Option (Nat × Bool)} {g gi : Bool} (hn : a0.tmps.size = n) (hd : Nat.blt d n = true) (hw : wtG l L gd = some g) (hl : lk L i = some (gi, (.int .i64 m))) (hs : g = true → gi = true)
    (h : FL Tryd.prog l Q rest a0 ((d, g, (.bool (decide (m ≤ k)))) :: L) w) : FL Tryd.prog l Q (⟨some d, .binOp .leq 3 (.tmp i) (.const (.int .i64 k)) ty2, ty, p, af, gd⟩ :: rest) a0 L w :=
  fl_op hn rfl hd hw (fun hk hg => bin_leq _ _ _ _ _ _ _ _ _ m k (lk_at hk hl hs hg) rfl) h
theorem fl_leq2 {i j d n : Nat} {m k : Int} {ty ty2 : TypeId} {p : String} {af : Array Edge} {gd : Option (Nat × Bool)} {g gi gj : Bool} (hn : a0.tmps.size = n) (hd : Nat.blt d n = true) (hw : wtG l L gd = some g) (hl : lk L i = some (gi, (.int .i64 m))) (hs : g = true → gi = true) (hl2 : lk L j = some (gj, (.int .i64 k))) (hs2 : g = true → gj = true)
    (h : FL Tryd.prog l Q rest a0 ((d, g, (.bool (decide (m ≤ k)))) :: L) w) : FL Tryd.prog l Q (⟨some d, .binOp .leq 3 (.tmp i) (.tmp j) ty2, ty, p, af, gd⟩ :: rest) a0 L w :=
  fl_op hn rfl hd hw (fun hk hg => bin_leq _ _ _ _ _ _ _ _ _ m k (lk_at hk hl hs hg) (lk_at hk hl2 hs2 hg)) h
theorem call3_is {f : FuncId} (he : ∀ args w, (callFunc f args).run Tryd.prog w = .ok (.enter f args) w) (d : Option Tmp) (x y z : Operand) (ts : Array TypeId) (ty : TypeId) (p : String) (af : Array Edge) (gd : Option (Nat × Bool)) (ρ : Operand → Value) (u v t : Value) (h1 : ρ x = u) (h2 : ρ y = v) (h3 : ρ z = t) (hf : ρ (.func f) = .func (.func f) #[] #[]) : (execOp ρ ⟨d, .call { callee := .value (.func f), args := #[x, y, z], argTypes := ts }, ty, p, af, gd⟩).run Tryd.prog w = .ok (.enter f #[u, v, t]) w := by
  unfold execOp
  dsimp only
  go_simp

theorem fl_callc {f : FuncId} {i d n : Nat} {v c1 c2 r : Value} {ts : Array TypeId} {ty : TypeId} {p : String} {af : Array Edge} {gd : Option (Nat × Bool)} {g gi : Bool} (he : ∀ args w, (callFunc f args).run Tryd.prog w = .ok (.enter f args) w) (hn : a0.tmps.size = n) (hd : Nat.blt d n = true) (hw : wtG l L gd = some g) (hl : lk L i = some (gi, v)) (hs : g = true → gi = true)
    (hc : Calls Tryd.prog f #[v, c1, c2] w fun e w' => e = .returned r ∧ w = w') (h : FL Tryd.prog l Q rest a0 ((d, g, r) :: L) w) : FL Tryd.prog l Q (⟨some d, .call { callee := .value (.func f), args := #[.tmp i, .const c1, .const c2], argTypes := ts }, ty, p, af, gd⟩ :: rest) a0 L w :=
  fl_callq hn rfl hd hw (fun hk hg => call3_is he _ _ _ _ _ _ _ _ _ _ v c1 c2 (lk_at hk hl hs hg) rfl rfl rfl) (fun _ => hc) h
theorem fl_callt {f : FuncId} {i j d n : Nat} {v c1 c2 r : Value} {ts : Array TypeId} {ty : TypeId} {p : String} {af : Array Edge} {gd : Option (Nat × Bool)} {g gi gj : Bool} (he : ∀ args w, (callFunc f args).run Tryd.prog w = .ok (.enter f args) w) (hn : a0.tmps.size = n) (hd : Nat.blt d n = true) (hw : wtG l L gd = some g) (hl : lk L i = some (gi, v)) (hs : g = true → gi = true) (hl2 : lk L j = some (gj, c2)) (hs2 : g = true → gj = true)
    (hc : Calls Tryd.prog f #[v, c1, c2] w fun e w' => e = .returned r ∧ w = w') (h : FL Tryd.prog l Q rest a0 ((d, g, r) :: L) w) : FL Tryd.prog l Q (⟨some d, .call { callee := .value (.func f), args := #[.tmp i, .const c1, .tmp j], argTypes := ts }, ty, p, af, gd⟩ :: rest) a0 L w :=
  fl_callq hn rfl hd hw (fun hk hg => call3_is he _ _ _ _ _ _ _ _ _ _ v c1 c2 (lk_at hk hl hs hg) rfl (lk_at hk hl2 hs2 hg) rfl) (fun _ => hc) h
theorem load_int {ad : Addr} {v : Value} (h : w.cell? ad = some v) : (Instr.loadAt 3 (.pointer (some ad))).run Tryd.prog w = .ok v w := by go_simp
theorem load_bool {ad : Addr} {v : Value} (h : w.cell? ad = some v) : (Instr.loadAt 4 (.pointer (some ad))).run Tryd.prog w = .ok v w := by go_simp
theorem len_is (d : Option Tmp) (x : Operand) (ts : Array TypeId) (ty : TypeId) (p : String) (af : Array Edge) (gd : Option (Nat × Bool)) (ρ : Operand → Value) (A : Option Addr) (n c : Nat) (h1 : ρ x = .slice A n c) (hr : (Builtin.len_ ts ty #[.slice A n c]).run Tryd.prog w = .ok (.int .i64 n) w) : (execOp ρ ⟨d, .call { callee := .builtin .len, args := #[x], argTypes := ts }, ty, p, af, gd⟩).run Tryd.prog w = .ok (.value (.int .i64 n)) w := by
  unfold execOp
  dsimp only
  go_simp
theorem fl_len {i d n m c : Nat} {A : Option Addr} {ts : Array TypeId} {ty : TypeId} {p : String} {af : Array Edge} {gd : Option (Nat × Bool)} {g gi : Bool} (hn : a0.tmps.size = n) (hd : Nat.blt d n = true) (hw : wtG l L gd = some g) (hl : lk L i = some (gi, (.slice A m c))) (hs : g = true → gi = true) (hr : (Builtin.len_ ts ty #[.slice A m c]).run Tryd.prog w = .ok (.int .i64 m) w)
    (h : FL Tryd.prog l Q rest a0 ((d, g, (.int .i64 m)) :: L) w) : FL Tryd.prog l Q (⟨some d, .call { callee := .builtin .len, args := #[.tmp i], argTypes := ts }, ty, p, af, gd⟩ :: rest) a0 L w :=
  fl_op hn rfl hd hw (fun hk hg => len_is _ _ _ _ _ _ _ _ A m c (lk_at hk hl hs hg) hr) h
end
end Go.Proofs.YtjbmhbnlanbbkaaDoor

namespace Go.Proofs.YtjbmhbnlanbbkaaDoor
open Go.RowKit

section
variable {P : Program} {l : List Oper} {Q : Exit → Act → World → Prop} {rest : List Oper} {a0 : Act} {L : List (Nat × Bool × Value)} {w : World}
theorem fl_callw {o : Oper} {d n : Nat} {g : Bool} {v : Value} {f : FuncId} {args : Array Value} (hn : a0.tmps.size = n) (ho : o.dst = some d) (hd : Nat.blt d n = true) (hw : wtG l L o.guard = some g)
    (hr : (∀ p, p ∈ L → p.1 < a0.tmps.size) → g = true → (execOp (fr a0 L).eval o).run P w = .ok (.enter f args) w) (hc : g = true → Calls P f args w fun e w' => e = .returned v ∧ Below w.heap.size w w') (h : ∀ w2, Below w.heap.size w w2 → FL P l Q rest a0 ((d, g, v) :: L) w2) : FL P l Q (o :: rest) a0 L w := by
  refine ⟨fun hk => ?_⟩
  have h2 : ∀ w2, Below w.heap.size w w2 → wpList P l.toArray Q rest ((fr a0 L).put (some d) (cnd g v)) w2 := fun w2 hb => (h w2 hb).go (fun p hp => by
    rcases List.mem_cons.1 hp with e | e
    · rw [e, hn]; exact blt_lt hd
    · exact hk p e)
  refine wpList_step fun K hK => ?_
  rw [wt_is hk hw]
  cases g with
  | false => exact hK _ _ (by rw [ho]; exact h2 w (Below.refl _ _))
  | true =>
    show o.wp P (fr a0 L) w K Q
    unfold Oper.wp
    rw [hr hk rfl, Oper.upon_enter]
    refine (hc rfl).mono ?_
    rintro e w' ⟨rfl, hb⟩
    exact hK _ _ (by rw [ho]; exact h2 w' hb)
theorem fl_callx {o : Oper} {d n : Nat} {f : FuncId} {args : Array Value} {R : Value → World → Prop} (hn : a0.tmps.size = n) (ho : o.dst = some d) (hd : Nat.blt d n = true) (hw : wtG l L o.guard = some true)
    (hr : (∀ p, p ∈ L → p.1 < a0.tmps.size) → (execOp (fr a0 L).eval o).run P w = .ok (.enter f args) w) (hc : Calls P f args w fun e w' => ∃ v, e = .returned v ∧ R v w') (h : ∀ v w2, R v w2 → FL P l Q rest a0 ((d, true, v) :: L) w2) : FL P l Q (o :: rest) a0 L w := by
  refine ⟨fun hk => ?_⟩
  refine wpList_step fun K hK => ?_
  rw [wt_is hk hw]
  show o.wp P (fr a0 L) w K Q
  unfold Oper.wp
  rw [hr hk, Oper.upon_enter]
  refine hc.mono ?_
  rintro e w' ⟨v, rfl, hR⟩
  have h2 : wpList P l.toArray Q rest ((fr a0 L).put (some d) (cnd true v)) w' := (h v w' hR).go (fun p hp => by
    rcases List.mem_cons.1 hp with e | e
    · rw [e, hn]; exact blt_lt hd
    · exact hk p e)
  exact hK _ _ (by rw [ho]; exact h2)
theorem fl_opw {o : Oper} {d n : Nat} {v : Value} {w2 : World} (hn : a0.tmps.size = n) (ho : o.dst = some d) (hd : Nat.blt d n = true) (hw : wtG l L o.guard = some true)
    (hr : (∀ p, p ∈ L → p.1 < a0.tmps.size) → (execOp (fr a0 L).eval o).run P w = .ok (.value v) w2) (h : FL P l Q rest a0 ((d, true, v) :: L) w2) : FL P l Q (o :: rest) a0 L w := by
  refine ⟨fun hk => ?_⟩
  have h2 : wpList P l.toArray Q rest ((fr a0 L).put (some d) (cnd true v)) w2 := h.go (fun p hp => by
    rcases List.mem_cons.1 hp with e | e
    · rw [e, hn]; exact blt_lt hd
    · exact hk p e)
  refine wpList_step fun K hK => ?_
  rw [wt_is hk hw]
  show o.wp P (fr a0 L) w K Q
  unfold Oper.wp
  rw [hr hk]
  exact hK _ _ (by rw [ho]; exact h2)
theorem fl_assign {i d n : Nat} {ty : TypeId} {p : String} {af : Array Edge} {gd : Option (Nat × Bool)} {g gi : Bool} {v : Value} (hn : a0.tmps.size = n) (hd : Nat.blt d n = true) (hw : wtG l L gd = some g) (hl : lk L i = some (gi, v)) (hs : g = true → gi = true)
    (h : FL P l Q rest a0 ((d, g, v) :: L) w) : FL P l Q (⟨some d, .assign (.tmp i), ty, p, af, gd⟩ :: rest) a0 L w :=
  fl_op hn rfl hd hw (fun hk hg => by show Result.ok (Next.value ((fr a0 L).eval (.tmp i))) w = _; rw [lk_at hk hl hs hg]) h
theorem fl_nilc {i d n : Nat} {ty : TypeId} {p : String} {af : Array Edge} {gd : Option (Nat × Bool)} {g gi : Bool} {ad : Addr} (hn : a0.tmps.size = n) (hd : Nat.blt d n = true) (hw : wtG l L gd = some g) (hl : lk L i = some (gi, (.pointer (some ad)))) (hs : g = true → gi = true)
    (h : FL P l Q rest a0 ((d, g, (.pointer (some ad))) :: L) w) : FL P l Q (⟨some d, .nilCheck (.tmp i), ty, p, af, gd⟩ :: rest) a0 L w :=
  fl_op hn rfl hd hw (fun hk hg => by
    have e := lk_at hk hl hs hg
    unfold execOp
    dsimp only
    rw [e]
    rfl) h
end
section
variable {l : List Oper} {Q : Exit → Act → World → Prop} {rest : List Oper} {a0 : Act} {L : List (Nat × Bool × Value)} {w : World}
theorem bin_lss (d : Option Tmp) (x y : Operand) (ty ty2 : TypeId) (p : String) (af : Array Edge) (gd : Option (Nat × Bool)) (ρ : Operand → Value) (m k : Int) (h1 : ρ x = .int .i64 m) (h2 : ρ y = .int .i64 k) : (execOp ρ ⟨d, .binOp .lss 3 x y ty2, ty, p, af, gd⟩).run Tryd.prog w = .ok (.value (.bool (decide (m < k)))) w := by
  unfold execOp
  dsimp only
  rw [h1, h2]
  go_simp
theorem fl_lss {i d n : Nat} {m k : Int} {ty ty2 : TypeId} {p : String} {af : Array Edge} {gd : Option (Nat × Bool)} {g gi : Bool} (hn : a0.tmps.size = n) (hd : Nat.blt d n = true) (hw : wtG l L gd = some g) (hl : lk L i = some (gi, (.int .i64 m))) (hs : g = true → gi = true)
    (h : FL Tryd.prog l Q rest a0 ((d, g, (.bool (decide (m < k)))) :: L) w) : FL Tryd.prog l Q (⟨some d, .binOp .lss 3 (.tmp i) (.const (.int .i64 k)) ty2, ty, p, af, gd⟩ :: rest) a0 L w :=
  fl_op hn rfl hd hw (fun hk hg => bin_lss _ _ _ _ _ _ _ _ _ m k (lk_at hk hl hs hg) rfl) h
theorem fl_lss2 {i j d n : Nat} {m k : Int} {ty ty2 : TypeId} {p : String} {af : Array Edge} {gd : Option (Nat × Bool)} {g gi gj : Bool} (hn : a0.tmps.size = n) (hd : Nat.blt d n = true) (hw : wtG l L gd = some g) (hl : lk L i = some (gi, (.int .i64 m))) (hs : g = true → gi = true) (hl2 : lk L j = some (gj, (.int .i64 k))) (hs2 : g = true → gj = true)
    (h : FL Tryd.prog l Q rest a0 ((d, g, (.bool (decide (m < k)))) :: L) w) : FL Tryd.prog l Q (⟨some d, .binOp .lss 3 (.tmp i) (.tmp j) ty2, ty, p, af, gd⟩ :: rest) a0 L w :=
  fl_op hn rfl hd hw (fun hk hg => bin_lss _ _ _ _ _ _ _ _ _ m k (lk_at hk hl hs hg) (lk_at hk hl2 hs2 hg)) h
theorem bin_geq (d : Option Tmp) (x y : Operand) (ty ty2 : TypeId) (p : String) (af : Array Edge) (gd : Option (Nat × Bool)) (ρ : Operand → Value) (m k : Int) (h1 : ρ x = .int .i64 m) (h2 : ρ y = .int .i64 k) : (execOp ρ ⟨d, .binOp .geq 3 x y ty2, ty, p, af, gd⟩).run Tryd.prog w = .ok (.value (.bool (decide (k ≤ m)))) w := by
  unfold execOp
  dsimp only
  rw [h1, h2]
  go_simp
theorem fl_geq {i d n : Nat} {m k : Int} {ty ty2 : TypeId} {p : String} {af : Array Edge} {gd : Option (Nat × Bool)} {g gi : Bool} (hn : a0.tmps.size = n) (hd : Nat.blt d n = true) (hw : wtG l L gd = some g) (hl : lk L i = some (gi, (.int .i64 m))) (hs : g = true → gi = true)
    (h : FL Tryd.prog l Q rest a0 ((d, g, (.bool (decide (k ≤ m)))) :: L) w) : FL Tryd.prog l Q (⟨some d, .binOp .geq 3 (.tmp i) (.const (.int .i64 k)) ty2, ty, p, af, gd⟩ :: rest) a0 L w :=
  fl_op hn rfl hd hw (fun hk hg => bin_geq _ _ _ _ _ _ _ _ _ m k (lk_at hk hl hs hg) rfl) h
theorem fl_geq2 {i j d n : Nat} {m k : Int} {ty ty2 : TypeId} {p : String} {af : Array Edge} {gd : Option (Nat × Bool)} {g gi gj : Bool} (hn : a0.tmps.size = n) (hd : Nat.blt d n = true) (hw : wtG l L gd = some g) (hl : lk L i = some (gi, (.int .i64 m))) (hs : g = true → gi = true) (hl2 : lk L j = some (gj, (.int .i64 k))) (hs2 : g = true → gj = true)
    (h : FL Tryd.prog l Q rest a0 ((d, g, (.bool (decide (k ≤ m)))) :: L) w) : FL Tryd.prog l Q (⟨some d, .binOp .geq 3 (.tmp i) (.tmp j) ty2, ty, p, af, gd⟩ :: rest) a0 L w :=
  fl_op hn rfl hd hw (fun hk hg => bin_geq _ _ _ _ _ _ _ _ _ m k (lk_at hk hl hs hg) (lk_at hk hl2 hs2 hg)) h
theorem call1_is {f : FuncId} (he : ∀ args w, (callFunc f args).run Tryd.prog w = .ok (.enter f args) w) (d : Option Tmp) (x0 : Operand) (ts : Array TypeId) (ty : TypeId) (p : String) (af : Array Edge) (gd : Option (Nat × Bool)) (ρ : Operand → Value) (v0 : Value) (h0 : ρ x0 = v0) (hf : ρ (.func f) = .func (.func f) #[] #[]) : (execOp ρ ⟨d, .call { callee := .value (.func f), args := #[x0], argTypes := ts }, ty, p, af, gd⟩).run Tryd.prog w = .ok (.enter f #[v0]) w := by
  unfold execOp
  dsimp only
  go_simp
theorem call2_is {f : FuncId} (he : ∀ args w, (callFunc f args).run Tryd.prog w = .ok (.enter f args) w) (d : Option Tmp) (x0 x1 : Operand) (ts : Array TypeId) (ty : TypeId) (p : String) (af : Array Edge) (gd : Option (Nat × Bool)) (ρ : Operand → Value) (v0 v1 : Value) (h0 : ρ x0 = v0) (h1 : ρ x1 = v1) (hf : ρ (.func f) = .func (.func f) #[] #[]) : (execOp ρ ⟨d, .call { callee := .value (.func f), args := #[x0, x1], argTypes := ts }, ty, p, af, gd⟩).run Tryd.prog w = .ok (.enter f #[v0, v1]) w := by
  unfold execOp
  dsimp only
  go_simp
theorem fl_call1w {f : FuncId} {i0 d n : Nat} {v0 r : Value} {ts : Array TypeId} {ty : TypeId} {p : String} {af : Array Edge} {gd : Option (Nat × Bool)} {g g0 : Bool} (he : ∀ args w, (callFunc f args).run Tryd.prog w = .ok (.enter f args) w) (hn : a0.tmps.size = n) (hd : Nat.blt d n = true) (hw : wtG l L gd = some g) (hl0 : lk L i0 = some (g0, v0)) (hs0 : g = true → g0 = true)
    (hc : g = true → Calls Tryd.prog f #[v0] w fun e w' => e = .returned r ∧ Below w.heap.size w w') (h : ∀ w2, Below w.heap.size w w2 → FL Tryd.prog l Q rest a0 ((d, g, r) :: L) w2) : FL Tryd.prog l Q (⟨some d, .call { callee := .value (.func f), args := #[.tmp i0], argTypes := ts }, ty, p, af, gd⟩ :: rest) a0 L w :=
  fl_callw hn rfl hd hw (fun hk hg => call1_is he _ _ _ _ _ _ _ _ v0 (lk_at hk hl0 hs0 hg) rfl) hc h
theorem fl_call1x {f : FuncId} {i0 d n : Nat} {v0 : Value} {R : Value → World → Prop} {ts : Array TypeId} {ty : TypeId} {p : String} {af : Array Edge} {gd : Option (Nat × Bool)} {g0 : Bool} (he : ∀ args w, (callFunc f args).run Tryd.prog w = .ok (.enter f args) w) (hn : a0.tmps.size = n) (hd : Nat.blt d n = true) (hw : wtG l L gd = some true) (hl0 : lk L i0 = some (g0, v0)) (hs0 : g0 = true)
    (hc : Calls Tryd.prog f #[v0] w fun e w' => ∃ v, e = .returned v ∧ R v w') (h : ∀ v w2, R v w2 → FL Tryd.prog l Q rest a0 ((d, true, v) :: L) w2) : FL Tryd.prog l Q (⟨some d, .call { callee := .value (.func f), args := #[.tmp i0], argTypes := ts }, ty, p, af, gd⟩ :: rest) a0 L w :=
  fl_callx hn rfl hd hw (fun hk => call1_is he _ _ _ _ _ _ _ _ v0 (lk_at hk hl0 (fun _ => hs0) rfl) rfl) hc h
theorem fl_call2w {f : FuncId} {i0 i1 d n : Nat} {v0 v1 r : Value} {ts : Array TypeId} {ty : TypeId} {p : String} {af : Array Edge} {gd : Option (Nat × Bool)} {g g0 g1 : Bool} (he : ∀ args w, (callFunc f args).run Tryd.prog w = .ok (.enter f args) w) (hn : a0.tmps.size = n) (hd : Nat.blt d n = true) (hw : wtG l L gd = some g) (hl0 : lk L i0 = some (g0, v0)) (hs0 : g = true → g0 = true) (hl1 : lk L i1 = some (g1, v1)) (hs1 : g = true → g1 = true)
    (hc : g = true → Calls Tryd.prog f #[v0, v1] w fun e w' => e = .returned r ∧ Below w.heap.size w w') (h : ∀ w2, Below w.heap.size w w2 → FL Tryd.prog l Q rest a0 ((d, g, r) :: L) w2) : FL Tryd.prog l Q (⟨some d, .call { callee := .value (.func f), args := #[.tmp i0, .tmp i1], argTypes := ts }, ty, p, af, gd⟩ :: rest) a0 L w :=
  fl_callw hn rfl hd hw (fun hk hg => call2_is he _ _ _ _ _ _ _ _ _ v0 v1 (lk_at hk hl0 hs0 hg) (lk_at hk hl1 hs1 hg) rfl) hc h
theorem fl_call2x {f : FuncId} {i0 i1 d n : Nat} {v0 v1 : Value} {R : Value → World → Prop} {ts : Array TypeId} {ty : TypeId} {p : String} {af : Array Edge} {gd : Option (Nat × Bool)} {g0 g1 : Bool} (he : ∀ args w, (callFunc f args).run Tryd.prog w = .ok (.enter f args) w) (hn : a0.tmps.size = n) (hd : Nat.blt d n = true) (hw : wtG l L gd = some true) (hl0 : lk L i0 = some (g0, v0)) (hs0 : g0 = true) (hl1 : lk L i1 = some (g1, v1)) (hs1 : g1 = true)
    (hc : Calls Tryd.prog f #[v0, v1] w fun e w' => ∃ v, e = .returned v ∧ R v w') (h : ∀ v w2, R v w2 → FL Tryd.prog l Q rest a0 ((d, true, v) :: L) w2) : FL Tryd.prog l Q (⟨some d, .call { callee := .value (.func f), args := #[.tmp i0, .tmp i1], argTypes := ts }, ty, p, af, gd⟩ :: rest) a0 L w :=
  fl_callx hn rfl hd hw (fun hk => call2_is he _ _ _ _ _ _ _ _ _ v0 v1 (lk_at hk hl0 (fun _ => hs0) rfl) (lk_at hk hl1 (fun _ => hs1) rfl) rfl) hc h
end
end Go.Proofs.YtjbmhbnlanbbkaaDoor

namespace Go.Proofs.YtjbmhbnlanbbkaaDoor
open Go.RowKit

/-- Only block b has turned. -/
structure Only1 (b : Nat) (W W' : World) : Prop where
  os : W'.os = W.os
  tape : W'.tape = W.tape
  output : W'.output = W.output
  size : W'.heap.size = W.heap.size
  block : ∀ k, k ≠ b → W'.heap[k]? = W.heap[k]?
theorem Only1.below {b B : Nat} {W W' : World} (h : Only1 b W W') (hB : B ≤ b) : Below B W W' := ⟨h.os, h.tape, h.output, Nat.le_of_eq h.size.symm, fun k hk => h.block k (by omega)⟩
theorem Only1.refl (b : Nat) (W : World) : Only1 b W W := ⟨rfl, rfl, rfl, rfl, fun _ _ => rfl⟩
theorem Only1.trans {b : Nat} {W W' W'' : World} (h : Only1 b W W') (k : Only1 b W' W'') : Only1 b W W'' := ⟨k.os.trans h.os, k.tape.trans h.tape, k.output.trans h.output, k.size.trans h.size, fun i hi => (k.block i hi).trans (h.block i hi)⟩
theorem only_set (W : World) (b : Nat) (o : Obj) : Only1 b W { W with heap := W.heap.setIfInBounds b o } :=
  ⟨rfl, rfl, rfl, by simp, fun k hk => by
    show (W.heap.setIfInBounds b o)[k]? = _
    rw [Array.getElem?_setIfInBounds_ne hk.symm]⟩
theorem only_cell (W : World) (b j : Nat) (v : Value) : Only1 b W (W.setCell ⟨b, j, none⟩ v) :=
  ⟨rfl, rfl, rfl, by simp [World.setCell], fun k hk => Below.heap_setCell W ⟨b, j, none⟩ v k hk⟩
theorem only_cells (b : Nat) : ∀ (vs : List Value) (o : Nat) (W : World), Only1 b W (W.setCells b o vs)
  | [], _, W => Only1.refl b W
  | v :: r, o, W => (only_cell W b o v).trans (only_cells b r (o + 1) _)
theorem only_row (W : World) (g : Nat) (cs : Array Value) : Only1 g W (W.setRow g cs) := ⟨rfl, rfl, rfl, by simp, fun k hk => setRow_other W g k cs hk⟩
theorem Blk.only {W W1 : World} {b c : Nat} {cs : Array Value} {t : TypeId} (h : Blk W b cs t) (ho : Only1 c W W1) (hne : b ≠ c) : Blk W1 b cs t := (ho.block b hne).trans h
theorem Blk.row {W : World} {g : Nat} {old : Array Value} {t : TypeId} (h : Blk W g old t) (cs : Array Value) : Blk (W.setRow g cs) g cs t := setRow_heap W g old cs t (0, 0) h
/-- Cells from j on, one after the other. -/
def setL (cs : Array Value) : Nat → List Value → Array Value
  | _, [] => cs
  | j, v :: r => setL (cs.setIfInBounds j v) (j + 1) r
theorem Blk.cells {b : Nat} {t : TypeId} : ∀ (vs : List Value) (j : Nat) (W : World) (cs : Array Value), Blk W b cs t → Blk (W.setCells b j vs) b (setL cs j vs) t
  | [], _, _, _, h => h
  | v :: r, j, _, _, h => Blk.cells r (j + 1) _ _ (h.set j v)
end Go.Proofs.YtjbmhbnlanbbkaaDoor

namespace Go.Proofs.YtjbmhbnlanbbkaaDoor
open Go.RowKit

section
variable {P : Program} {l : List Oper} {Q : Exit → Act → World → Prop} {rest : List Oper} {a0 : Act} {L : List (Nat × Bool × Value)} {w : World}
theorem fl_skip {o : Oper} {w2 : World} (ho : o.dst = none) (hw : wtG l L o.guard = some true)
    (hr : (∀ p, p ∈ L → p.1 < a0.tmps.size) → (execOp (fr a0 L).eval o).run P w = .ok .skip w2) (h : FL P l Q rest a0 L w2) : FL P l Q (o :: rest) a0 L w := by
  refine ⟨fun hk => ?_⟩
  refine wpList_step fun K hK => ?_
  rw [wt_is hk hw]
  show o.wp P (fr a0 L) w K Q
  unfold Oper.wp
  rw [hr hk, Oper.upon_skip, ho]
  exact hK _ _ (h.go hk)
theorem run_st {t : TypeId} {i : Nat} {x : Operand} {ty : TypeId} {p : String} {af : Array Edge} {gd : Option (Nat × Bool)} {ad v : Value} {w2 : World} {ρ : Operand → Value} (h1 : ρ (.tmp i) = ad) (h2 : ρ x = v) (hr : (Instr.storeAt t ad v).run P w = .ok () w2) :
    (execOp ρ ⟨none, .store t (.tmp i) x, ty, p, af, gd⟩).run P w = .ok .skip w2 := by
  unfold execOp
  dsimp only
  rw [h1, h2, Sem.run_bind, hr]
  rfl
/-- A store of what a constant is. -/
theorem fl_stc {i b j : Nat} {t ty T : TypeId} {v : Value} {p : String} {af : Array Edge} {gd : Option (Nat × Bool)} {cs : Array Value} (hw : wtG l L gd = some true) (hl : lk L i = some (true, .pointer (some ⟨b, j, none⟩))) (hX : Blk w b cs T)
    (hr : (Instr.storeAt t (.pointer (some ⟨b, j, none⟩)) v).run P w = .ok () (w.setCell ⟨b, j, none⟩ v)) (h : ∀ w2, Only1 b w w2 → Blk w2 b (cs.setIfInBounds j v) T → FL P l Q rest a0 L w2) : FL P l Q (⟨none, .store t (.tmp i) (.const v), ty, p, af, gd⟩ :: rest) a0 L w :=
  fl_skip rfl hw (fun hk => run_st (lk_at hk hl (fun _ => rfl) rfl) rfl hr) (h _ (only_cell w b j v) (hX.set j v))
/-- .. of what a slot has. -/
theorem fl_stt {i k b j : Nat} {g : Bool} {t ty T : TypeId} {v : Value} {p : String} {af : Array Edge} {gd : Option (Nat × Bool)} {cs : Array Value} (hw : wtG l L gd = some true) (hl : lk L i = some (true, .pointer (some ⟨b, j, none⟩))) (hl2 : lk L k = some (g, v)) (hg : g = true) (hX : Blk w b cs T)
    (hr : (Instr.storeAt t (.pointer (some ⟨b, j, none⟩)) v).run P w = .ok () (w.setCell ⟨b, j, none⟩ v)) (h : ∀ w2, Only1 b w w2 → Blk w2 b (cs.setIfInBounds j v) T → FL P l Q rest a0 L w2) : FL P l Q (⟨none, .store t (.tmp i) (.tmp k), ty, p, af, gd⟩ :: rest) a0 L w :=
  fl_skip rfl hw (fun hk => run_st (lk_at hk hl (fun _ => rfl) rfl) (lk_at hk hl2 (fun _ => hg) rfl) hr) (h _ (only_cell w b j v) (hX.set j v))
/-- .. of a row or a struct, into cells from j on. -/
theorem fl_stm {i k b j : Nat} {g : Bool} {t ty T : TypeId} {c : Array Value} {p : String} {af : Array Edge} {gd : Option (Nat × Bool)} {cs : Array Value} (hw : wtG l L gd = some true) (hl : lk L i = some (true, .pointer (some ⟨b, j, none⟩))) (hl2 : lk L k = some (g, .agg c)) (hg : g = true) (hX : Blk w b cs T)
    (hs : j + c.size ≤ cs.size) (hi : (P.info? t).map (·.size) = some c.size) (h1 : c.all (·.oneCell') = true) (h : ∀ w2, Only1 b w w2 → Blk w2 b (setL cs j c.toList) T → FL P l Q rest a0 L w2) : FL P l Q (⟨none, .store t (.tmp i) (.tmp k), ty, p, af, gd⟩ :: rest) a0 L w :=
  fl_skip rfl hw (fun hk => run_st (lk_at hk hl (fun _ => rfl) rfl) (lk_at hk hl2 (fun _ => hg) rfl) (by
    simp only [Instr.storeAt, Instr.sureAddr, Sem.run_bind, Sem.run_pure, Result.andThen_ok]
    exact run_storeVar_mid w b j t c (fun i hi => ⟨by rw [hX.cell, Array.getElem?_eq_getElem (by omega)]; rfl, hX.free _⟩) hi h1)) (h _ (only_cells b _ _ w) (Blk.cells _ _ w cs hX))
/-- .. of a whole block. -/
theorem fl_str {i k b : Nat} {g : Bool} {t ty T : TypeId} {c : Array Value} {p : String} {af : Array Edge} {gd : Option (Nat × Bool)} {cs : Array Value} (hw : wtG l L gd = some true) (hl : lk L i = some (true, .pointer (some ⟨b, 0, none⟩))) (hl2 : lk L k = some (g, .agg c)) (hg : g = true) (hX : Blk w b cs T)
    (hs : cs.size = c.size) (hi : (P.info? t).map (·.size) = some c.size) (h1 : c.all (·.oneCell') = true) (h : ∀ w2, Only1 b w w2 → Blk w2 b c T → FL P l Q rest a0 L w2) : FL P l Q (⟨none, .store t (.tmp i) (.tmp k), ty, p, af, gd⟩ :: rest) a0 L w :=
  fl_skip rfl hw (fun hk => run_st (lk_at hk hl (fun _ => rfl) rfl) (lk_at hk hl2 (fun _ => hg) rfl) (by
    simp only [Instr.storeAt, Instr.sureAddr, Sem.run_bind, Sem.run_pure, Result.andThen_ok]
    exact run_storeVar_row w b T t cs c hX hi hs h1)) (h _ (only_row w b c) (hX.row c))
end
section
variable {W : World} {b j : Nat} {cs : Array Value} {T : TypeId}
theorem blk_some (hX : Blk W b cs T) (hj : j < cs.size) : ∃ u, W.cell? ⟨b, j, none⟩ = some u := ⟨cs[j], by rw [hX.cell]; simp [hj]⟩
theorem st_int (hX : Blk W b cs T) (hj : j < cs.size) (m : Int) : (Instr.storeAt 3 (.pointer (some ⟨b, j, none⟩)) (.int .i64 m)).run Tryd.prog W = .ok () (W.setCell ⟨b, j, none⟩ (.int .i64 m)) := by
  obtain ⟨u, hu⟩ := blk_some hX hj
  have hf := hX.free j
  clear hX
  go_simp
theorem st_bool (hX : Blk W b cs T) (hj : j < cs.size) (m : Bool) : (Instr.storeAt 4 (.pointer (some ⟨b, j, none⟩)) (.bool m)).run Tryd.prog W = .ok () (W.setCell ⟨b, j, none⟩ (.bool m)) := by
  obtain ⟨u, hu⟩ := blk_some hX hj
  have hf := hX.free j
  clear hX
  go_simp
end
end Go.Proofs.YtjbmhbnlanbbkaaDoor
