/-
  WHAT IS PROVED: words for a region that is one chain of guarded operations which only read: its frame as a list of what was written, each slot's value under the guard that it has; one law an operation. Over any program of these types.
-/
import Derived.Test.YtokkmofcijfmiabGQ0
import Derived.Test.YtokkmofcijfmiabGQ1
namespace Go.Proofs.Ytokkmofcijfmiab
open Go.RowKit

theorem blt_lt {a b : Nat} (h : Nat.blt a b = true) : a < b := by rw [← Nat.blt_eq]; exact h
/-- A slot's value under its guard. -/
def cnd (g : Bool) (v : Value) : Value := bif g then v else undef
/-- A frame with slots written, the last one first: the slot, the guard, the value. -/
def fr (a0 : Act) : List (Nat × Bool × Value) → Act
  | [] => a0
  | p :: L => (fr a0 L).put (some p.1) (cnd p.2.1 p.2.2)
/-- What was written into a slot. -/
def lk : List (Nat × Bool × Value) → Nat → Option (Bool × Value)
  | [], _ => none
  | p :: L, i => bif Nat.beq p.1 i then some p.2 else lk L i
theorem fr_size (a0 : Act) : ∀ L, (fr a0 L).tmps.size = a0.tmps.size
  | [] => rfl
  | p :: L => by
    show ((fr a0 L).tmps.setIfInBounds p.1 (cnd p.2.1 p.2.2)).size = _
    rw [Array.size_setIfInBounds, fr_size a0 L]
theorem ev_fr {a0 : Act} {i : Nat} {g : Bool} {v : Value} : ∀ {L : List (Nat × Bool × Value)}, (∀ p, p ∈ L → p.1 < a0.tmps.size) → lk L i = some (g, v) → (fr a0 L).eval (.tmp i) = cnd g v
  | [], _, h => by cases h
  | p :: L, h, hl => by
    have h1 := h p (List.mem_cons_self ..)
    show ((fr a0 L).tmps.setIfInBounds p.1 (cnd p.2.1 p.2.2)).getD i undef = _
    have hs := fr_size a0 L
    have hl' : (bif Nat.beq p.1 i then some p.2 else lk L i) = some (g, v) := hl
    by_cases e : p.1 = i
    · subst e
      rw [Nat.beq_refl, cond_true] at hl'
      have hp : p.2 = (g, v) := Option.some.inj hl'
      rw [hp, Array.getD_eq_getD_getElem?, Array.getElem?_setIfInBounds_self_of_lt (by omega)]
      rfl
    · have e2 : Nat.beq p.1 i = false := by
        cases hb : Nat.beq p.1 i with
        | false => rfl
        | true => exact absurd (Nat.eq_of_beq_eq_true hb) e
      rw [e2, cond_false] at hl'
      rw [Array.getD_eq_getD_getElem?, Array.getElem?_setIfInBounds_ne e, ← Array.getD_eq_getD_getElem?]
      exact ev_fr (fun q hq => h q (List.mem_cons_of_mem _ hq)) hl'
theorem lk_at {a0 : Act} {L : List (Nat × Bool × Value)} {i : Nat} {g gi : Bool} {v : Value} (hk : ∀ p, p ∈ L → p.1 < a0.tmps.size) (hl : lk L i = some (gi, v)) (hs : g = true → gi = true) (hg : g = true) : (fr a0 L).eval (.tmp i) = v := by
  rw [ev_fr hk hl, hs hg]
  rfl
def nthO : List Oper → Nat → Option Oper
  | [], _ => none
  | o :: _, 0 => some o
  | _ :: t, j + 1 => nthO t j
theorem nthO_is : ∀ (l : List Oper) (j : Nat), l[j]? = nthO l j
  | [], j => by simp [nthO]
  | o :: t, 0 => by simp [nthO]
  | o :: t, j + 1 => by rw [List.getElem?_cons_succ, nthO_is t j]; rfl
/-- The guard of an operation that stands under another one's result. -/
def gdOf (want : Bool) : Option (Bool × Value) → Option Bool
  | some (g0, .bool b) => some (bif want then g0 && b else g0 && !b)
  | _ => none
def gdAt (L : List (Nat × Bool × Value)) (want : Bool) : Option Nat → Option Bool
  | some d => gdOf want (lk L d)
  | none => none
/-- When is an operation wanted? -/
def wtG (l : List Oper) (L : List (Nat × Bool × Value)) : Option (Nat × Bool) → Option Bool
  | none => some true
  | some (j, want) => gdAt L want ((nthO l j).bind (·.dst))
theorem lk_mem : ∀ {L : List (Nat × Bool × Value)} {d : Nat} {q : Bool × Value}, lk L d = some q → ∃ p, p ∈ L ∧ p.1 = d
  | [], _, _, h => by cases h
  | p :: L, d, q, h => by
    by_cases e : p.1 = d
    · exact ⟨p, List.mem_cons_self .., e⟩
    · have e2 : Nat.beq p.1 d = false := by
        cases hb : Nat.beq p.1 d with
        | false => rfl
        | true => exact absurd (Nat.eq_of_beq_eq_true hb) e
      have h' : (bif Nat.beq p.1 d then some p.2 else lk L d) = some q := h
      rw [e2, cond_false] at h'
      obtain ⟨p', h1, h2⟩ := lk_mem h'
      exact ⟨p', List.mem_cons_of_mem _ h1, h2⟩
theorem wt_is {l : List Oper} {a0 : Act} {L : List (Nat × Bool × Value)} {o : Oper} {g : Bool} (hk : ∀ p, p ∈ L → p.1 < a0.tmps.size) (h : wtG l L o.guard = some g) : Region.wanted o (yielded l.toArray (fr a0 L).tmps) = g := by
  unfold Region.wanted
  cases hg : o.guard with
  | none => rw [hg] at h; exact Option.some.inj h
  | some q =>
    obtain ⟨j, want⟩ := q
    rw [hg] at h
    have h0 : gdAt L want ((nthO l j).bind (·.dst)) = some g := h
    cases hd : (nthO l j).bind (·.dst) with
    | none => rw [hd] at h0; cases h0
    | some d =>
      rw [hd] at h0
      have h1 : gdOf want (lk L d) = some g := h0
      cases hl : lk L d with
      | none => rw [hl] at h1; cases h1
      | some q =>
        obtain ⟨g0, v⟩ := q
        rw [hl] at h1
        cases v with
        | bool b =>
          have h2 : (bif want then g0 && b else g0 && !b) = g := Option.some.inj h1
          obtain ⟨p, hp, hpd⟩ := lk_mem hl
          have h5 : d < (fr a0 L).tmps.size := by rw [fr_size, ← hpd]; exact hk p hp
          have hv : (fr a0 L).tmps[d]? = some (cnd g0 (.bool b)) := by
            have h4 : (fr a0 L).tmps.getD d undef = cnd g0 (.bool b) := ev_fr hk hl
            rw [Array.getElem?_eq_getElem h5]
            rw [Array.getD_eq_getD_getElem?, Array.getElem?_eq_getElem h5] at h4
            exact congrArg some h4
          show (yielded l.toArray (fr a0 L).tmps j == some want) = _
          unfold yielded
          rw [List.getElem?_toArray, nthO_is, hd]
          show ((match (fr a0 L).tmps[d]? with | some (.bool b) => some b | _ => none) == some want) = _
          rw [hv, ← h2]
          cases g0
          · cases want <;> rfl
          · cases b <;> cases want <;> rfl
        | _ => cases h1
section
variable {P : Program} {l : List Oper} {Q : Exit → Act → World → Prop} {rest : List Oper} {a0 : Act} {L : List (Nat × Bool × Value)} {w : World}
/-- The operations that are left, over a frame so written. -/
structure FL (P : Program) (l : List Oper) (Q : Exit → Act → World → Prop) (rest : List Oper) (a0 : Act) (L : List (Nat × Bool × Value)) (w : World) : Prop where
  go : (∀ p, p ∈ L → p.1 < a0.tmps.size) → wpList P l.toArray Q rest (fr a0 L) w
theorem fl_start (h : FL P l Q rest a0 [] w) : wpList P l.toArray Q rest a0 w := h.go fun p hp => by cases hp
theorem fl_know {i n : Nat} {v : Value} (hn : a0.tmps.size = n) (hi : Nat.blt i n = true) (hv : (fr a0 L).eval (.tmp i) = v) (h : FL P l Q rest a0 ((i, true, v) :: L) w) : FL P l Q rest a0 L w := by
  refine ⟨fun hk => ?_⟩
  have hi' : i < a0.tmps.size := by rw [hn]; exact blt_lt hi
  have h2 := h.go (fun p hp => by
    rcases List.mem_cons.1 hp with e | e
    · rw [e]; exact hi'
    · exact hk p e)
  have e : fr a0 ((i, true, v) :: L) = fr a0 L := by
    show (fr a0 L).put (some i) v = fr a0 L
    have h5 : i < (fr a0 L).tmps.size := by rw [fr_size]; exact hi'
    have h4 : (fr a0 L).tmps.getD i undef = v := hv
    rw [Array.getD_eq_getD_getElem?, Array.getElem?_eq_getElem h5] at h4
    have h6 : (fr a0 L).tmps.setIfInBounds i v = (fr a0 L).tmps := by
      apply Array.ext (by simp)
      intro j h1 h2
      by_cases e : i = j
      · subst e
        rw [Array.getElem_setIfInBounds_self]
        exact h4.symm
      · rw [Array.getElem_setIfInBounds_ne _ e]
    show ({ fr a0 L with tmps := (fr a0 L).tmps.setIfInBounds i v } : Act) = fr a0 L
    rw [h6]
  rw [e] at h2
  exact h2
theorem fl_end (h : Q .normal (fr a0 L) w) : FL P l Q [] a0 L w := ⟨fun _ => h⟩
theorem fl_endb {d : Nat} {g b c : Bool} (e : b = c) (h : Q .normal (fr a0 ((d, g, .bool c) :: L)) w) : FL P l Q [] a0 ((d, g, .bool b) :: L) w := by
  subst e
  exact ⟨fun _ => h⟩
theorem fl_op {o : Oper} {d n : Nat} {g : Bool} {v : Value} (hn : a0.tmps.size = n) (ho : o.dst = some d) (hd : Nat.blt d n = true) (hw : wtG l L o.guard = some g)
    (hr : (∀ p, p ∈ L → p.1 < a0.tmps.size) → g = true → (execOp (fr a0 L).eval o).run P w = .ok (.value v) w) (h : FL P l Q rest a0 ((d, g, v) :: L) w) : FL P l Q (o :: rest) a0 L w := by
  refine ⟨fun hk => ?_⟩
  have h2 : wpList P l.toArray Q rest ((fr a0 L).put (some d) (cnd g v)) w := h.go (fun p hp => by
    rcases List.mem_cons.1 hp with e | e
    · rw [e, hn]; exact blt_lt hd
    · exact hk p e)
  refine wpList_step fun K hK => ?_
  rw [wt_is hk hw]
  cases g with
  | false => exact hK _ _ (by rw [ho]; exact h2)
  | true =>
    show o.wp P (fr a0 L) w K Q
    unfold Oper.wp
    rw [hr hk rfl]
    exact hK _ _ (by rw [ho]; exact h2)
theorem fl_callq {o : Oper} {d n : Nat} {g : Bool} {v : Value} {f : FuncId} {args : Array Value} (hn : a0.tmps.size = n) (ho : o.dst = some d) (hd : Nat.blt d n = true) (hw : wtG l L o.guard = some g)
    (hr : (∀ p, p ∈ L → p.1 < a0.tmps.size) → g = true → (execOp (fr a0 L).eval o).run P w = .ok (.enter f args) w) (hc : g = true → Calls P f args w fun e w' => e = .returned v ∧ w = w') (h : FL P l Q rest a0 ((d, g, v) :: L) w) : FL P l Q (o :: rest) a0 L w := by
  refine ⟨fun hk => ?_⟩
  have h2 : wpList P l.toArray Q rest ((fr a0 L).put (some d) (cnd g v)) w := h.go (fun p hp => by
    rcases List.mem_cons.1 hp with e | e
    · rw [e, hn]; exact blt_lt hd
    · exact hk p e)
  refine wpList_step fun K hK => ?_
  rw [wt_is hk hw]
  cases g with
  | false => exact hK _ _ (by rw [ho]; exact h2)
  | true =>
    show o.wp P (fr a0 L) w K Q
    unfold Oper.wp
    rw [hr hk rfl, Oper.upon_enter]
    refine (hc rfl).mono ?_
    rintro e w' ⟨rfl, rfl⟩
    exact hK _ _ (by rw [ho]; exact h2)
theorem fl_move {i d n : Nat} {ty : TypeId} {p : String} {af : Array Edge} {gd : Option (Nat × Bool)} {g gi : Bool} {v : Value} (hn : a0.tmps.size = n) (hd : Nat.blt d n = true) (hw : wtG l L gd = some g) (hl : lk L i = some (gi, v)) (hs : g = true → gi = true)
    (h : FL P l Q rest a0 ((d, g, v) :: L) w) : FL P l Q (⟨some d, .move (.tmp i), ty, p, af, gd⟩ :: rest) a0 L w :=
  fl_op hn rfl hd hw (fun hk hg => by show Result.ok (Next.value ((fr a0 L).eval (.tmp i))) w = _; rw [lk_at hk hl hs hg]) h
theorem fl_not {i d n : Nat} {ty ty' : TypeId} {p : String} {af : Array Edge} {gd : Option (Nat × Bool)} {g gi b : Bool} (hn : a0.tmps.size = n) (hd : Nat.blt d n = true) (hw : wtG l L gd = some g) (hl : lk L i = some (gi, (.bool b))) (hs : g = true → gi = true)
    (h : FL P l Q rest a0 ((d, g, (.bool !b)) :: L) w) : FL P l Q (⟨some d, .unOp .not ty' (.tmp i), ty, p, af, gd⟩ :: rest) a0 L w :=
  fl_op hn rfl hd hw (fun hk hg => by
    have e := lk_at hk hl hs hg
    unfold execOp
    dsimp only
    rw [e]
    rfl) h
theorem fl_or {c i d n : Nat} {ty : TypeId} {p : String} {af : Array Edge} {gd : Option (Nat × Bool)} {g gc gi b b2 : Bool} (hn : a0.tmps.size = n) (hd : Nat.blt d n = true) (hw : wtG l L gd = some g) (hc : lk L c = some (gc, (.bool b))) (hs : g = true → gc = true) (hl : lk L i = some (gi, (.bool b2))) (hs2 : g = true → b = false → gi = true)
    (h : FL P l Q rest a0 ((d, g, (.bool (b || b2))) :: L) w) : FL P l Q (⟨some d, .pick (.tmp c) (.const (.bool true)) (.tmp i), ty, p, af, gd⟩ :: rest) a0 L w :=
  fl_op hn rfl hd hw (fun hk hg => by
    have e := lk_at hk hc hs hg
    unfold execOp
    dsimp only
    rw [e]
    cases b with
    | true => rfl
    | false =>
      have e2 := lk_at hk hl (fun _ => hs2 hg rfl) hg
      rw [e2]
      rfl) h
theorem fl_and {c i d n : Nat} {ty : TypeId} {p : String} {af : Array Edge} {gd : Option (Nat × Bool)} {g gc gi b b2 : Bool} (hn : a0.tmps.size = n) (hd : Nat.blt d n = true) (hw : wtG l L gd = some g) (hc : lk L c = some (gc, (.bool b))) (hs : g = true → gc = true) (hl : lk L i = some (gi, (.bool b2))) (hs2 : g = true → b = true → gi = true)
    (h : FL P l Q rest a0 ((d, g, (.bool (b && b2))) :: L) w) : FL P l Q (⟨some d, .pick (.tmp c) (.tmp i) (.const (.bool false)), ty, p, af, gd⟩ :: rest) a0 L w :=
  fl_op hn rfl hd hw (fun hk hg => by
    have e := lk_at hk hc hs hg
    unfold execOp
    dsimp only
    rw [e]
    cases b with
    | false => rfl
    | true =>
      have e2 := lk_at hk hl (fun _ => hs2 hg rfl) hg
      rw [e2]
      rfl) h
theorem fl_load {i d n : Nat} {t ty : TypeId} {p : String} {af : Array Edge} {gd : Option (Nat × Bool)} {g gi : Bool} {ad : Addr} {v : Value} (hn : a0.tmps.size = n) (hd : Nat.blt d n = true) (hw : wtG l L gd = some g) (hl : lk L i = some (gi, (.pointer (some ad)))) (hs : g = true → gi = true) (hr : (Instr.loadAt t (.pointer (some ad))).run P w = .ok v w)
    (h : FL P l Q rest a0 ((d, g, v) :: L) w) : FL P l Q (⟨some d, .load t (.tmp i), ty, p, af, gd⟩ :: rest) a0 L w :=
  fl_op hn rfl hd hw (fun hk hg => by
    have e := lk_at hk hl hs hg
    unfold execOp
    dsimp only
    rw [e, Sem.run_bind, hr]
    rfl) h
theorem fl_field {i f d n : Nat} {t ty : TypeId} {p : String} {af : Array Edge} {gd : Option (Nat × Bool)} {g gi : Bool} {ad ad' : Addr} (hn : a0.tmps.size = n) (hd : Nat.blt d n = true) (hw : wtG l L gd = some g) (hl : lk L i = some (gi, (.pointer (some ad)))) (hs : g = true → gi = true) (hr : (Instr.fieldAt t (.pointer (some ad)) f).run P w = .ok (.pointer (some ad')) w)
    (h : FL P l Q rest a0 ((d, g, (.pointer (some ad'))) :: L) w) : FL P l Q (⟨some d, .fieldAddr t (.tmp i) f, ty, p, af, gd⟩ :: rest) a0 L w :=
  fl_op hn rfl hd hw (fun hk hg => by
    have e := lk_at hk hl hs hg
    unfold execOp
    dsimp only
    rw [e, Sem.run_bind, hr]
    rfl) h
theorem fl_build0 {d n : Nat} {t ty : TypeId} {p : String} {af : Array Edge} {gd : Option (Nat × Bool)} {g : Bool} {v : Value} (hn : a0.tmps.size = n) (hd : Nat.blt d n = true) (hw : wtG l L gd = some g) (hr : (Instr.build t #[]).run P w = .ok v w)
    (h : FL P l Q rest a0 ((d, g, v) :: L) w) : FL P l Q (⟨some d, .build t #[], ty, p, af, gd⟩ :: rest) a0 L w :=
  fl_op hn rfl hd hw (fun _ _ => by
    unfold execOp
    dsimp only
    simp only [List.map_toArray, List.map_nil]
    rw [Sem.run_bind, hr]
    rfl) h
theorem fl_bin {op : BinOp} {i j d n : Nat} {t ty ty2 : TypeId} {p : String} {af : Array Edge} {gd : Option (Nat × Bool)} {g gi gj : Bool} {vi vj v : Value} (hn : a0.tmps.size = n) (hd : Nat.blt d n = true) (hw : wtG l L gd = some g) (hl : lk L i = some (gi, vi)) (hs : g = true → gi = true) (hl2 : lk L j = some (gj, vj)) (hs2 : g = true → gj = true)
    (hr : ((do eqGuard op t (.tmp i) (.tmp j) vi vj; binOp op t vi vj) : Sem Value).run P w = .ok v w)
    (h : FL P l Q rest a0 ((d, g, v) :: L) w) : FL P l Q (⟨some d, .binOp op t (.tmp i) (.tmp j) ty2, ty, p, af, gd⟩ :: rest) a0 L w :=
  fl_op hn rfl hd hw (fun hk hg => by
    have e := lk_at hk hl hs hg
    have e2 := lk_at hk hl2 hs2 hg
    unfold execOp
    dsimp only
    rw [e, e2, Sem.run_bind, hr]
    rfl) h
theorem and_l {a b : Bool} (h : (a && b) = true) : a = true := by cases a <;> simp_all
end
/-! Over the seat's program: comparisons of numbers, lengths, calls. -/
section
variable {l : List Oper} {Q : Exit → Act → World → Prop} {rest : List Oper} {a0 : Act} {L : List (Nat × Bool × Value)} {w : World}
theorem bin_neq (d : Option Tmp) (x y : Operand) (ty ty2 : TypeId) (p : String) (af : Array Edge) (gd : Option (Nat × Bool)) (ρ : Operand → Value) (m k : Int) (h1 : ρ x = .int .i64 m) (h2 : ρ y = .int .i64 k) : (execOp ρ ⟨d, .binOp .neq 3 x y ty2, ty, p, af, gd⟩).run Try.prog w = .ok (.value (.bool (m != k))) w := by
  unfold execOp
  dsimp only
  rw [h1, h2]
  go_simp
theorem fl_neq {i d n : Nat} {m k : Int} {ty ty2 : TypeId} {p : String} {af : Array Edge} {gd : Option (Nat × Bool)} {g gi : Bool} (hn : a0.tmps.size = n) (hd : Nat.blt d n = true) (hw : wtG l L gd = some g) (hl : lk L i = some (gi, (.int .i64 m))) (hs : g = true → gi = true)
    (h : FL Try.prog l Q rest a0 ((d, g, (.bool (m != k))) :: L) w) : FL Try.prog l Q (⟨some d, .binOp .neq 3 (.tmp i) (.const (.int .i64 k)) ty2, ty, p, af, gd⟩ :: rest) a0 L w :=
  fl_op hn rfl hd hw (fun hk hg => bin_neq _ _ _ _ _ _ _ _ _ m k (lk_at hk hl hs hg) rfl) h
theorem fl_neq2 {i j d n : Nat} {m k : Int} {ty ty2 : TypeId} {p : String} {af : Array Edge} {gd : Option (Nat × Bool)} {g gi gj : Bool} (hn : a0.tmps.size = n) (hd : Nat.blt d n = true) (hw : wtG l L gd = some g) (hl : lk L i = some (gi, (.int .i64 m))) (hs : g = true → gi = true) (hl2 : lk L j = some (gj, (.int .i64 k))) (hs2 : g = true → gj = true)
    (h : FL Try.prog l Q rest a0 ((d, g, (.bool (m != k))) :: L) w) : FL Try.prog l Q (⟨some d, .binOp .neq 3 (.tmp i) (.tmp j) ty2, ty, p, af, gd⟩ :: rest) a0 L w :=
  fl_op hn rfl hd hw (fun hk hg => bin_neq _ _ _ _ _ _ _ _ _ m k (lk_at hk hl hs hg) (lk_at hk hl2 hs2 hg)) h
theorem bin_eql (d : Option Tmp) (x y : Operand) (ty ty2 : TypeId) (p : String) (af : Array Edge) (gd : Option (Nat × Bool)) (ρ : Operand → Value) (m k : Int) (h1 : ρ x = .int .i64 m) (h2 : ρ y = .int .i64 k) : (execOp ρ ⟨d, .binOp .eql 3 x y ty2, ty, p, af, gd⟩).run Try.prog w = .ok (.value (.bool (m == k))) w := by
  unfold execOp
  dsimp only
  rw [h1, h2]
  go_simp
theorem fl_eql {i d n : Nat} {m k : Int} {ty ty2 : TypeId} {p : String} {af : Array Edge} {gd : Option (Nat × Bool)} {g gi : Bool} (hn : a0.tmps.size = n) (hd : Nat.blt d n = true) (hw : wtG l L gd = some g) (hl : lk L i = some (gi, (.int .i64 m))) (hs : g = true → gi = true)
    (h : FL Try.prog l Q rest a0 ((d, g, (.bool (m == k))) :: L) w) : FL Try.prog l Q (⟨some d, .binOp .eql 3 (.tmp i) (.const (.int .i64 k)) ty2, ty, p, af, gd⟩ :: rest) a0 L w :=
  fl_op hn rfl hd hw (fun hk hg => bin_eql _ _ _ _ _ _ _ _ _ m k (lk_at hk hl hs hg) rfl) h
theorem fl_eql2 {i j d n : Nat} {m k : Int} {ty ty2 : TypeId} {p : String} {af : Array Edge} {gd : Option (Nat × Bool)} {g gi gj : Bool} (hn : a0.tmps.size = n) (hd : Nat.blt d n = true) (hw : wtG l L gd = some g) (hl : lk L i = some (gi, (.int .i64 m))) (hs : g = true → gi = true) (hl2 : lk L j = some (gj, (.int .i64 k))) (hs2 : g = true → gj = true)
    (h : FL Try.prog l Q rest a0 ((d, g, (.bool (m == k))) :: L) w) : FL Try.prog l Q (⟨some d, .binOp .eql 3 (.tmp i) (.tmp j) ty2, ty, p, af, gd⟩ :: rest) a0 L w :=
  fl_op hn rfl hd hw (fun hk hg => bin_eql _ _ _ _ _ _ _ _ _ m k (lk_at hk hl hs hg) (lk_at hk hl2 hs2 hg)) h
theorem bin_gtr (d : Option Tmp) (x y : Operand) (ty ty2 : TypeId) (p : String) (af : Array Edge) (gd : Option (Nat × Bool)) (ρ : Operand → Value) (m k : Int) (h1 : ρ x = .int .i64 m) (h2 : ρ y = .int .i64 k) : (execOp ρ ⟨d, .binOp .gtr 3 x y ty2, ty, p, af, gd⟩).run Try.prog w = .ok (.value (.bool (decide (k < m)))) w := by
  unfold execOp
  dsimp only
  rw [h1, h2]
  go_simp
theorem fl_gtr {i d n : Nat} {m k : Int} {ty ty2 : TypeId} {p : String} {af : Array Edge} {gd : Option (Nat × Bool)} {g gi : Bool} (hn : a0.tmps.size = n) (hd : Nat.blt d n = true) (hw : wtG l L gd = some g) (hl : lk L i = some (gi, (.int .i64 m))) (hs : g = true → gi = true)
    (h : FL Try.prog l Q rest a0 ((d, g, (.bool (decide (k < m)))) :: L) w) : FL Try.prog l Q (⟨some d, .binOp .gtr 3 (.tmp i) (.const (.int .i64 k)) ty2, ty, p, af, gd⟩ :: rest) a0 L w :=
  fl_op hn rfl hd hw (fun hk hg => bin_gtr _ _ _ _ _ _ _ _ _ m k (lk_at hk hl hs hg) rfl) h
theorem fl_gtr2 {i j d n : Nat} {m k : Int} {ty ty2 : TypeId} {p : String} {af : Array Edge} {gd : Option (Nat × Bool)} {g gi gj : Bool} (hn : a0.tmps.size = n) (hd : Nat.blt d n = true) (hw : wtG l L gd = some g) (hl : lk L i = some (gi, (.int .i64 m))) (hs : g = true → gi = true) (hl2 : lk L j = some (gj, (.int .i64 k))) (hs2 : g = true → gj = true)
    (h : FL Try.prog l Q rest a0 ((d, g, (.bool (decide (k < m)))) :: L) w) : FL Try.prog l Q (⟨some d, .binOp .gtr 3 (.tmp i) (.tmp j) ty2, ty, p, af, gd⟩ :: rest) a0 L w :=
  fl_op hn rfl hd hw (fun hk hg => bin_gtr _ _ _ _ _ _ _ _ _ m k (lk_at hk hl hs hg) (lk_at hk hl2 hs2 hg)) h
theorem bin_leq (d : Option Tmp) (x y : Operand) (ty ty2 : TypeId) (p : String) (af : Array Edge) (gd : Option (Nat × Bool)) (ρ : Operand → Value) (m k : Int) (h1 : ρ x = .int .i64 m) (h2 : ρ y = .int .i64 k) : (execOp ρ ⟨d, .binOp .leq 3 x y ty2, ty, p, af, gd⟩).run Try.prog w = .ok (.value (.bool (decide (m ≤ k)))) w := by
  unfold execOp
  dsimp only
  rw [h1, h2]
  go_simp
theorem fl_leq {i d n : Nat} {m k : Int} {ty ty2 : TypeId} {p : String} {af : Array Edge} {gd : Option (Nat × Bool)} {g gi : Bool} (hn : a0.tmps.size = n) (hd : Nat.blt d n = true) (hw : wtG l L gd = some g) (hl : lk L i = some (gi, (.int .i64 m))) (hs : g = true → gi = true)
    (h : FL Try.prog l Q rest a0 ((d, g, (.bool (decide (m ≤ k)))) :: L) w) : FL Try.prog l Q (⟨some d, .binOp .leq 3 (.tmp i) (.const (.int .i64 k)) ty2, ty, p, af, gd⟩ :: rest) a0 L w :=
  fl_op hn rfl hd hw (fun hk hg => bin_leq _ _ _ _ _ _ _ _ _ m k (lk_at hk hl hs hg) rfl) h
theorem fl_leq2 {i j d n : Nat} {m k : Int} {ty ty2 : TypeId} {p : String} {af : Array Edge} {gd : Option (Nat × Bool)} {g gi gj : Bool} (hn : a0.tmps.size = n) (hd : Nat.blt d n = true) (hw : wtG l L gd = some g) (hl : lk L i = some (gi, (.int .i64 m))) (hs : g = true → gi = true) (hl2 : lk L j = some (gj, (.int .i64 k))) (hs2 : g = true → gj = true)
    (h : FL Try.prog l Q rest a0 ((d, g, (.bool (decide (m ≤ k)))) :: L) w) : FL Try.prog l Q (⟨some d, .binOp .leq 3 (.tmp i) (.tmp j) ty2, ty, p, af, gd⟩ :: rest) a0 L w :=
  fl_op hn rfl hd hw (fun hk hg => bin_leq _ _ _ _ _ _ _ _ _ m k (lk_at hk hl hs hg) (lk_at hk hl2 hs2 hg)) h
theorem call3_is {f : FuncId} (he : ∀ args w, (callFunc f args).run Try.prog w = .ok (.enter f args) w) (d : Option Tmp) (x y z : Operand) (ts : Array TypeId) (ty : TypeId) (p : String) (af : Array Edge) (gd : Option (Nat × Bool)) (ρ : Operand → Value) (u v t : Value) (h1 : ρ x = u) (h2 : ρ y = v) (h3 : ρ z = t) (hf : ρ (.func f) = .func (.func f) #[] #[]) : (execOp ρ ⟨d, .call { callee := .value (.func f), args := #[x, y, z], argTypes := ts }, ty, p, af, gd⟩).run Try.prog w = .ok (.enter f #[u, v, t]) w := by
  unfold execOp
  dsimp only
  go_simp

theorem fl_callc {f : FuncId} {i d n : Nat} {v c1 c2 r : Value} {ts : Array TypeId} {ty : TypeId} {p : String} {af : Array Edge} {gd : Option (Nat × Bool)} {g gi : Bool} (he : ∀ args w, (callFunc f args).run Try.prog w = .ok (.enter f args) w) (hn : a0.tmps.size = n) (hd : Nat.blt d n = true) (hw : wtG l L gd = some g) (hl : lk L i = some (gi, v)) (hs : g = true → gi = true)
    (hc : Calls Try.prog f #[v, c1, c2] w fun e w' => e = .returned r ∧ w = w') (h : FL Try.prog l Q rest a0 ((d, g, r) :: L) w) : FL Try.prog l Q (⟨some d, .call { callee := .value (.func f), args := #[.tmp i, .const c1, .const c2], argTypes := ts }, ty, p, af, gd⟩ :: rest) a0 L w :=
  fl_callq hn rfl hd hw (fun hk hg => call3_is he _ _ _ _ _ _ _ _ _ _ v c1 c2 (lk_at hk hl hs hg) rfl rfl rfl) (fun _ => hc) h
theorem fl_callt {f : FuncId} {i j d n : Nat} {v c1 c2 r : Value} {ts : Array TypeId} {ty : TypeId} {p : String} {af : Array Edge} {gd : Option (Nat × Bool)} {g gi gj : Bool} (he : ∀ args w, (callFunc f args).run Try.prog w = .ok (.enter f args) w) (hn : a0.tmps.size = n) (hd : Nat.blt d n = true) (hw : wtG l L gd = some g) (hl : lk L i = some (gi, v)) (hs : g = true → gi = true) (hl2 : lk L j = some (gj, c2)) (hs2 : g = true → gj = true)
    (hc : Calls Try.prog f #[v, c1, c2] w fun e w' => e = .returned r ∧ w = w') (h : FL Try.prog l Q rest a0 ((d, g, r) :: L) w) : FL Try.prog l Q (⟨some d, .call { callee := .value (.func f), args := #[.tmp i, .const c1, .tmp j], argTypes := ts }, ty, p, af, gd⟩ :: rest) a0 L w :=
  fl_callq hn rfl hd hw (fun hk hg => call3_is he _ _ _ _ _ _ _ _ _ _ v c1 c2 (lk_at hk hl hs hg) rfl (lk_at hk hl2 hs2 hg) rfl) (fun _ => hc) h
theorem load_int {ad : Addr} {v : Value} (h : w.cell? ad = some v) : (Instr.loadAt 3 (.pointer (some ad))).run Try.prog w = .ok v w := by go_simp
theorem load_bool {ad : Addr} {v : Value} (h : w.cell? ad = some v) : (Instr.loadAt 4 (.pointer (some ad))).run Try.prog w = .ok v w := by go_simp
theorem len_is (d : Option Tmp) (x : Operand) (ts : Array TypeId) (ty : TypeId) (p : String) (af : Array Edge) (gd : Option (Nat × Bool)) (ρ : Operand → Value) (A : Option Addr) (n c : Nat) (h1 : ρ x = .slice A n c) (hr : (Builtin.len_ ts ty #[.slice A n c]).run Try.prog w = .ok (.int .i64 n) w) : (execOp ρ ⟨d, .call { callee := .builtin .len, args := #[x], argTypes := ts }, ty, p, af, gd⟩).run Try.prog w = .ok (.value (.int .i64 n)) w := by
  unfold execOp
  dsimp only
  go_simp
theorem fl_len {i d n m c : Nat} {A : Option Addr} {ts : Array TypeId} {ty : TypeId} {p : String} {af : Array Edge} {gd : Option (Nat × Bool)} {g gi : Bool} (hn : a0.tmps.size = n) (hd : Nat.blt d n = true) (hw : wtG l L gd = some g) (hl : lk L i = some (gi, (.slice A m c))) (hs : g = true → gi = true) (hr : (Builtin.len_ ts ty #[.slice A m c]).run Try.prog w = .ok (.int .i64 m) w)
    (h : FL Try.prog l Q rest a0 ((d, g, (.int .i64 m)) :: L) w) : FL Try.prog l Q (⟨some d, .call { callee := .builtin .len, args := #[.tmp i], argTypes := ts }, ty, p, af, gd⟩ :: rest) a0 L w :=
  fl_op hn rfl hd hw (fun hk hg => len_is _ _ _ _ _ _ _ _ A m c (lk_at hk hl hs hg) hr) h
end
end Go.Proofs.Ytokkmofcijfmiab
