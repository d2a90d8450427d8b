/-
  WHAT IS PROVED: words for slices of bytes (own work): a slice that reads as a list of bytes, nil let in; one that the call owns; append of such a slice onto such a row, in a plain region and in one that draws its order. Over any program that bears the types named.
-/
import Derived.Test.YtokkmofcijfmiabBase
import Derived.Test.YtokkmofcijfmiabGQ0
import Derived.Test.YtokkmofcijfmiabStrs
import Derived.Maps.AppendAt
import Derived.Deep.AppendLies
import Derived.RegionTactic
import Derived.OwnWalk
import Derived.Deep.Draws
namespace Go.Proofs.Ytokkmofcijfmiab
open Go.RowKit

/-- The cells of bytes. -/
abbrev bytV (l : List UInt8) : List Value := l.map fun c => Value.int .u8 (c.toNat : Int)
/-- The slice at A reads as the bytes l, in blocks below B. -/
def RdB (B : Nat) (W : World) (A : Option Addr) (l : List UInt8) : Prop :=
  ∀ k x, l[k]? = some x → ∃ ad, A = some ad ∧ ad.block < B ∧ W.cell? (ad.add k) = some (.int .u8 (x.toNat : Int))
theorem RdB.nil (B : Nat) (W : World) (A : Option Addr) : RdB B W A [] := fun k x h => by simp at h
theorem RdB.keep {B C : Nat} {W W' : World} {A : Option Addr} {l : List UInt8} (h : RdB B W A l) (hb : Below C W W') (hBC : B ≤ C) : RdB B W' A l := by
  intro k x hx
  obtain ⟨ad, hA, hl, hc⟩ := h k x hx
  exact ⟨ad, hA, hl, (hb.cell (by rw [add_block]; omega)).trans hc⟩
theorem RdB.more {B C : Nat} {W : World} {A : Option Addr} {l : List UInt8} (h : RdB B W A l) (hBC : B ≤ C) : RdB C W A l := by
  intro k x hx
  obtain ⟨ad, hA, hl, hc⟩ := h k x hx
  exact ⟨ad, hA, by omega, hc⟩
theorem RdB.draws {B : Nat} {W : World} {A : Option Addr} {l : List UInt8} (h : RdB B W A l) (n : Nat) : RdB B (W.drewN n) A l := h
theorem RdB.at_ {B : Nat} {W : World} {A : Option Addr} {l : List UInt8} (h : RdB B W A l) {k : Nat} (hk : k < l.length) : ∃ ad, A = some ad ∧ ad.block < B ∧ W.cell? (ad.add k) = some (.int .u8 (l[k].toNat : Int)) :=
  h k _ (List.getElem?_eq_getElem hk)
theorem RdB.take {B : Nat} {W : World} {A : Option Addr} {l : List UInt8} (h : RdB B W A l) (m : Nat) : RdB B W A (l.take m) := by
  intro k x hx
  rw [List.getElem?_take] at hx
  split at hx
  · exact h k x hx
  · cases hx
/-- .. cut off at its front, as the model has it. -/
theorem RdB.drop {B : Nat} {W : World} {A : Option Addr} {l : List UInt8} (h : RdB B W A l) {m c : Nat} (hc : l.length ≤ c) : RdB B W (if c = m then A else A.map (·.add m)) (l.drop m) := by
  intro k x hx
  rw [List.getElem?_drop] at hx
  have hlt := (List.getElem?_eq_some_iff.1 hx).1
  obtain ⟨ad, rfl, hl, hcell⟩ := h _ x hx
  rw [if_neg (by omega)]
  exact ⟨ad.add m, rfl, by rw [add_block]; exact hl, by rw [add_add']; exact hcell⟩

theorem RdB.grown {B : Nat} {W W' : World} {A : Option Addr} {l : List UInt8} {row : Option Nat} (h : RdB B W A l) (hg : W.grownBy W' row) (hB : B ≤ W.heap.size) (hne : ∀ a, A = some a → some a.block ≠ row) : RdB B W' A l := by
  intro k x hx
  obtain ⟨ad, hA, hl, hc⟩ := h k x hx
  exact ⟨ad, hA, hl, (hg.cell_far _ (by rw [add_block]; omega) (by rw [add_block]; exact hne ad hA)).trans hc⟩
/-- A row of bytes that the call owns, in blocks from base on. -/
def OwnB (base : Nat) (W : World) (A : Option Addr) (n c : Nat) (l : List UInt8) : Prop := W.ownsRow base 5 1 (.slice A n c) n (bytV l)
theorem OwnB.nil (base : Nat) (W : World) : OwnB base W none 0 0 [] := World.ownsRow_nil W base 5 1
theorem OwnB.len {base : Nat} {W : World} {A : Option Addr} {n c : Nat} {l : List UInt8} (h : OwnB base W A n c l) : l.length = n := by
  have := h.1
  simpa using this
theorem OwnB.rd {base : Nat} {W : World} {A : Option Addr} {n c : Nat} {l : List UInt8} (h : OwnB base W A n c l) : RdB W.heap.size W A l := by
  intro k x hx
  have hk := (List.getElem?_eq_some_iff.1 hx).1
  have hl := h.len
  obtain ⟨g, cap, hv, _, hlt⟩ := World.ownsRow.form h (by omega)
  injection hv with hv
  subst hv
  exact ⟨_, rfl, hlt, h.cells (g := g) rfl k _ (by rw [List.getElem?_map, hx]; rfl)⟩
theorem OwnB.cap {base : Nat} {W : World} {A : Option Addr} {n c : Nat} {l : List UInt8} (h : OwnB base W A n c l) : n ≤ c ∧ c ≤ maxLen := by
  rcases h.2 with ⟨hv, _⟩ | ⟨g, cap, cur, hv, _, _, h1, h2, _⟩
  · injection hv with _ h1 h2
    subst h2
    rw [h1]
    exact ⟨Nat.le_refl _, Nat.zero_le _⟩
  · injection hv with _ _ h3
    subst h3
    exact ⟨h1, h2⟩
theorem OwnB.blk {base : Nat} {W : World} {A : Option Addr} {n c : Nat} {l : List UInt8} (h : OwnB base W A n c l) {a : Addr} (ha : A = some a) : base ≤ a.block ∧ a.block < W.heap.size := by
  subst ha
  exact World.ownsRow.lt h a.block rfl
theorem OwnB.keep {base : Nat} {W W' : World} {A : Option Addr} {n c : Nat} {l : List UInt8} (h : OwnB base W A n c l) (hb : Below W.heap.size W W') : OwnB base W' A n c l :=
  World.ownsRow.kept h (row := none) ⟨hb.os, hb.tape, hb.output, hb.size, fun k hk _ => hb.block k hk⟩ (by cases A <;> simp [Value.ownBlock])
theorem OwnB.draws {base : Nat} {W : World} {A : Option Addr} {n c : Nat} {l : List UInt8} (h : OwnB base W A n c l) (k : Nat) : OwnB base (W.drewN k) A n c l := h
theorem OwnB.less {base b2 : Nat} {W : World} {A : Option Addr} {n c : Nat} {l : List UInt8} (h : OwnB base W A n c l) (hb : b2 ≤ base) : OwnB b2 W A n c l := by
  refine ⟨h.1, ?_⟩
  rcases h.2 with h | ⟨g, cap, cur, h1, h2, h3⟩
  · exact .inl h
  · exact .inr ⟨g, cap, cur, h1, by omega, h3⟩
/-- A literal's row. -/
theorem OwnB.lit (W : World) {base n : Nat} (cs : Array Value) (l : List UInt8) (hcs : cs.toList = bytV l) (hn : l.length = n) (hb : base ≤ W.heap.size) (hm : n ≤ maxLen) : OwnB base (W.alloc (.cells cs 5)) (some ⟨W.heap.size, 0, none⟩) n n l := by
  subst hn
  unfold OwnB
  rw [← hcs]
  exact World.ownsRow_lit W cs l.length hb hm (by rw [← Array.length_toList, hcs]; simp)

theorem OwnB.drew_ {base : Nat} {W : World} {A : Option Addr} {n c : Nat} {l : List UInt8} (h : OwnB base W A n c l) : OwnB base W.drew A n c l := h
theorem RdB.drew_ {B : Nat} {W : World} {A : Option Addr} {l : List UInt8} (h : RdB B W A l) : RdB B W.drew A l := h
/-- One byte in a block of its own. -/
theorem rdOneB (w : World) (x : UInt8) (g : Nat) (h : w.heap.size = g) : RdB (g + 1) (w.alloc (.cells #[.int .u8 (x.toNat : Int)] 5)) (some ⟨g, 0, none⟩) [x] := by
  subst h
  intro k y hy
  have hk : k = 0 := by
    have := (List.getElem?_eq_some_iff.1 hy).1
    simp at this
    omega
  subst hk
  injection hy with hy
  subst hy
  exact ⟨_, rfl, by simp, cell_one_new w (.int .u8 (x.toNat : Int)) 5 0 _ rfl⟩
theorem rdNowB {H : Nat} {W w' : World} {A : Option Addr} {l : List UInt8} {p : Addr} {v : Value} (h : RdB H W A l) (hS : w'.cell? p = some v ∧ Below H W w') : RdB H w' A l := h.keep hS.2 (Nat.le_refl _)
theorem szNowB {H : Nat} {W w' : World} {p : Addr} {v : Value} (hS : w'.cell? p = some v ∧ Below H W w') : W.heap.size ≤ w'.heap.size := hS.2.size
theorem byt_info : (Try.prog.info? 5).map (fun i => (i.zero, i.size, i.bytes)) = some (some (.int .u8 0), 1, 1) := by kernel_rfl

theorem byts_one (l : List UInt8) : ∀ u ∈ bytV l, u.oneCell' = true := by
  intro u hu
  obtain ⟨x, _, rfl⟩ := List.mem_map.1 hu
  rfl
/-- Append of what reads as bytes onto a row of the call's own. -/
theorem run_apB {P : Program} (w : World) {t t' e' ty : TypeId} {i : TypeInfo} (ht : P.underlying t = some (.slice 5)) (ht' : P.underlying t' = some (.slice e')) (hi : P.info? 5 = some i) (hz : i.zero = some (.int .u8 0)) (hs : i.size = 1) (hy : i.bytes = 1)
    {base B : Nat} {A A2 : Option Addr} {n c m d : Nat} {l l2 : List UInt8} (hown : OwnB base w A n c l) (hr : RdB B w A2 l2) (hm : l2.length = m) (hsz : n + m ≤ 1099511627776) (hbase : base ≤ w.heap.size) :
    ∃ A' c' w', (Builtin.append_ #[t, t'] ty #[.slice A n c, .slice A2 m d]).run P w = .ok (.slice A' (n + m) c') w' ∧ OwnB base w' A' (n + m) c' (l ++ l2) ∧ Below base w w' ∧ w.grownBy w' (A.map (·.block)) := by
  subst hm
  cases A2 with
  | none =>
    have h0 : l2 = [] := by
      cases l2 with
      | nil => rfl
      | cons x r =>
        obtain ⟨ad, he, _⟩ := hr 0 x rfl
        cases he
    subst h0
    refine ⟨A, c, w, ?_, by simpa using hown, Below.refl _ _, World.grownBy.refl w _⟩
    rw [run_append_tt w ht ht']
    have hcap := hown.cap
    have hcond : n + 0 ≤ c := by omega
    have hne : ∀ W : World, (underlying t).run P W = .ok (.slice 5) W := fun W => run_underlying ht W
    cases A with
    | none => simp [Builtin.append_, run_underlying ht, sizeOf, typeInfo, hi, Builtin.lenOf, Builtin.firstCells, hcap.1]
    | some a => simp [Builtin.append_, run_underlying ht, sizeOf, typeInfo, hi, Builtin.lenOf, Builtin.firstCells, hcap.1, storeCells]
  | some ad =>
    have hc : ∀ j u, (bytV l2)[j]? = some u → w.cell? (ad.add j) = some u := by
      intro j u hu
      rw [List.getElem?_map] at hu
      cases hx : l2[j]? with
      | none => rw [hx] at hu; cases hu
      | some x =>
        rw [hx] at hu
        injection hu with hu
        subst hu
        obtain ⟨a2, he, _, hcell⟩ := hr j x hx
        injection he with he
        subst he
        exact hcell
    obtain ⟨v', w', hrun, h2, h3, _, _⟩ := run_append_own_at (P := P) w base t ty 5 i (.int .u8 0) 1 1 ht hi hz hs hy rfl (by omega) (.slice A n c) n (bytV l) hown ad l2.length d (bytV l2) (by simp) hc (byts_one l2)
      (by unfold maxLen; omega) (by omega) hbase
    have hb : Below base w w' := (Below.refl base w).grown h3 hbase (fun k hk => (World.ownsRow.lt hown k hk).1)
    have hv : ∃ A' c', v' = .slice A' (n + l2.length) c' := by
      rcases h2.2 with ⟨e1, e2⟩ | ⟨g, cap, cur, e1, _⟩
      · exact ⟨none, 0, by rw [e1, e2]⟩
      · exact ⟨_, _, e1⟩
    obtain ⟨A', c', rfl⟩ := hv
    refine ⟨A', c', w', by rw [run_append_tt w ht ht']; exact hrun, ?_, hb, by cases A <;> exact h3⟩
    unfold OwnB
    rw [show bytV (l ++ l2) = bytV l ++ bytV l2 from List.map_append]
    exact h2
section
variable {P : Program} {w : World} {t t' e' : TypeId} {i : TypeInfo} {base B : Nat} {A A2 : Option Addr} {n c m d : Nat} {l l2 : List UInt8} {o : Oper} {a : Act} {Q : Exit → Act → World → Prop} {ops : Array Oper}
/-- .. as an operation. -/
theorem wp_apB {K : Act → World → Prop} (s x : Operand) (ho : o.op = .call { callee := .builtin .append, args := #[s, x], argTypes := #[t, t'] })
    (ht : P.underlying t = some (.slice 5)) (ht' : P.underlying t' = some (.slice e')) (hi : P.info? 5 = some i) (hz : i.zero = some (.int .u8 0)) (hs : i.size = 1) (hy : i.bytes = 1)
    (h1 : a.eval s = .slice A n c) (h2 : a.eval x = .slice A2 m d) (hown : OwnB base w A n c l) (hr : RdB B w A2 l2) (hm : l2.length = m) (N : Nat) (hN : n + m = N) (hsz : n + m ≤ 1099511627776) (hbase : base ≤ w.heap.size)
    (h : ∀ A' c' w', OwnB base w' A' N c' (l ++ l2) → Below base w w' → w.grownBy w' (A.map (·.block)) → K (a.put o.dst (.slice A' N c')) w') : o.wp P a w K Q := by
  subst hN
  obtain ⟨A', c', w', hrun, k1, k2, k3⟩ := run_apB (P := P) (ty := o.type) (d := d) w ht ht' hi hz hs hy hown hr hm hsz hbase
  unfold Oper.wp execOp
  simp only [ho, resolve, invoke, builtin, Sem.run_bind, Sem.run_pure, Result.andThen_ok, List.map_toArray, List.map_cons, List.map_nil, h1, h2, hrun]
  exact h A' c' w' k1 k2 k3
/-- .. in a plain region. -/
theorem wpList_apB {rest : List Oper} (hgd : o.guard = none) (s x : Operand) (ho : o.op = .call { callee := .builtin .append, args := #[s, x], argTypes := #[t, t'] })
    (ht : P.underlying t = some (.slice 5)) (ht' : P.underlying t' = some (.slice e')) (hi : P.info? 5 = some i) (hz : i.zero = some (.int .u8 0)) (hs : i.size = 1) (hy : i.bytes = 1)
    (h1 : a.eval s = .slice A n c) (h2 : a.eval x = .slice A2 m d) (hown : OwnB base w A n c l) (hr : RdB B w A2 l2) (hm : l2.length = m) (N : Nat) (hN : n + m = N) (hsz : n + m ≤ 1099511627776) (hbase : base ≤ w.heap.size)
    (h : ∀ A' c' w', OwnB base w' A' N c' (l ++ l2) → Below base w w' → w.grownBy w' (A.map (·.block)) → wpList P ops Q rest (a.put o.dst (.slice A' N c')) w') : wpList P ops Q (o :: rest) a w :=
  wpList_plain hgd fun _ hK => wp_apB s x ho ht ht' hi hz hs hy h1 h2 hown hr hm N hN hsz hbase fun A' c' w' k1 k2 k3 => hK _ _ (h A' c' w' k1 k2 k3)
/-- .. at a step of a region that draws its order. -/
theorem step_apB {K : Act → World → Prop} {E : Prop} (hgd : o.guard = none) (s x : Operand) (ho : o.op = .call { callee := .builtin .append, args := #[s, x], argTypes := #[t, t'] })
    (ht : P.underlying t = some (.slice 5)) (ht' : P.underlying t' = some (.slice e')) (hi : P.info? 5 = some i) (hz : i.zero = some (.int .u8 0)) (hs : i.size = 1) (hy : i.bytes = 1)
    (h1 : a.eval s = .slice A n c) (h2 : a.eval x = .slice A2 m d) (hown : OwnB base w A n c l) (hr : RdB B w A2 l2) (hm : l2.length = m) (N : Nat) (hN : n + m = N) (hsz : n + m ≤ 1099511627776) (hbase : base ≤ w.heap.size)
    (h : ∀ A' c' w', OwnB base w' A' N c' (l ++ l2) → Below base w w' → w.grownBy w' (A.map (·.block)) → K (a.put o.dst (.slice A' N c')) w') :
    if Region.wanted o (yielded ops a.tmps) = true then Oper.wp P o a w K Q else E := by
  have hw : Region.wanted o (yielded ops a.tmps) = true := by simp [Region.wanted, hgd]
  rw [if_pos hw]
  exact wp_apB s x ho ht ht' hi hz hs hy h1 h2 hown hr hm N hN hsz hbase h
end
end Go.Proofs.Ytokkmofcijfmiab
