/-
  WHAT IS PROVED: words for slices of pieces (own work): a slice that reads as a list of pieces (a kind, and bytes), nil let in; such a row that the call owns; append of one piece onto it. Over any program that bears the types named.
-/
import Derived.Test.YtggoinjjdogmaaaDoorScanMath
import Derived.Test.YtggoinjjdogmaaaDoorMem
namespace Go.Proofs.YtggoinjjdogmaaaDoor
open Go.RowKit

/-- The slice at A reads as the pieces l, in blocks below B. -/
def RdPc (B : Nat) (W : World) (A : Option Addr) (l : List Pc) : Prop :=
  ∀ k p, l[k]? = some p → ∃ ad A' c, A = some ad ∧ ad.block < B ∧ W.cell? (ad.add (k * 2)) = some (.int .u8 (p.1.toNat : Int)) ∧ W.cell? ⟨(ad.add (k * 2)).block, (ad.add (k * 2)).off + 1, none⟩ = some (.slice A' p.2.length c) ∧ RdB B W A' p.2
theorem RdPc.nil (B : Nat) (W : World) (A : Option Addr) : RdPc B W A [] := fun k p h => by simp at h
theorem RdPc.keep {B C : Nat} {W W' : World} {A : Option Addr} {l : List Pc} (h : RdPc B W A l) (hb : Below C W W') (hBC : B ≤ C) : RdPc B W' A l := by
  intro k p hp
  obtain ⟨ad, A', c, hA, hl, h1, h2, h3⟩ := h k p hp
  exact ⟨ad, A', c, hA, hl, (hb.cell (by rw [add_block]; omega)).trans h1, (hb.cell (by show (ad.add (k * 2)).block < C; rw [add_block]; omega)).trans h2, h3.keep hb hBC⟩
theorem RdPc.more {B C : Nat} {W : World} {A : Option Addr} {l : List Pc} (h : RdPc B W A l) (hBC : B ≤ C) : RdPc C W A l := by
  intro k p hp
  obtain ⟨ad, A', c, hA, hl, h1, h2, h3⟩ := h k p hp
  exact ⟨ad, A', c, hA, by omega, h1, h2, h3.more hBC⟩
theorem RdPc.drew_ {B : Nat} {W : World} {A : Option Addr} {l : List Pc} (h : RdPc B W A l) : RdPc B W.drew A l := h
/-- A piece, as it lies. -/
structure PcV where
  k : UInt8
  A : Option Addr
  n : Nat
  c : Nat
abbrev PcV.cells (x : PcV) : Array Value := #[.int .u8 (x.k.toNat : Int), .slice x.A x.n x.c]
/-- The cells of pieces. -/
abbrev pcV (l : List PcV) : List Value := l.flatMap fun x => x.cells.toList
theorem pcV_len (l : List PcV) : (pcV l).length = l.length * 2 := by
  induction l with
  | nil => rfl
  | cons x t ih =>
    show (x.cells.toList ++ pcV t).length = _
    rw [List.length_append, ih]
    show 2 + t.length * 2 = (t.length + 1) * 2
    omega
theorem pcV_get : ∀ (l : List PcV) (k j : Nat) (x : PcV) (v : Value), l[k]? = some x → x.cells[j]? = some v → (pcV l)[k * 2 + j]? = some v
  | [], k, j, x, v, h, _ => by simp at h
  | y :: t, 0, j, x, v, h, hv => by
    have e : y = x := by simpa using h
    subst e
    have hj : j < 2 := by
      have := (Array.getElem?_eq_some_iff.1 hv).1
      simpa using this
    show (y.cells.toList ++ pcV t)[0 * 2 + j]? = _
    rw [List.getElem?_append_left (by show _ < 2; omega), Nat.zero_mul, Nat.zero_add, Array.getElem?_toList]
    exact hv
  | y :: t, k + 1, j, x, v, h, hv => by
    have h2 : t[k]? = some x := by simpa using h
    have ih := pcV_get t k j x v h2 hv
    show (y.cells.toList ++ pcV t)[(k + 1) * 2 + j]? = _
    rw [List.getElem?_append_right (by show 2 ≤ _; omega)]
    show (pcV t)[(k + 1) * 2 + j - 2]? = _
    rw [show (k + 1) * 2 + j - 2 = k * 2 + j by omega]
    exact ih
/-- A row of pieces that the call owns, in blocks from base on. -/
def OwnPc (base : Nat) (W : World) (A : Option Addr) (n c : Nat) (l : List PcV) : Prop := W.ownsRow base 31 2 (.slice A n c) n (pcV l)
theorem OwnPc.nil (base : Nat) (W : World) : OwnPc base W none 0 0 [] := World.ownsRow_nil W base 31 2
theorem OwnPc.len {base : Nat} {W : World} {A : Option Addr} {n c : Nat} {l : List PcV} (h : OwnPc base W A n c l) : l.length = n := by
  have h1 := h.1
  have h2 := pcV_len l
  omega
theorem OwnPc.keep {base : Nat} {W W' : World} {A : Option Addr} {n c : Nat} {l : List PcV} (h : OwnPc base W A n c l) (hb : Below W.heap.size W W') : OwnPc base W' A n c l :=
  World.ownsRow.kept h (row := none) ⟨hb.os, hb.tape, hb.output, hb.size, fun k hk _ => hb.block k hk⟩ (by cases A <;> simp [Value.ownBlock])
/-- The rows that pieces name are the call's own, and read as their bytes. -/
def InPc (base : Nat) (W : World) (l : List PcV) (p : List Pc) : Prop := l.length = p.length ∧ ∀ (i : Nat) (x : PcV) (q : Pc), l[i]? = some x → p[i]? = some q → x.k = q.1 ∧ OwnB base W x.A x.n x.c q.2
theorem InPc.nil (base : Nat) (W : World) : InPc base W [] [] := ⟨rfl, fun i x q h => by simp at h⟩
theorem InPc.keep {base : Nat} {W W' : World} {l : List PcV} {p : List Pc} (h : InPc base W l p) (hb : Below W.heap.size W W') : InPc base W' l p :=
  ⟨h.1, fun i x q hx hq => ⟨(h.2 i x q hx hq).1, (h.2 i x q hx hq).2.keep hb⟩⟩
theorem InPc.snoc {base : Nat} {W : World} {l : List PcV} {p : List Pc} {x : PcV} {q : Pc} (h : InPc base W l p) (h1 : x.k = q.1) (h2 : OwnB base W x.A x.n x.c q.2) : InPc base W (l ++ [x]) (p ++ [q]) := by
  refine ⟨by simp [h.1], fun i y r hy hr => ?_⟩
  by_cases hi : i < l.length
  · rw [List.getElem?_append_left hi] at hy
    rw [List.getElem?_append_left (by rw [← h.1]; exact hi)] at hr
    exact h.2 i y r hy hr
  · rw [List.getElem?_append_right (by omega)] at hy
    rw [List.getElem?_append_right (by rw [← h.1]; omega), ← h.1] at hr
    have e : i - l.length = 0 := by
      have := (List.getElem?_eq_some_iff.1 hy).1
      simp at this
      omega
    rw [e] at hy hr
    injection hy with hy
    injection hr with hr
    subst hy
    subst hr
    exact ⟨h1, h2⟩
/-- A row of bytes stays where a row of pieces grows. -/
theorem OwnB.keepPc {base : Nat} {W W' : World} {A A2 : Option Addr} {n c m d : Nat} {l : List PcV} {l2 : List UInt8} (h : OwnB base W A2 m d l2) (hp : OwnPc base W A n c l) (hg : W.grownBy W' (A.map (·.block))) : OwnB base W' A2 m d l2 := by
  refine World.ownsRow.kept h hg ?_
  rcases h.2 with ⟨e, _⟩ | ⟨g2, cap2, cur2, e2, _, hb2, _⟩
  · injection e with e _ _
    subst e
    simp [Value.ownBlock]
  · injection e2 with e2 _ _
    subst e2
    right
    rcases hp.2 with ⟨e, _⟩ | ⟨g, cap, cur, e, _, hb, _⟩
    · injection e with e _ _
      subst e
      simp [Value.ownBlock]
    · injection e with e _ _
      subst e
      intro k
      simp only [Value.ownBlock, Option.map_some, Option.some.injEq] at k
      subst k
      rw [hb] at hb2
      injection hb2 with hb2
      injection hb2 with _ hb2 _
      exact absurd hb2 (by decide)
theorem InPc.grown {base : Nat} {W W' : World} {A : Option Addr} {n c : Nat} {l l2 : List PcV} {p : List Pc} (h : InPc base W l2 p) (hp : OwnPc base W A n c l) (hg : W.grownBy W' (A.map (·.block))) : InPc base W' l2 p :=
  ⟨h.1, fun i x q hx hq => ⟨(h.2 i x q hx hq).1, (h.2 i x q hx hq).2.keepPc hp hg⟩⟩
theorem OwnPc.rd {base : Nat} {W : World} {A : Option Addr} {n c : Nat} {l : List PcV} {p : List Pc} (h : OwnPc base W A n c l) (hp : InPc base W l p) : RdPc W.heap.size W A p := by
  intro k q hq
  have hk := (List.getElem?_eq_some_iff.1 hq).1
  have hl := h.len
  have hkl : k < l.length := by rw [hp.1]; exact hk
  obtain ⟨x, hx⟩ : ∃ x, l[k]? = some x := ⟨_, List.getElem?_eq_getElem hkl⟩
  obtain ⟨e1, e4⟩ := hp.2 k x q hx hq
  have e2 := e4.len
  have e3 := e4.rd
  obtain ⟨g, cap, hv, _, hlt⟩ := World.ownsRow.form h (by omega)
  injection hv with hv
  subst hv
  have hc : ∀ j v, x.cells[j]? = some v → W.cell? ((⟨g, 0, none⟩ : Addr).add (k * 2 + j)) = some v := fun j v hj => h.cells (g := g) rfl _ _ (pcV_get l k j x v hx hj)
  refine ⟨_, x.A, x.c, rfl, hlt, ?_, ?_, e3⟩
  · have := hc 0 _ rfl
    rw [← e1]
    exact this
  · have := hc 1 _ rfl
    rw [← add_add', Addr.add, if_neg (by omega)] at this
    rw [e2]
    exact this
theorem pc_info : (Tryd.prog.info? 31).map (fun i => (i.zero, i.size, i.bytes)) = some (some (.agg #[.int .u8 0, .slice none 0 0]), 2, 32) := by kernel_rfl
theorem pc_one (x : PcV) : ∀ u ∈ x.cells.toList, u.oneCell' = true := by
  intro u hu
  simp only [List.mem_cons, List.not_mem_nil, or_false] at hu
  rcases hu with rfl | rfl <;> rfl
/-- Append of one piece onto a row of the call's own. -/
theorem run_apPc {P : Program} (w : World) {t t' e' ty : TypeId} {i : TypeInfo} (ht : P.underlying t = some (.slice 31)) (ht' : P.underlying t' = some (.slice e')) (hi : P.info? 31 = some i) (hz : i.zero = some (.agg #[.int .u8 0, .slice none 0 0])) (hs : i.size = 2) (hy : i.bytes = 32)
    {base : Nat} {A : Option Addr} {ad : Addr} {n c d : Nat} {l : List PcV} {x : PcV} (hown : OwnPc base w A n c l) (hr : ∀ j v, x.cells[j]? = some v → w.cell? (ad.add j) = some v) (hsz : n ≤ 1000000) (hbase : base ≤ w.heap.size) :
    ∃ A' c' w', (Builtin.append_ #[t, t'] ty #[.slice A n c, .slice (some ad) 1 d]).run P w = .ok (.slice A' (n + 1) c') w' ∧ OwnPc base w' A' (n + 1) c' (l ++ [x]) ∧ Below base w w' ∧ w.grownBy w' (A.map (·.block)) := by
  obtain ⟨v', w', hrun, h2, h3, _, _⟩ := run_append_own_at (P := P) w base t ty 31 i (.agg #[.int .u8 0, .slice none 0 0]) 2 32 ht hi hz hs hy rfl (by omega) (.slice A n c) n (pcV l) hown ad 1 d x.cells.toList rfl (fun j u hu => hr j u (by rw [← Array.getElem?_toList]; exact hu)) (pc_one x)
    (by unfold maxLen; omega) (by omega) hbase
  have hb : Below base w w' := (Below.refl base w).grown h3 hbase (fun k hk => (World.ownsRow.lt hown k hk).1)
  have hv : ∃ A' c', v' = .slice A' (n + 1) c' := by
    rcases h2.2 with ⟨_, e2⟩ | ⟨g, cap, cur, e1, _⟩
    · omega
    · exact ⟨_, _, e1⟩
  obtain ⟨A', c', rfl⟩ := hv
  refine ⟨A', c', w', by rw [run_append_tt w ht ht']; exact hrun, ?_, hb, by cases A <;> exact h3⟩
  unfold OwnPc
  rw [show pcV (l ++ [x]) = pcV l ++ x.cells.toList by simp [pcV]]
  exact h2
section
variable {P : Program} {w : World} {t t' e' : TypeId} {i : TypeInfo} {base : Nat} {A : Option Addr} {ad : Addr} {n c d : Nat} {l : List PcV} {xx : PcV} {o : Oper} {a : Act} {Q : Exit → Act → World → Prop} {ops : Array Oper}
/-- .. in a plain region. -/
theorem wpList_apPc {rest : List Oper} (hgd : o.guard = none) (s x : Operand) (ho : o.op = .call { callee := .builtin .append, args := #[s, x], argTypes := #[t, t'] })
    (ht : P.underlying t = some (.slice 31)) (ht' : P.underlying t' = some (.slice e')) (hi : P.info? 31 = some i) (hz : i.zero = some (.agg #[.int .u8 0, .slice none 0 0])) (hs : i.size = 2) (hy : i.bytes = 32)
    (h1 : a.eval s = .slice A n c) (h2 : a.eval x = .slice (some ad) 1 d) (hown : OwnPc base w A n c l) (hr : ∀ j v, xx.cells[j]? = some v → w.cell? (ad.add j) = some v) (hsz : n ≤ 1000000) (hbase : base ≤ w.heap.size)
    (h : ∀ A' c' w', OwnPc base w' A' (n + 1) c' (l ++ [xx]) → Below base w w' → w.grownBy w' (A.map (·.block)) → wpList P ops Q rest (a.put o.dst (.slice A' (n + 1) c')) w') : wpList P ops Q (o :: rest) a w := by
  refine wpList_plain hgd fun _ hK => ?_
  obtain ⟨A', c', w', hrun, k1, k2, k3⟩ := run_apPc (P := P) (ty := o.type) (d := d) w ht ht' hi hz hs hy hown hr hsz hbase
  unfold Oper.wp execOp
  simp only [ho, resolve, invoke, builtin, Sem.run_bind, Sem.run_pure, Result.andThen_ok, List.map_toArray, List.map_cons, List.map_nil, h1, h2, hrun]
  exact hK _ _ (h A' c' w' k1 k2 k3)
end
end Go.Proofs.YtggoinjjdogmaaaDoor
