/-
  WHAT IS PROVED: the document's taking of writes from bytes (spinneyref05.TakeWrite). Conditions: those typed in the theorem. · words for slices of writes that the call owns (own work); append of one write onto such a row. Over any program that bears the types named. · the document's taking of lists of writes from bytes (spinneyref05.TakeWrites). Conditions: those typed in the theorem. · whether two lists of writes are the same (spinneyref03.Same), for all slices of writes. Conditions: those typed in the theorem. · nothing but plain facts: as definitions, what the walks of layer 5's statements take of package pack's calls on values and writes. The definitions are proved elsewhere, of the code itself.
-/
import Derived.Test.YtkfhkfddhijkcaaGQ6
import Derived.Test.YtkfhkfddhijkcaaGQ3
import Derived.Deep.Cut
import Derived.Test.YtkfhkfddhijkcaaBytes
import Derived.Test.YtkfhkfddhijkcaaGQ4
namespace Go.Proofs.Ytkfhkfddhijkcaa
open Go.RowKit
attribute [local go_sem ↓] Go.wp_at_zero Go.wp_at_succ

/-- Where the three numbers stand. -/
def posW (l : List UInt8) : Nat → Nat
  | 0 => 0
  | j + 1 => posW l j + (takeNum (l.drop (posW l j)) 1000).2
/-- The number that stands at the j-th place; how many bytes. -/
def numW (l : List UInt8) (j : Nat) : Nat × Nat := takeNum (l.drop (posW l j)) 1000
theorem posW_succ (l : List UInt8) (j : Nat) : posW l (j + 1) = posW l j + (numW l j).2 := rfl
/-- What the array holds ahead of round j. -/
def cellW (l : List UInt8) (j i : Nat) : Value := if i < j then .int .i64 ((numW l i).1 : Nat) else .int .i64 0
abbrev rowW (l : List UInt8) (j : Nat) : Array Value := #[cellW l j 0, cellW l j 1, cellW l j 2]
abbrev zeroW : Array Value := wrI 0 0 0 ⟨#[]⟩ 0 0 ⟨#[]⟩ 0 0 ⟨#[]⟩
theorem numW_lt (l : List UInt8) (j : Nat) : (numW l j).1 ≤ 1000 ∧ (numW l j).2 ≤ 9 := ⟨(takeNum_lt _ 1000).2.1, (takeNum_lt _ 1000).2.2.1⟩
theorem posW_le (l : List UInt8) : ∀ j, posW l j ≤ l.length
  | 0 => Nat.zero_le _
  | j + 1 => by
    have h := posW_le l j
    have k := (takeNum_lt (l.drop (posW l j)) 1000).2.2.2
    rw [List.length_drop] at k
    show posW l j + (takeNum (l.drop (posW l j)) 1000).2 ≤ _
    omega

theorem blk_f10 {W : World} {b : Nat} {v0 v1 v2 v3 v4 v5 v6 v7 v8 v9 : Value} {t : TypeId} (h : Blk W b #[v0, v1, v2, v3, v4, v5, v6, v7, v8, v9] t) :
    W.frozen? ⟨b, 0, none⟩ = false ∧ W.frozen? ⟨b, 1, none⟩ = false ∧ W.frozen? ⟨b, 2, none⟩ = false ∧ W.frozen? ⟨b, 3, none⟩ = false ∧ W.frozen? ⟨b, 4, none⟩ = false ∧ W.frozen? ⟨b, 5, none⟩ = false ∧ W.frozen? ⟨b, 6, none⟩ = false ∧ W.frozen? ⟨b, 7, none⟩ = false ∧ W.frozen? ⟨b, 8, none⟩ = false ∧ W.frozen? ⟨b, 9, none⟩ = false :=
  ⟨h.free 0, h.free 1, h.free 2, h.free 3, h.free 4, h.free 5, h.free 6, h.free 7, h.free 8, h.free 9⟩
theorem below10 {B b : Nat} {w W : World} (h : Below B w W) (hb : B ≤ b) (v0 v1 v2 v3 v4 v5 v6 v7 v8 v9 : Value) : Below B w ((((((((((W.setCell ⟨b, 0, none⟩ v0).setCell ⟨b, 1, none⟩ v1).setCell ⟨b, 2, none⟩ v2).setCell ⟨b, 3, none⟩ v3).setCell ⟨b, 4, none⟩ v4).setCell ⟨b, 5, none⟩ v5).setCell ⟨b, 6, none⟩ v6).setCell ⟨b, 7, none⟩ v7).setCell ⟨b, 8, none⟩ v8).setCell ⟨b, 9, none⟩ v9) := ((((((((((h.setCell (p := ⟨b, 0, none⟩) hb v0).setCell (p := ⟨b, 1, none⟩) hb v1).setCell (p := ⟨b, 2, none⟩) hb v2).setCell (p := ⟨b, 3, none⟩) hb v3).setCell (p := ⟨b, 4, none⟩) hb v4).setCell (p := ⟨b, 5, none⟩) hb v5).setCell (p := ⟨b, 6, none⟩) hb v6).setCell (p := ⟨b, 7, none⟩) hb v7).setCell (p := ⟨b, 8, none⟩) hb v8).setCell (p := ⟨b, 9, none⟩) hb v9)
theorem rowW_set (l : List UInt8) {j v k : Nat} (hj : j < 3) (h : numW l j = (v, k)) : (rowW l j).setIfInBounds j (.int .i64 (v : Int)) = rowW l (j + 1) := by
  have e : j = 0 ∨ j = 1 ∨ j = 2 := by omega
  rcases e with rfl | rfl | rfl <;> simp [rowW, cellW, h]
theorem takeVal_le (l : List UInt8) : (takeValB l).2 ≤ l.length := by
  unfold takeValB takeValC
  have h := (takeNum_lt l 2).2.2.2
  have h1 := takeInt_le (l.drop (takeNum l 2).2)
  have h2 := takeText_le (l.drop (takeNum l 2).2) 40
  rw [List.length_drop] at h1 h2
  repeat' split
  all_goals simp only
  all_goals omega
/-- The text, the two values behind the numbers. -/
def textW (l : List UInt8) : List UInt8 × Nat := takeTextB (l.drop (posW l 3)) 20
def val1W (l : List UInt8) : (Int × Int × List UInt8) × Nat := takeValB (l.drop (posW l 3 + (textW l).2))
def val2W (l : List UInt8) : (Int × Int × List UInt8) × Nat := takeValB (l.drop (posW l 3 + (textW l).2 + (val1W l).2))
/-- What stands there, good or not. -/
def gotW (l : List UInt8) : Wr := ⟨((numW l 0).1 : Nat), ((numW l 1).1 : Nat), ((numW l 2).1 : Nat), ⟨(textW l).1.toArray⟩, (val1W l).1.1, (val1W l).1.2.1, ⟨(val1W l).1.2.2.toArray⟩, (val2W l).1.1, (val2W l).1.2.1, ⟨(val2W l).1.2.2.toArray⟩⟩
def stdW (l : List UInt8) : Prop := (∀ m, m < 3 → (numW l m).2 ≠ 0) ∧ (textW l).2 ≠ 0 ∧ (val1W l).2 ≠ 0 ∧ (val2W l).2 ≠ 0 ∧ (gotW l).good = true
open Classical in
/-- A write, taken; how many bytes; 0: no good one stands there. -/
noncomputable def takeWrB (l : List UInt8) : Wr × Nat :=
  if stdW l then (gotW l, posW l 3 + (textW l).2 + (val1W l).2 + (val2W l).2) else (⟨0, 0, 0, ⟨#[]⟩, 0, 0, ⟨#[]⟩, 0, 0, ⟨#[]⟩⟩, 0)
theorem takeWr_no {l : List UInt8} (h : ¬ stdW l) : takeWrB l = (⟨0, 0, 0, ⟨#[]⟩, 0, 0, ⟨#[]⟩, 0, 0, ⟨#[]⟩⟩, 0) := if_neg h
theorem takeWr_yes {l : List UInt8} (h : stdW l) : takeWrB l = (gotW l, posW l 3 + (textW l).2 + (val1W l).2 + (val2W l).2) := if_pos h
/-- What TakeWrite answers. -/
def TakeWP (r : Wr × Nat) (w : World) (e : Ending) (w' : World) : Prop := e = .returned (.tuple #[.agg r.1.cells, .int .i64 (r.2 : Nat)]) ∧ Below w.heap.size w w'

theorem takeText_sz (l : List UInt8) (most : Nat) : (takeTextB l most).1.length ≤ l.length := by
  unfold takeTextB
  split
  · simp
  · simp only [List.length_take, List.length_drop]
    omega
theorem takeVal_sz (l : List UInt8) : (takeValB l).1.2.2.length ≤ l.length := by
  unfold takeValB takeValC
  have h2 := takeText_sz (l.drop (takeNum l 2).2) 40
  rw [List.length_drop] at h2
  repeat' split
  all_goals simp only [List.length_nil]
  all_goals omega
theorem ba_of {s : ByteArray} {l : List UInt8} (h : s.data.toList = l) : s = ⟨l.toArray⟩ := by
  subst h
  cases s
  simp
end Go.Proofs.Ytkfhkfddhijkcaa

namespace Go.Proofs.Ytkfhkfddhijkcaa
open Go.RowKit

/-- The cells of writes. -/
abbrev wrV (l : List Wr) : List Value := l.flatMap fun x => x.cells.toList
theorem wrV_len (l : List Wr) : (wrV l).length = l.length * 10 := by
  induction l with
  | nil => rfl
  | cons x t ih =>
    show (x.cells.toList ++ wrV t).length = _
    rw [List.length_append, ih]
    show 10 + t.length * 10 = (t.length + 1) * 10
    omega
theorem wrV_get : ∀ (l : List Wr) (k j : Nat) (x : Wr) (v : Value), l[k]? = some x → x.cells[j]? = some v → (wrV l)[k * 10 + j]? = some v
  | [], k, j, x, v, h, _ => by simp at h
  | y :: t, 0, j, x, v, h, hv => by
    have e : y = x := by simpa using h
    subst e
    have hj : j < 10 := by
      have := (Array.getElem?_eq_some_iff.1 hv).1
      simpa using this
    show (y.cells.toList ++ wrV t)[0 * 10 + j]? = _
    rw [List.getElem?_append_left (by show _ < 10; omega), Nat.zero_mul, Nat.zero_add, Array.getElem?_toList]
    exact hv
  | y :: t, k + 1, j, x, v, h, hv => by
    have h2 : t[k]? = some x := by simpa using h
    have ih := wrV_get t k j x v h2 hv
    show (y.cells.toList ++ wrV t)[(k + 1) * 10 + j]? = _
    rw [List.getElem?_append_right (by show 10 ≤ _; omega)]
    show (wrV t)[(k + 1) * 10 + j - 10]? = _
    rw [show (k + 1) * 10 + j - 10 = k * 10 + j by omega]
    exact ih
/-- A row of writes that the call owns, in blocks from base on. -/
def OwnW (base : Nat) (W : World) (A : Option Addr) (n c : Nat) (l : List Wr) : Prop := W.ownsRow base 39 10 (.slice A n c) n (wrV l)
theorem OwnW.nil (base : Nat) (W : World) : OwnW base W none 0 0 [] := World.ownsRow_nil W base 39 10
theorem OwnW.len {base : Nat} {W : World} {A : Option Addr} {n c : Nat} {l : List Wr} (h : OwnW base W A n c l) : l.length = n := by
  have h1 := h.1
  have h2 := wrV_len l
  omega
theorem OwnW.rd {base : Nat} {W : World} {A : Option Addr} {n c : Nat} {l : List Wr} (h : OwnW base W A n c l) : RdW W.heap.size W A l := by
  intro k x hx
  have hk := (List.getElem?_eq_some_iff.1 hx).1
  have hl := h.len
  obtain ⟨g, cap, hv, _, hlt⟩ := World.ownsRow.form h (by omega)
  injection hv with hv
  subst hv
  exact ⟨_, rfl, hlt, fun j v hj => h.cells (g := g) rfl _ _ (wrV_get l k j x v hx hj)⟩
theorem OwnW.keep {base : Nat} {W W' : World} {A : Option Addr} {n c : Nat} {l : List Wr} (h : OwnW base W A n c l) (hb : Below W.heap.size W W') : OwnW base W' A n c l :=
  World.ownsRow.kept h (row := none) ⟨hb.os, hb.tape, hb.output, hb.size, fun k hk _ => hb.block k hk⟩ (by cases A <;> simp [Value.ownBlock])
theorem OwnW.less {base b2 : Nat} {W : World} {A : Option Addr} {n c : Nat} {l : List Wr} (h : OwnW base W A n c l) (hb : b2 ≤ base) : OwnW b2 W A n c l := by
  refine ⟨h.1, ?_⟩
  rcases h.2 with h | ⟨g, cap, cur, h1, h2, h3⟩
  · exact .inl h
  · exact .inr ⟨g, cap, cur, h1, by omega, h3⟩
theorem wr_info : (Try.prog.info? 39).map (fun i => (i.zero, i.size, i.bytes)) = some (some (.agg (wrI 0 0 0 ⟨#[]⟩ 0 0 ⟨#[]⟩ 0 0 ⟨#[]⟩)), 10, 104) := by kernel_rfl
theorem wr_one (x : Wr) : ∀ u ∈ x.cells.toList, u.oneCell' = true := by
  intro u hu
  simp only [List.mem_cons, List.not_mem_nil, or_false] at hu
  rcases hu with rfl | rfl | rfl | rfl | rfl | rfl | rfl | rfl | rfl | rfl <;> rfl
/-- Append of one write onto a row of the call's own. -/
theorem run_apW {P : Program} (w : World) {t t' e' ty : TypeId} {i : TypeInfo} (ht : P.underlying t = some (.slice 39)) (ht' : P.underlying t' = some (.slice e')) (hi : P.info? 39 = some i) (hz : i.zero = some (.agg (wrI 0 0 0 ⟨#[]⟩ 0 0 ⟨#[]⟩ 0 0 ⟨#[]⟩))) (hs : i.size = 10) (hy : i.bytes = 104)
    {base : Nat} {A : Option Addr} {ad : Addr} {n c d : Nat} {l : List Wr} {x : Wr} (hown : OwnW base w A n c l) (hr : ∀ j v, x.cells[j]? = some v → w.cell? (ad.add j) = some v) (hsz : n ≤ 1000000) (hbase : base ≤ w.heap.size) :
    ∃ A' c' w', (Builtin.append_ #[t, t'] ty #[.slice A n c, .slice (some ad) 1 d]).run P w = .ok (.slice A' (n + 1) c') w' ∧ OwnW base w' A' (n + 1) c' (l ++ [x]) ∧ Below base w w' := by
  obtain ⟨v', w', hrun, h2, h3, _, _⟩ := run_append_own_at (P := P) w base t ty 39 i (.agg (wrI 0 0 0 ⟨#[]⟩ 0 0 ⟨#[]⟩ 0 0 ⟨#[]⟩)) 10 104 ht hi hz hs hy rfl (by omega) (.slice A n c) n (wrV l) hown ad 1 d x.cells.toList rfl (fun j u hu => hr j u (by rw [← Array.getElem?_toList]; exact hu)) (wr_one x)
    (by unfold maxLen; omega) (by omega) hbase
  have hb : Below base w w' := (Below.refl base w).grown h3 hbase (fun k hk => (World.ownsRow.lt hown k hk).1)
  have hv : ∃ A' c', v' = .slice A' (n + 1) c' := by
    rcases h2.2 with ⟨_, e2⟩ | ⟨g, cap, cur, e1, _⟩
    · omega
    · exact ⟨_, _, e1⟩
  obtain ⟨A', c', rfl⟩ := hv
  refine ⟨A', c', w', by rw [run_append_tt w ht ht']; exact hrun, ?_, hb⟩
  unfold OwnW
  rw [show wrV (l ++ [x]) = wrV l ++ x.cells.toList by simp [wrV]]
  exact h2
section
variable {P : Program} {w : World} {t t' e' : TypeId} {i : TypeInfo} {base : Nat} {A : Option Addr} {ad : Addr} {n c d : Nat} {l : List Wr} {xx : Wr} {o : Oper} {a : Act} {Q : Exit → Act → World → Prop} {ops : Array Oper}
/-- .. in a plain region. -/
theorem wpList_apW {rest : List Oper} (hgd : o.guard = none) (s x : Operand) (ho : o.op = .call { callee := .builtin .append, args := #[s, x], argTypes := #[t, t'] })
    (ht : P.underlying t = some (.slice 39)) (ht' : P.underlying t' = some (.slice e')) (hi : P.info? 39 = some i) (hz : i.zero = some (.agg (wrI 0 0 0 ⟨#[]⟩ 0 0 ⟨#[]⟩ 0 0 ⟨#[]⟩))) (hs : i.size = 10) (hy : i.bytes = 104)
    (h1 : a.eval s = .slice A n c) (h2 : a.eval x = .slice (some ad) 1 d) (hown : OwnW base w A n c l) (hr : ∀ j v, xx.cells[j]? = some v → w.cell? (ad.add j) = some v) (hsz : n ≤ 1000000) (hbase : base ≤ w.heap.size)
    (h : ∀ A' c' w', OwnW base w' A' (n + 1) c' (l ++ [xx]) → Below base w w' → wpList P ops Q rest (a.put o.dst (.slice A' (n + 1) c')) w') : wpList P ops Q (o :: rest) a w := by
  refine wpList_plain hgd fun _ hK => ?_
  obtain ⟨A', c', w', hrun, k1, k2⟩ := run_apW (P := P) (ty := o.type) (d := d) w ht ht' hi hz hs hy hown hr hsz hbase
  unfold Oper.wp execOp
  simp only [ho, resolve, invoke, builtin, Sem.run_bind, Sem.run_pure, Result.andThen_ok, List.map_toArray, List.map_cons, List.map_nil, h1, h2, hrun]
  exact hK _ _ (h A' c' w' k1 k2)
end
end Go.Proofs.Ytkfhkfddhijkcaa

namespace Go.Proofs.Ytkfhkfddhijkcaa
open Go.RowKit
attribute [local go_sem ↓] Go.wp_at_zero Go.wp_at_succ

/-- Where the first j writes end; are they all there? -/
noncomputable def posWs (l : List UInt8) (most : Nat) : Nat → Nat
  | 0 => (takeNum l most).2
  | j + 1 => posWs l most j + (takeWrB (l.drop (posWs l most j))).2
noncomputable def nthWs (l : List UInt8) (most j : Nat) : Wr × Nat := takeWrB (l.drop (posWs l most j))
noncomputable def listWs (l : List UInt8) (most : Nat) : Nat → List Wr
  | 0 => []
  | j + 1 => listWs l most j ++ [(nthWs l most j).1]
def stdWs (l : List UInt8) (most : Nat) : Prop := (takeNum l most).2 ≠ 0 ∧ ∀ j, j < (takeNum l most).1 → (nthWs l most j).2 ≠ 0
open Classical in
/-- Writes, taken; how many bytes; 0: they don't stand there. -/
noncomputable def takeWrsB (l : List UInt8) (most : Nat) : List Wr × Nat :=
  if stdWs l most then (listWs l most (takeNum l most).1, posWs l most (takeNum l most).1) else ([], 0)
theorem takeWrs_no {l : List UInt8} {most : Nat} (h : ¬ stdWs l most) : takeWrsB l most = ([], 0) := if_neg h
theorem takeWrs_yes {l : List UInt8} {most : Nat} (h : stdWs l most) : takeWrsB l most = (listWs l most (takeNum l most).1, posWs l most (takeNum l most).1) := if_pos h
theorem listWs_len (l : List UInt8) (most : Nat) : ∀ j, (listWs l most j).length = j
  | 0 => rfl
  | j + 1 => by
    show (listWs l most j ++ [_]).length = _
    rw [List.length_append, listWs_len l most j]
    rfl
theorem takeWr_le (l : List UInt8) : (takeWrB l).2 ≤ l.length := by
  by_cases h : stdW l
  · rw [takeWr_yes h]
    have h1 := posW_le l 3
    have h2 := takeText_le (l.drop (posW l 3)) 20
    have h3 := takeVal_le (l.drop (posW l 3 + (textW l).2))
    have h4 := takeVal_le (l.drop (posW l 3 + (textW l).2 + (val1W l).2))
    rw [List.length_drop] at h2 h3 h4
    have e2 : (textW l).2 = (takeTextB (l.drop (posW l 3)) 20).2 := rfl
    have e3 : (val1W l).2 = (takeValB (l.drop (posW l 3 + (textW l).2))).2 := rfl
    have e4 : (val2W l).2 = (takeValB (l.drop (posW l 3 + (textW l).2 + (val1W l).2))).2 := rfl
    show posW l 3 + (textW l).2 + (val1W l).2 + (val2W l).2 ≤ _
    omega
  · rw [takeWr_no h]
    exact Nat.zero_le _
theorem posWs_le (l : List UInt8) (most : Nat) : ∀ j, posWs l most j ≤ l.length
  | 0 => (takeNum_lt l most).2.2.2
  | j + 1 => by
    have h := posWs_le l most j
    have k := takeWr_le (l.drop (posWs l most j))
    rw [List.length_drop] at k
    show posWs l most j + (takeWrB (l.drop (posWs l most j))).2 ≤ _
    omega
theorem posWs_succ (l : List UInt8) (most j : Nat) : posWs l most (j + 1) = posWs l most j + (nthWs l most j).2 := rfl
theorem add_zero_at (g j : Nat) : (⟨g, 0, none⟩ : Addr).add j = ⟨g, j, none⟩ := by
  unfold Addr.add
  by_cases h : j = 0
  · rw [if_pos h, h]
  · rw [if_neg h]
    simp
theorem new_cells (W : World) (x : Wr) (t : TypeId) : ∀ j v, x.cells[j]? = some v → (W.alloc (.cells x.cells t)).cell? ((⟨W.heap.size, 0, none⟩ : Addr).add j) = some v := by
  intro j v hv
  rw [add_zero_at, (blk_new W x.cells t).cell j]
  exact hv
/-- What TakeWrites answers: a slice that the call owns, nil of none. -/
def TakeWsP (r : List Wr × Nat) (w : World) (e : Ending) (w' : World) : Prop :=
  (∃ (A : Option Addr) (n c : Nat), e = .returned (.tuple #[.slice A n c, .int .i64 (r.2 : Nat)]) ∧ OwnW w.heap.size w' A n c r.1) ∧ Below w.heap.size w w'

end Go.Proofs.Ytkfhkfddhijkcaa

namespace Go.Proofs.Ytkfhkfddhijkcaa
open Go.RowKit
attribute [local go_sem ↓] Go.wp_at_zero Go.wp_at_succ

theorem str_ext {a b : ByteArray} (h : a.toList = b.toList) : a = b := by
  rw [ByteArray.toList_eq, ByteArray.toList_eq] at h
  cases a
  cases b
  simp only at h
  congr 1
  exact Array.toList_inj.1 h
theorem wr_neq {x y : Wr} (h : x ≠ y) (W : World) : (binOp .neq 39 (.agg x.cells) (.agg y.cells)).run Try.prog W = .ok (.bool true) W := by
  go_simp
  intro h0 h1 h2 h3 h4 h5 h6 h7 h8 h9
  refine h ?_
  have e3 := str_ext h3
  have e6 := str_ext h6
  have e9 := str_ext h9
  cases x
  cases y
  simp only at h0 h1 h2 e3 h4 h5 e6 h7 h8 e9
  simp only [h0, h1, h2, e3, h4, h5, e6, h7, h8, e9]
theorem wr_eq (x : Wr) (W : World) : (binOp .neq 39 (.agg x.cells) (.agg x.cells)).run Try.prog W = .ok (.bool false) W := by
  go_simp
open Classical in
/-- The same lists? -/
noncomputable def sameW (l l2 : List Wr) : Bool := decide (l = l2)
theorem sameW_iff (l l2 : List Wr) : sameW l l2 = true ↔ l = l2 := by
  unfold sameW
  simp
theorem sameW_no {l l2 : List Wr} (h : l ≠ l2) : sameW l l2 = false := Bool.eq_false_iff.2 fun e => h ((sameW_iff l l2).1 e)
theorem sameW_yes {l l2 : List Wr} (h : l = l2) : sameW l l2 = true := (sameW_iff l l2).2 h

set_option maxRecDepth 100000 in
set_option maxHeartbeats 4000000 in
theorem refWrSame_any {B C : Nat} (A A2 : Option Addr) (n c m d : Nat) (l l2 : List Wr) (w : World) (hn : l.length = n) (hr : RdW B w A l) (_hB : B ≤ w.heap.size) (hm : n ≤ 1000000) (hn2 : l2.length = m) (hr2 : RdW C w A2 l2) (_hC : C ≤ w.heap.size) :
    Calls Try.prog 22 #[.slice A n c, .slice A2 m d] w fun e w' => e = .returned (.bool (sameW l l2)) ∧ Drn w w' := by
  have HN := Lib.hid hn
  have HN2 := Lib.hid hn2
  by_cases hnm : n = m
  · subst hnm
    clear hn hn2
    go_enter Try.func22, Try.ntmps22
    go_wp2_with fail
    go_loopw [13] (fun i wr => ∃ k : Nat, k ≤ n ∧ i = .int .i64 k ∧ Hid (l.take k = l2.take k) ∧ Drn w wr) (fun i _ => n - (intOf i).toNat)
    case atStart => exact ⟨0, Nat.zero_le _, rfl, rfl, Drn.refl _⟩
    case round =>
      obtain ⟨k, hk, rfl, hA, hD⟩ := hrel
      by_cases hlt : k < n
      · obtain ⟨x, hx⟩ : ∃ x, l[k]? = some x := ⟨_, List.getElem?_eq_getElem (show k < l.length by have := HN.out; omega)⟩
        obtain ⟨y, hy⟩ : ∃ y, l2[k]? = some y := ⟨_, List.getElem?_eq_getElem (show k < l2.length by have := HN2.out; omega)⟩
        obtain ⟨ad, rfl, _, hc⟩ := (hr.keep (hD.below B) (Nat.le_refl _)) k x hx
        obtain ⟨ad2, rfl, _, hc2⟩ := (hr2.keep (hD.below C) (Nat.le_refl _)) k y hy
        have i1 : (0 : Int) ≤ (k : Int) := by omega
        have i2 : (k : Int) < (n : Int) := by omega
        have HX := Lib.hid hx
        have HY := Lib.hid hy
        clear hx hy
        obtain ⟨c0, c1, c2, c3, c4, c5, c6, c7, c8, c9⟩ := wr_cells hc
        obtain ⟨d0, d1, d2, d3, d4, d5, d6, d7, d8, d9⟩ := wr_cells hc2
        clear hc hc2
        by_cases hxy : x = y
        · subst hxy
          have he := fun W => wr_eq x W
          have HA2 : Hid (l.take (k + 1) = l2.take (k + 1)) := by
            show _ = _
            rw [List.take_add_one, List.take_add_one, HX.out, HY.out, hA.out]
          clear hA
          go_wp2_with fail
          go_quiet (fail)
          go_wp2_with fail
          go_roundw
          case rel => exact ⟨k + 1, by omega, by go_num, HA2, hD.draws _⟩
          case measure => simp [intOf]; omega
        · have he := fun W => wr_neq hxy W
          have R := Lib.hid (sameW_no (l := l) (l2 := l2) fun e => by
            have h1 := HX.out
            rw [e, HY.out] at h1
            injection h1 with h1
            exact hxy h1.symm)
          clear hA hxy
          go_wp2_with fail
          go_quiet (fail)
          go_wp2_with fail
          go_ret
          exact ⟨ret_bool R.out.symm, hD.draws _⟩
      · have hq : ¬ (k : Int) < (n : Int) := by omega
        have R : Hid (sameW l l2 = true) := sameW_yes (by
          have h := hA.out
          rw [List.take_of_length_le (by have := HN.out; omega), List.take_of_length_le (by have := HN2.out; omega)] at h
          exact h)
        clear hA
        go_wp2_with fail
        go_ret
        exact ⟨ret_bool R.out.symm, hD⟩
  · have e0 : ((n : Int) != (m : Int)) = true := by rw [bne_iff_ne]; omega
    have R := Lib.hid (sameW_no (l := l) (l2 := l2) (fun e => hnm (by rw [← HN.out, ← HN2.out, e])))
    clear hnm hn hn2
    go_enter Try.func22, Try.ntmps22
    go_wp2_with fail
    go_ret
    exact ⟨ret_bool R.out.symm, Drn.refl _⟩
end Go.Proofs.Ytkfhkfddhijkcaa

namespace Go.Proofs.Ytkfhkfddhijkcaa
open Go.RowKit

def valOf (st : Rest) : (Int × Int × List UInt8) × Rest := match st with
  | none => ((0, 0, []), none)
  | some b => if (takeValB b).2 = 0 then ((0, 0, []), none) else ((takeValB b).1, some (b.drop (takeValB b).2))
abbrev wrNo : Wr := ⟨0, 0, 0, ⟨#[]⟩, 0, 0, ⟨#[]⟩, 0, 0, ⟨#[]⟩⟩
noncomputable def wrOf (st : Rest) : Wr × Rest := match st with
  | none => (wrNo, none)
  | some b => if (takeWrB b).2 = 0 then (wrNo, none) else ((takeWrB b).1, some (b.drop (takeWrB b).2))
noncomputable def wrsOf (st : Rest) (most : Nat) : List Wr × Rest := match st with
  | none => ([], none)
  | some b => if (takeWrsB b most).2 = 0 then ([], none) else ((takeWrsB b most).1, some (b.drop (takeWrsB b most).2))
end Go.Proofs.Ytkfhkfddhijkcaa
