/-
  WHAT IS PROVED: the document's taking of writes from bytes (spinneyref05.TakeWrite). Conditions: those typed in the theorem. · words for slices of writes that the call owns (own work); append of one write onto such a row. Over any program that bears the types named. · the document's taking of lists of writes from bytes (spinneyref05.TakeWrites). Conditions: those typed in the theorem. · whether two lists of writes are the same (spinneyref03.Same), for all slices of writes. Conditions: those typed in the theorem. · nothing but plain facts: as definitions, what the walks of layer 5's statements take of package pack's calls on values and writes. The definitions are proved elsewhere, of the code itself. · plain facts: the steps by which package pack's reader takes a value come to what the chapter says is taken. No program is spoken of. · plain facts on things that are taken from bytes one behind the other, as many as a number ahead of them tells: step by step as a reader takes them, and as the document does; what is put is taken again. No program is spoken of.
-/
import Derived.Test.YtpjleeeligahaaaGreatDoorGQ5
import Derived.Test.YtpjleeeligahaaaGreatDoorGQ3
import Derived.Deep.Cut
import Derived.Test.YtpjleeeligahaaaGreatDoorGQ0
import Derived.Test.YtpjleeeligahaaaGreatDoorGQ4
namespace Go.Proofs.YtpjleeeligahaaaGreatDoor
open Go.RowKit
attribute [local go_sem ↓] Go.wp_at_zero Go.wp_at_succ

/-- Where the three numbers stand. -/
def posW (l : List UInt8) : Nat → Nat
  | 0 => 0
  | j + 1 => posW l j + (takeNum (l.drop (posW l j)) 1000).2
/-- The number that stands at the j-th place; how many bytes. -/
def numW (l : List UInt8) (j : Nat) : Nat × Nat := takeNum (l.drop (posW l j)) 1000
theorem posW_succ (l : List UInt8) (j : Nat) : posW l (j + 1) = posW l j + (numW l j).2 := rfl
/-- What the array holds ahead of round j. -/
def cellW (l : List UInt8) (j i : Nat) : Value := if i < j then .int .i64 ((numW l i).1 : Nat) else .int .i64 0
abbrev rowW (l : List UInt8) (j : Nat) : Array Value := #[cellW l j 0, cellW l j 1, cellW l j 2]
abbrev zeroW : Array Value := wrI 0 0 0 ⟨#[]⟩ 0 0 ⟨#[]⟩ 0 0 ⟨#[]⟩
theorem numW_lt (l : List UInt8) (j : Nat) : (numW l j).1 ≤ 1000 ∧ (numW l j).2 ≤ 9 := ⟨(takeNum_lt _ 1000).2.1, (takeNum_lt _ 1000).2.2.1⟩
theorem posW_le (l : List UInt8) : ∀ j, posW l j ≤ l.length
  | 0 => Nat.zero_le _
  | j + 1 => by
    have h := posW_le l j
    have k := (takeNum_lt (l.drop (posW l j)) 1000).2.2.2
    rw [List.length_drop] at k
    show posW l j + (takeNum (l.drop (posW l j)) 1000).2 ≤ _
    omega

theorem blk_f10 {W : World} {b : Nat} {v0 v1 v2 v3 v4 v5 v6 v7 v8 v9 : Value} {t : TypeId} (h : Blk W b #[v0, v1, v2, v3, v4, v5, v6, v7, v8, v9] t) :
    W.frozen? ⟨b, 0, none⟩ = false ∧ W.frozen? ⟨b, 1, none⟩ = false ∧ W.frozen? ⟨b, 2, none⟩ = false ∧ W.frozen? ⟨b, 3, none⟩ = false ∧ W.frozen? ⟨b, 4, none⟩ = false ∧ W.frozen? ⟨b, 5, none⟩ = false ∧ W.frozen? ⟨b, 6, none⟩ = false ∧ W.frozen? ⟨b, 7, none⟩ = false ∧ W.frozen? ⟨b, 8, none⟩ = false ∧ W.frozen? ⟨b, 9, none⟩ = false :=
  ⟨h.free 0, h.free 1, h.free 2, h.free 3, h.free 4, h.free 5, h.free 6, h.free 7, h.free 8, h.free 9⟩
theorem below10 {B b : Nat} {w W : World} (h : Below B w W) (hb : B ≤ b) (v0 v1 v2 v3 v4 v5 v6 v7 v8 v9 : Value) : Below B w ((((((((((W.setCell ⟨b, 0, none⟩ v0).setCell ⟨b, 1, none⟩ v1).setCell ⟨b, 2, none⟩ v2).setCell ⟨b, 3, none⟩ v3).setCell ⟨b, 4, none⟩ v4).setCell ⟨b, 5, none⟩ v5).setCell ⟨b, 6, none⟩ v6).setCell ⟨b, 7, none⟩ v7).setCell ⟨b, 8, none⟩ v8).setCell ⟨b, 9, none⟩ v9) := ((((((((((h.setCell (p := ⟨b, 0, none⟩) hb v0).setCell (p := ⟨b, 1, none⟩) hb v1).setCell (p := ⟨b, 2, none⟩) hb v2).setCell (p := ⟨b, 3, none⟩) hb v3).setCell (p := ⟨b, 4, none⟩) hb v4).setCell (p := ⟨b, 5, none⟩) hb v5).setCell (p := ⟨b, 6, none⟩) hb v6).setCell (p := ⟨b, 7, none⟩) hb v7).setCell (p := ⟨b, 8, none⟩) hb v8).setCell (p := ⟨b, 9, none⟩) hb v9)
theorem rowW_set (l : List UInt8) {j v k : Nat} (hj : j < 3) (h : numW l j = (v, k)) : (rowW l j).setIfInBounds j (.int .i64 (v : Int)) = rowW l (j + 1) := by
  have e : j = 0 ∨ j = 1 ∨ j = 2 := by omega
  rcases e with rfl | rfl | rfl <;> simp [rowW, cellW, h]
theorem takeVal_le (l : List UInt8) : (takeValB l).2 ≤ l.length := by
  unfold takeValB takeValC
  have h := (takeNum_lt l 2).2.2.2
  have h1 := takeInt_le (l.drop (takeNum l 2).2)
  have h2 := takeText_le (l.drop (takeNum l 2).2) 40
  rw [List.length_drop] at h1 h2
  repeat' split
  all_goals simp only
  all_goals omega
/-- The text, the two values behind the numbers. -/
def textW (l : List UInt8) : List UInt8 × Nat := takeTextB (l.drop (posW l 3)) 20
def val1W (l : List UInt8) : (Int × Int × List UInt8) × Nat := takeValB (l.drop (posW l 3 + (textW l).2))
def val2W (l : List UInt8) : (Int × Int × List UInt8) × Nat := takeValB (l.drop (posW l 3 + (textW l).2 + (val1W l).2))
/-- What stands there, good or not. -/
def gotW (l : List UInt8) : Wr := ⟨((numW l 0).1 : Nat), ((numW l 1).1 : Nat), ((numW l 2).1 : Nat), ⟨(textW l).1.toArray⟩, (val1W l).1.1, (val1W l).1.2.1, ⟨(val1W l).1.2.2.toArray⟩, (val2W l).1.1, (val2W l).1.2.1, ⟨(val2W l).1.2.2.toArray⟩⟩
def stdW (l : List UInt8) : Prop := (∀ m, m < 3 → (numW l m).2 ≠ 0) ∧ (textW l).2 ≠ 0 ∧ (val1W l).2 ≠ 0 ∧ (val2W l).2 ≠ 0 ∧ (gotW l).good = true
open Classical in
/-- A write, taken; how many bytes; 0: no good one stands there. -/
noncomputable def takeWrB (l : List UInt8) : Wr × Nat :=
  if stdW l then (gotW l, posW l 3 + (textW l).2 + (val1W l).2 + (val2W l).2) else (⟨0, 0, 0, ⟨#[]⟩, 0, 0, ⟨#[]⟩, 0, 0, ⟨#[]⟩⟩, 0)
theorem takeWr_no {l : List UInt8} (h : ¬ stdW l) : takeWrB l = (⟨0, 0, 0, ⟨#[]⟩, 0, 0, ⟨#[]⟩, 0, 0, ⟨#[]⟩⟩, 0) := if_neg h
theorem takeWr_yes {l : List UInt8} (h : stdW l) : takeWrB l = (gotW l, posW l 3 + (textW l).2 + (val1W l).2 + (val2W l).2) := if_pos h
/-- What TakeWrite answers. -/
def TakeWP (r : Wr × Nat) (w : World) (e : Ending) (w' : World) : Prop := e = .returned (.tuple #[.agg r.1.cells, .int .i64 (r.2 : Nat)]) ∧ Below w.heap.size w w'

theorem takeText_sz (l : List UInt8) (most : Nat) : (takeTextB l most).1.length ≤ l.length := by
  unfold takeTextB
  split
  · simp
  · simp only [List.length_take, List.length_drop]
    omega
theorem takeVal_sz (l : List UInt8) : (takeValB l).1.2.2.length ≤ l.length := by
  unfold takeValB takeValC
  have h2 := takeText_sz (l.drop (takeNum l 2).2) 40
  rw [List.length_drop] at h2
  repeat' split
  all_goals simp only [List.length_nil]
  all_goals omega
theorem ba_of {s : ByteArray} {l : List UInt8} (h : s.data.toList = l) : s = ⟨l.toArray⟩ := by
  subst h
  cases s
  simp
end Go.Proofs.YtpjleeeligahaaaGreatDoor

namespace Go.Proofs.YtpjleeeligahaaaGreatDoor
open Go.RowKit

/-- The cells of writes. -/
abbrev wrV (l : List Wr) : List Value := l.flatMap fun x => x.cells.toList
theorem wrV_len (l : List Wr) : (wrV l).length = l.length * 10 := by
  induction l with
  | nil => rfl
  | cons x t ih =>
    show (x.cells.toList ++ wrV t).length = _
    rw [List.length_append, ih]
    show 10 + t.length * 10 = (t.length + 1) * 10
    omega
theorem wrV_get : ∀ (l : List Wr) (k j : Nat) (x : Wr) (v : Value), l[k]? = some x → x.cells[j]? = some v → (wrV l)[k * 10 + j]? = some v
  | [], k, j, x, v, h, _ => by simp at h
  | y :: t, 0, j, x, v, h, hv => by
    have e : y = x := by simpa using h
    subst e
    have hj : j < 10 := by
      have := (Array.getElem?_eq_some_iff.1 hv).1
      simpa using this
    show (y.cells.toList ++ wrV t)[0 * 10 + j]? = _
    rw [List.getElem?_append_left (by show _ < 10; omega), Nat.zero_mul, Nat.zero_add, Array.getElem?_toList]
    exact hv
  | y :: t, k + 1, j, x, v, h, hv => by
    have h2 : t[k]? = some x := by simpa using h
    have ih := wrV_get t k j x v h2 hv
    show (y.cells.toList ++ wrV t)[(k + 1) * 10 + j]? = _
    rw [List.getElem?_append_right (by show 10 ≤ _; omega)]
    show (wrV t)[(k + 1) * 10 + j - 10]? = _
    rw [show (k + 1) * 10 + j - 10 = k * 10 + j by omega]
    exact ih
/-- A row of writes that the call owns, in blocks from base on. -/
def OwnW (base : Nat) (W : World) (A : Option Addr) (n c : Nat) (l : List Wr) : Prop := W.ownsRow base 47 10 (.slice A n c) n (wrV l)
theorem OwnW.nil (base : Nat) (W : World) : OwnW base W none 0 0 [] := World.ownsRow_nil W base 47 10
theorem OwnW.len {base : Nat} {W : World} {A : Option Addr} {n c : Nat} {l : List Wr} (h : OwnW base W A n c l) : l.length = n := by
  have h1 := h.1
  have h2 := wrV_len l
  omega
theorem OwnW.rd {base : Nat} {W : World} {A : Option Addr} {n c : Nat} {l : List Wr} (h : OwnW base W A n c l) : RdW W.heap.size W A l := by
  intro k x hx
  have hk := (List.getElem?_eq_some_iff.1 hx).1
  have hl := h.len
  obtain ⟨g, cap, hv, _, hlt⟩ := World.ownsRow.form h (by omega)
  injection hv with hv
  subst hv
  exact ⟨_, rfl, hlt, fun j v hj => h.cells (g := g) rfl _ _ (wrV_get l k j x v hx hj)⟩
theorem OwnW.keep {base : Nat} {W W' : World} {A : Option Addr} {n c : Nat} {l : List Wr} (h : OwnW base W A n c l) (hb : Below W.heap.size W W') : OwnW base W' A n c l :=
  World.ownsRow.kept h (row := none) ⟨hb.os, hb.tape, hb.output, hb.size, fun k hk _ => hb.block k hk⟩ (by cases A <;> simp [Value.ownBlock])
theorem OwnW.less {base b2 : Nat} {W : World} {A : Option Addr} {n c : Nat} {l : List Wr} (h : OwnW base W A n c l) (hb : b2 ≤ base) : OwnW b2 W A n c l := by
  refine ⟨h.1, ?_⟩
  rcases h.2 with h | ⟨g, cap, cur, h1, h2, h3⟩
  · exact .inl h
  · exact .inr ⟨g, cap, cur, h1, by omega, h3⟩
theorem wr_info : (Tryz.prog.info? 47).map (fun i => (i.zero, i.size, i.bytes)) = some (some (.agg (wrI 0 0 0 ⟨#[]⟩ 0 0 ⟨#[]⟩ 0 0 ⟨#[]⟩)), 10, 104) := by kernel_rfl
theorem wr_one (x : Wr) : ∀ u ∈ x.cells.toList, u.oneCell' = true := by
  intro u hu
  simp only [List.mem_cons, List.not_mem_nil, or_false] at hu
  rcases hu with rfl | rfl | rfl | rfl | rfl | rfl | rfl | rfl | rfl | rfl <;> rfl
/-- Append of one write onto a row of the call's own. -/
theorem run_apW {P : Program} (w : World) {t t' e' ty : TypeId} {i : TypeInfo} (ht : P.underlying t = some (.slice 47)) (ht' : P.underlying t' = some (.slice e')) (hi : P.info? 47 = some i) (hz : i.zero = some (.agg (wrI 0 0 0 ⟨#[]⟩ 0 0 ⟨#[]⟩ 0 0 ⟨#[]⟩))) (hs : i.size = 10) (hy : i.bytes = 104)
    {base : Nat} {A : Option Addr} {ad : Addr} {n c d : Nat} {l : List Wr} {x : Wr} (hown : OwnW base w A n c l) (hr : ∀ j v, x.cells[j]? = some v → w.cell? (ad.add j) = some v) (hsz : n ≤ 1000000) (hbase : base ≤ w.heap.size) :
    ∃ A' c' w', (Builtin.append_ #[t, t'] ty #[.slice A n c, .slice (some ad) 1 d]).run P w = .ok (.slice A' (n + 1) c') w' ∧ OwnW base w' A' (n + 1) c' (l ++ [x]) ∧ Below base w w' := by
  obtain ⟨v', w', hrun, h2, h3, _, _⟩ := run_append_own_at (P := P) w base t ty 47 i (.agg (wrI 0 0 0 ⟨#[]⟩ 0 0 ⟨#[]⟩ 0 0 ⟨#[]⟩)) 10 104 ht hi hz hs hy rfl (by omega) (.slice A n c) n (wrV l) hown ad 1 d x.cells.toList rfl (fun j u hu => hr j u (by rw [← Array.getElem?_toList]; exact hu)) (wr_one x)
    (by unfold maxLen; omega) (by omega) hbase
  have hb : Below base w w' := (Below.refl base w).grown h3 hbase (fun k hk => (World.ownsRow.lt hown k hk).1)
  have hv : ∃ A' c', v' = .slice A' (n + 1) c' := by
    rcases h2.2 with ⟨_, e2⟩ | ⟨g, cap, cur, e1, _⟩
    · omega
    · exact ⟨_, _, e1⟩
  obtain ⟨A', c', rfl⟩ := hv
  refine ⟨A', c', w', by rw [run_append_tt w ht ht']; exact hrun, ?_, hb⟩
  unfold OwnW
  rw [show wrV (l ++ [x]) = wrV l ++ x.cells.toList by simp [wrV]]
  exact h2
section
variable {P : Program} {w : World} {t t' e' : TypeId} {i : TypeInfo} {base : Nat} {A : Option Addr} {ad : Addr} {n c d : Nat} {l : List Wr} {xx : Wr} {o : Oper} {a : Act} {Q : Exit → Act → World → Prop} {ops : Array Oper}
/-- .. in a plain region. -/
theorem wpList_apW {rest : List Oper} (hgd : o.guard = none) (s x : Operand) (ho : o.op = .call { callee := .builtin .append, args := #[s, x], argTypes := #[t, t'] })
    (ht : P.underlying t = some (.slice 47)) (ht' : P.underlying t' = some (.slice e')) (hi : P.info? 47 = some i) (hz : i.zero = some (.agg (wrI 0 0 0 ⟨#[]⟩ 0 0 ⟨#[]⟩ 0 0 ⟨#[]⟩))) (hs : i.size = 10) (hy : i.bytes = 104)
    (h1 : a.eval s = .slice A n c) (h2 : a.eval x = .slice (some ad) 1 d) (hown : OwnW base w A n c l) (hr : ∀ j v, xx.cells[j]? = some v → w.cell? (ad.add j) = some v) (hsz : n ≤ 1000000) (hbase : base ≤ w.heap.size)
    (h : ∀ A' c' w', OwnW base w' A' (n + 1) c' (l ++ [xx]) → Below base w w' → wpList P ops Q rest (a.put o.dst (.slice A' (n + 1) c')) w') : wpList P ops Q (o :: rest) a w := by
  refine wpList_plain hgd fun _ hK => ?_
  obtain ⟨A', c', w', hrun, k1, k2⟩ := run_apW (P := P) (ty := o.type) (d := d) w ht ht' hi hz hs hy hown hr hsz hbase
  unfold Oper.wp execOp
  simp only [ho, resolve, invoke, builtin, Sem.run_bind, Sem.run_pure, Result.andThen_ok, List.map_toArray, List.map_cons, List.map_nil, h1, h2, hrun]
  exact hK _ _ (h A' c' w' k1 k2)
end
end Go.Proofs.YtpjleeeligahaaaGreatDoor

namespace Go.Proofs.YtpjleeeligahaaaGreatDoor
open Go.RowKit
attribute [local go_sem ↓] Go.wp_at_zero Go.wp_at_succ

/-- Where the first j writes end; are they all there? -/
noncomputable def posWs (l : List UInt8) (most : Nat) : Nat → Nat
  | 0 => (takeNum l most).2
  | j + 1 => posWs l most j + (takeWrB (l.drop (posWs l most j))).2
noncomputable def nthWs (l : List UInt8) (most j : Nat) : Wr × Nat := takeWrB (l.drop (posWs l most j))
noncomputable def listWs (l : List UInt8) (most : Nat) : Nat → List Wr
  | 0 => []
  | j + 1 => listWs l most j ++ [(nthWs l most j).1]
def stdWs (l : List UInt8) (most : Nat) : Prop := (takeNum l most).2 ≠ 0 ∧ ∀ j, j < (takeNum l most).1 → (nthWs l most j).2 ≠ 0
open Classical in
/-- Writes, taken; how many bytes; 0: they don't stand there. -/
noncomputable def takeWrsB (l : List UInt8) (most : Nat) : List Wr × Nat :=
  if stdWs l most then (listWs l most (takeNum l most).1, posWs l most (takeNum l most).1) else ([], 0)
theorem takeWrs_no {l : List UInt8} {most : Nat} (h : ¬ stdWs l most) : takeWrsB l most = ([], 0) := if_neg h
theorem takeWrs_yes {l : List UInt8} {most : Nat} (h : stdWs l most) : takeWrsB l most = (listWs l most (takeNum l most).1, posWs l most (takeNum l most).1) := if_pos h
theorem listWs_len (l : List UInt8) (most : Nat) : ∀ j, (listWs l most j).length = j
  | 0 => rfl
  | j + 1 => by
    show (listWs l most j ++ [_]).length = _
    rw [List.length_append, listWs_len l most j]
    rfl
theorem takeWr_le (l : List UInt8) : (takeWrB l).2 ≤ l.length := by
  by_cases h : stdW l
  · rw [takeWr_yes h]
    have h1 := posW_le l 3
    have h2 := takeText_le (l.drop (posW l 3)) 20
    have h3 := takeVal_le (l.drop (posW l 3 + (textW l).2))
    have h4 := takeVal_le (l.drop (posW l 3 + (textW l).2 + (val1W l).2))
    rw [List.length_drop] at h2 h3 h4
    have e2 : (textW l).2 = (takeTextB (l.drop (posW l 3)) 20).2 := rfl
    have e3 : (val1W l).2 = (takeValB (l.drop (posW l 3 + (textW l).2))).2 := rfl
    have e4 : (val2W l).2 = (takeValB (l.drop (posW l 3 + (textW l).2 + (val1W l).2))).2 := rfl
    show posW l 3 + (textW l).2 + (val1W l).2 + (val2W l).2 ≤ _
    omega
  · rw [takeWr_no h]
    exact Nat.zero_le _
theorem posWs_le (l : List UInt8) (most : Nat) : ∀ j, posWs l most j ≤ l.length
  | 0 => (takeNum_lt l most).2.2.2
  | j + 1 => by
    have h := posWs_le l most j
    have k := takeWr_le (l.drop (posWs l most j))
    rw [List.length_drop] at k
    show posWs l most j + (takeWrB (l.drop (posWs l most j))).2 ≤ _
    omega
theorem posWs_succ (l : List UInt8) (most j : Nat) : posWs l most (j + 1) = posWs l most j + (nthWs l most j).2 := rfl
theorem add_zero_at (g j : Nat) : (⟨g, 0, none⟩ : Addr).add j = ⟨g, j, none⟩ := by
  unfold Addr.add
  by_cases h : j = 0
  · rw [if_pos h, h]
  · rw [if_neg h]
    simp
theorem new_cells (W : World) (x : Wr) (t : TypeId) : ∀ j v, x.cells[j]? = some v → (W.alloc (.cells x.cells t)).cell? ((⟨W.heap.size, 0, none⟩ : Addr).add j) = some v := by
  intro j v hv
  rw [add_zero_at, (blk_new W x.cells t).cell j]
  exact hv
/-- What TakeWrites answers: a slice that the call owns, nil of none. -/
def TakeWsP (r : List Wr × Nat) (w : World) (e : Ending) (w' : World) : Prop :=
  (∃ (A : Option Addr) (n c : Nat), e = .returned (.tuple #[.slice A n c, .int .i64 (r.2 : Nat)]) ∧ OwnW w.heap.size w' A n c r.1) ∧ Below w.heap.size w w'

end Go.Proofs.YtpjleeeligahaaaGreatDoor

namespace Go.Proofs.YtpjleeeligahaaaGreatDoor
open Go.RowKit
attribute [local go_sem ↓] Go.wp_at_zero Go.wp_at_succ

theorem str_ext {a b : ByteArray} (h : a.toList = b.toList) : a = b := by
  rw [ByteArray.toList_eq, ByteArray.toList_eq] at h
  cases a
  cases b
  simp only at h
  congr 1
  exact Array.toList_inj.1 h
theorem wr_neq {x y : Wr} (h : x ≠ y) (W : World) : (binOp .neq 47 (.agg x.cells) (.agg y.cells)).run Tryz.prog W = .ok (.bool true) W := by
  go_simp
  intro h0 h1 h2 h3 h4 h5 h6 h7 h8 h9
  refine h ?_
  have e3 := str_ext h3
  have e6 := str_ext h6
  have e9 := str_ext h9
  cases x
  cases y
  simp only at h0 h1 h2 e3 h4 h5 e6 h7 h8 e9
  simp only [h0, h1, h2, e3, h4, h5, e6, h7, h8, e9]
theorem wr_eq (x : Wr) (W : World) : (binOp .neq 47 (.agg x.cells) (.agg x.cells)).run Tryz.prog W = .ok (.bool false) W := by
  go_simp
open Classical in
/-- The same lists? -/
noncomputable def sameW (l l2 : List Wr) : Bool := decide (l = l2)
theorem sameW_iff (l l2 : List Wr) : sameW l l2 = true ↔ l = l2 := by
  unfold sameW
  simp
theorem sameW_no {l l2 : List Wr} (h : l ≠ l2) : sameW l l2 = false := Bool.eq_false_iff.2 fun e => h ((sameW_iff l l2).1 e)
theorem sameW_yes {l l2 : List Wr} (h : l = l2) : sameW l l2 = true := (sameW_iff l l2).2 h

set_option maxRecDepth 100000 in
set_option maxHeartbeats 4000000 in
theorem refWrSame_any {B C : Nat} (A A2 : Option Addr) (n c m d : Nat) (l l2 : List Wr) (w : World) (hn : l.length = n) (hr : RdW B w A l) (_hB : B ≤ w.heap.size) (hm : n ≤ 1000000) (hn2 : l2.length = m) (hr2 : RdW C w A2 l2) (_hC : C ≤ w.heap.size) :
    Calls Tryz.prog 51 #[.slice A n c, .slice A2 m d] w fun e w' => e = .returned (.bool (sameW l l2)) ∧ Drn w w' := by
  have HN := Lib.hid hn
  have HN2 := Lib.hid hn2
  by_cases hnm : n = m
  · subst hnm
    clear hn hn2
    go_enter Tryz.func51, Tryz.ntmps51
    go_wp2_with fail
    go_loopw [13] (fun i wr => ∃ k : Nat, k ≤ n ∧ i = .int .i64 k ∧ Hid (l.take k = l2.take k) ∧ Drn w wr) (fun i _ => n - (intOf i).toNat)
    case atStart => exact ⟨0, Nat.zero_le _, rfl, rfl, Drn.refl _⟩
    case round =>
      obtain ⟨k, hk, rfl, hA, hD⟩ := hrel
      by_cases hlt : k < n
      · obtain ⟨x, hx⟩ : ∃ x, l[k]? = some x := ⟨_, List.getElem?_eq_getElem (show k < l.length by have := HN.out; omega)⟩
        obtain ⟨y, hy⟩ : ∃ y, l2[k]? = some y := ⟨_, List.getElem?_eq_getElem (show k < l2.length by have := HN2.out; omega)⟩
        obtain ⟨ad, rfl, _, hc⟩ := (hr.keep (hD.below B) (Nat.le_refl _)) k x hx
        obtain ⟨ad2, rfl, _, hc2⟩ := (hr2.keep (hD.below C) (Nat.le_refl _)) k y hy
        have i1 : (0 : Int) ≤ (k : Int) := by omega
        have i2 : (k : Int) < (n : Int) := by omega
        have HX := Lib.hid hx
        have HY := Lib.hid hy
        clear hx hy
        obtain ⟨c0, c1, c2, c3, c4, c5, c6, c7, c8, c9⟩ := wr_cells hc
        obtain ⟨d0, d1, d2, d3, d4, d5, d6, d7, d8, d9⟩ := wr_cells hc2
        clear hc hc2
        by_cases hxy : x = y
        · subst hxy
          have he := fun W => wr_eq x W
          have HA2 : Hid (l.take (k + 1) = l2.take (k + 1)) := by
            show _ = _
            rw [List.take_add_one, List.take_add_one, HX.out, HY.out, hA.out]
          clear hA
          go_wp2_with fail
          go_quiet (fail)
          go_wp2_with fail
          go_roundw
          case rel => exact ⟨k + 1, by omega, by go_num, HA2, hD.draws _⟩
          case measure => simp [intOf]; omega
        · have he := fun W => wr_neq hxy W
          have R := Lib.hid (sameW_no (l := l) (l2 := l2) fun e => by
            have h1 := HX.out
            rw [e, HY.out] at h1
            injection h1 with h1
            exact hxy h1.symm)
          clear hA hxy
          go_wp2_with fail
          go_quiet (fail)
          go_wp2_with fail
          go_ret
          exact ⟨ret_bool R.out.symm, hD.draws _⟩
      · have hq : ¬ (k : Int) < (n : Int) := by omega
        have R : Hid (sameW l l2 = true) := sameW_yes (by
          have h := hA.out
          rw [List.take_of_length_le (by have := HN.out; omega), List.take_of_length_le (by have := HN2.out; omega)] at h
          exact h)
        clear hA
        go_wp2_with fail
        go_ret
        exact ⟨ret_bool R.out.symm, hD⟩
  · have e0 : ((n : Int) != (m : Int)) = true := by rw [bne_iff_ne]; omega
    have R := Lib.hid (sameW_no (l := l) (l2 := l2) (fun e => hnm (by rw [← HN.out, ← HN2.out, e])))
    clear hnm hn hn2
    go_enter Tryz.func51, Tryz.ntmps51
    go_wp2_with fail
    go_ret
    exact ⟨ret_bool R.out.symm, Drn.refl _⟩
end Go.Proofs.YtpjleeeligahaaaGreatDoor

namespace Go.Proofs.YtpjleeeligahaaaGreatDoor
open Go.RowKit

def valOf (st : Rest) : (Int × Int × List UInt8) × Rest := match st with
  | none => ((0, 0, []), none)
  | some b => if (takeValB b).2 = 0 then ((0, 0, []), none) else ((takeValB b).1, some (b.drop (takeValB b).2))
abbrev wrNo : Wr := ⟨0, 0, 0, ⟨#[]⟩, 0, 0, ⟨#[]⟩, 0, 0, ⟨#[]⟩⟩
noncomputable def wrOf (st : Rest) : Wr × Rest := match st with
  | none => (wrNo, none)
  | some b => if (takeWrB b).2 = 0 then (wrNo, none) else ((takeWrB b).1, some (b.drop (takeWrB b).2))
noncomputable def wrsOf (st : Rest) (most : Nat) : List Wr × Rest := match st with
  | none => ([], none)
  | some b => if (takeWrsB b most).2 = 0 then ([], none) else ((takeWrsB b most).1, some (b.drop (takeWrsB b most).2))
end Go.Proofs.YtpjleeeligahaaaGreatDoor

namespace Go.Proofs.YtpjleeeligahaaaGreatDoor

/-- A number of at most less. -/
theorem num_most (b : List UInt8) {m M : Nat} (h : m ≤ M) : takeNum b m = if (takeNum b M).2 = 0 then (0, 0) else if (takeNum b M).1 ≤ m then takeNum b M else (0, 0) := by
  cases b with
  | nil => rfl
  | cons c t =>
    rw [takeNum_cons, takeNum_cons]
    by_cases hc : 8 < c.toNat ∨ t.length < c.toNat ∨ (0 < c.toNat ∧ t.head? = some 0)
    · simp only [if_pos hc]
      rfl
    · simp only [if_neg hc]
      by_cases h1 : M < beV (t.take c.toNat)
      · have h2 : m < beV (t.take c.toNat) := by omega
        simp [h1, h2]
      · by_cases h2 : m < beV (t.take c.toNat)
        · have h3 : ¬ beV (t.take c.toNat) ≤ m := by omega
          simp [h1, h2, h3]
        · have h3 : beV (t.take c.toNat) ≤ m := by omega
          simp [h1, h2, h3]
/-- .. as a reader has it. -/
theorem numOf_most (st : Rest) {m M : Nat} (h : m ≤ M) : numOf st m = if (numOf st M).1 ≤ m then numOf st M else (0, none) := by
  cases st with
  | none => exact (if_pos (Nat.zero_le m)).symm
  | some b =>
    unfold numOf
    dsimp only
    rw [num_most b h]
    by_cases h0 : (takeNum b M).2 = 0
    · simp [h0]
    · by_cases h1 : (takeNum b M).1 ≤ m
      · simp [h0, h1]
      · simp [h0, h1]
theorem numOf_none {st : Rest} {m : Nat} (h : (numOf st m).2 = none) : (numOf st m).1 = 0 := by
  cases st with
  | none => rfl
  | some b =>
    revert h
    unfold numOf
    dsimp only
    by_cases h0 : (takeNum b m).2 = 0
    · simp [h0]
    · simp [h0]

abbrev valZ : Int × Int × List UInt8 := (0, 0, [])
/-- What a reader takes of a value, step by step. -/
def valM (st : Rest) : (Int × Int × List UInt8) × Rest :=
  if (numOf st 9223372036854775807).1 = 1 then (soundM valZ (intOfR (numOf st 9223372036854775807).2).2 (1, (intOfR (numOf st 9223372036854775807).2).1, []), (intOfR (numOf st 9223372036854775807).2).2)
  else if (numOf st 9223372036854775807).1 = 2 then (soundM valZ (textOf (numOf st 9223372036854775807).2 40).2 (2, 0, (textOf (numOf st 9223372036854775807).2 40).1), (textOf (numOf st 9223372036854775807).2 40).2)
  else (valZ, mustM (decide ((numOf st 9223372036854775807).1 = 0)) (numOf st 9223372036854775807).2)
theorem val_is (st : Rest) : valM st = valOf st := by
  cases st with
  | none => rfl
  | some b =>
    have hm := numOf_most (some b) (show 2 ≤ 9223372036854775807 by omega)
    have hv : valOf (some b) = if (takeValC (takeNum b 2).1 (takeNum b 2).2 b).2 = 0 then (valZ, none) else ((takeValC (takeNum b 2).1 (takeNum b 2).2 b).1, some (b.drop (takeValC (takeNum b 2).1 (takeNum b 2).2 b).2)) := rfl
    have hn : numOf (some b) 2 = if (takeNum b 2).2 = 0 then (0, none) else ((takeNum b 2).1, some (b.drop (takeNum b 2).2)) := rfl
    rw [hn] at hm
    rw [hv]
    unfold valM
    generalize numOf (some b) 9223372036854775807 = p at hm ⊢
    generalize takeNum b 2 = T at hm ⊢
    clear hv hn
    obtain ⟨k, st1⟩ := p
    obtain ⟨v, q⟩ := T
    dsimp only at hm ⊢
    by_cases hk : k ≤ 2
    · rw [if_pos hk] at hm
      by_cases hq : q = 0
      · rw [if_pos hq] at hm
        injection hm with h1 h2
        subst h1 h2 hq
        simp [takeValC, mustM_none]
      · rw [if_neg hq] at hm
        injection hm with h1 h2
        subst h1 h2
        have hk3 : v = 0 ∨ v = 1 ∨ v = 2 := by omega
        rcases hk3 with rfl | rfl | rfl
        · simp [takeValC, mustM, hq]
        · by_cases hi : (takeIntB (b.drop q)).2 = 0
          · simp [takeValC, hq, intOfR, soundM, hi]
          · simp [takeValC, hq, intOfR, soundM, hi, List.drop_drop]
        · by_cases hi : (takeTextB (b.drop q) 40).2 = 0
          · simp [takeValC, hq, textOf, soundM, hi]
          · simp [takeValC, hq, textOf, soundM, hi, List.drop_drop]
    · rw [if_neg hk] at hm
      by_cases hq : q = 0
      · subst hq
        have h0 : ¬ k = 0 := by omega
        have h1 : ¬ k = 1 := by omega
        have h2 : ¬ k = 2 := by omega
        simp [takeValC, mustM, h0, h1, h2]
      · rw [if_neg hq] at hm
        injection hm with _ h2
        cases h2
end Go.Proofs.YtpjleeeligahaaaGreatDoor

namespace Go.Proofs.YtpjleeeligahaaaGreatDoor

section
variable {α : Type}
/-- Where the j-th of them begins, the first one at p. f: what stands at the front, and how many bytes it has; 0: none does. -/
def posG (f : List UInt8 → α × Nat) (l : List UInt8) (p : Nat) : Nat → Nat
  | 0 => p
  | j + 1 => posG f l p j + (f (l.drop (posG f l p j))).2
def nthG (f : List UInt8 → α × Nat) (l : List UInt8) (p j : Nat) : α × Nat := f (l.drop (posG f l p j))
def listG (f : List UInt8 → α × Nat) (l : List UInt8) (p : Nat) : Nat → List α
  | 0 => []
  | j + 1 => listG f l p j ++ [(nthG f l p j).1]
theorem posG_succ (f : List UInt8 → α × Nat) (l : List UInt8) (p j : Nat) : posG f l p (j + 1) = posG f l p j + (nthG f l p j).2 := rfl
theorem listG_succ (f : List UInt8 → α × Nat) (l : List UInt8) (p j : Nat) : listG f l p (j + 1) = listG f l p j ++ [(nthG f l p j).1] := rfl
theorem listG_len (f : List UInt8 → α × Nat) (l : List UInt8) (p : Nat) : ∀ j, (listG f l p j).length = j
  | 0 => rfl
  | j + 1 => by rw [listG_succ, List.length_append, listG_len f l p j]; rfl
theorem posG_le {f : List UInt8 → α × Nat} (hf : ∀ b, (f b).2 ≤ b.length) {l : List UInt8} {p : Nat} (hp : p ≤ l.length) : ∀ j, posG f l p j ≤ l.length
  | 0 => hp
  | j + 1 => by
    have h := posG_le hf hp j
    have k := hf (l.drop (posG f l p j))
    rw [List.length_drop] at k
    show posG f l p j + (f (l.drop (posG f l p j))).2 ≤ _
    omega
theorem posG_up (f : List UInt8 → α × Nat) (l : List UInt8) (p : Nat) : ∀ j, p ≤ posG f l p j
  | 0 => Nat.le_refl _
  | j + 1 => Nat.le_trans (posG_up f l p j) (by rw [posG_succ]; omega)
/-- Do n of them stand there? -/
def StdG (f : List UInt8 → α × Nat) (l : List UInt8) (p n : Nat) : Prop := ∀ j, j < n → (nthG f l p j).2 ≠ 0
theorem stdG_low {f : List UInt8 → α × Nat} {l : List UInt8} {p m : Nat} (hf : ∀ b, (f b).2 ≠ 0 → m ≤ (f b).2) : ∀ n, StdG f l p n → p + m * n ≤ posG f l p n
  | 0, _ => Nat.le_refl _
  | n + 1, h => by
    have h1 := stdG_low hf n fun j hj => h j (by omega)
    have h2 := hf _ (h n (by omega))
    rw [posG_succ]
    unfold nthG
    rw [Nat.mul_succ]
    omega
open Classical in
/-- As many as the number ahead tells, if they stand there and are good; how many bytes; 0: they don't. -/
noncomputable def takeG (f : List UInt8 → α × Nat) (good : List α → Bool) (l : List UInt8) (most : Nat) : List α × Nat :=
  if (takeNum l most).2 ≠ 0 ∧ StdG f l (takeNum l most).2 (takeNum l most).1 ∧ good (listG f l (takeNum l most).2 (takeNum l most).1) = true then (listG f l (takeNum l most).2 (takeNum l most).1, posG f l (takeNum l most).2 (takeNum l most).1) else ([], 0)
theorem takeG_yes {f : List UInt8 → α × Nat} {good : List α → Bool} {l : List UInt8} {most n k : Nat} (hq : takeNum l most = (n, k)) (h0 : k ≠ 0) (h1 : StdG f l k n) (h2 : good (listG f l k n) = true) : takeG f good l most = (listG f l k n, posG f l k n) := by
  unfold takeG
  rw [hq]
  exact if_pos ⟨h0, h1, h2⟩
theorem takeG_no {f : List UInt8 → α × Nat} {good : List α → Bool} {l : List UInt8} {most n k : Nat} (hq : takeNum l most = (n, k)) (h : k = 0 ∨ (∃ j, j < n ∧ (nthG f l k j).2 = 0) ∨ good (listG f l k n) = false) : takeG f good l most = ([], 0) := by
  unfold takeG
  rw [hq]
  refine if_neg ?_
  rintro ⟨h0, h1, h2⟩
  rcases h with h | ⟨j, hj, hz⟩ | h
  · exact h0 h
  · exact h1 j hj hz
  · rw [h2] at h
    cases h
/-- Either so or so. -/
theorem takeG_or (f : List UInt8 → α × Nat) (good : List α → Bool) (l : List UInt8) (most : Nat) : takeG f good l most = ([], 0) ∨ ((takeG f good l most).2 ≠ 0 ∧ good (takeG f good l most).1 = true) := by
  unfold takeG
  split
  · rename_i h
    refine .inr ⟨?_, h.2.2⟩
    have := posG_up f l (takeNum l most).2 (takeNum l most).1
    dsimp only
    omega
  · exact .inl rfl
theorem takeG_len {f : List UInt8 → α × Nat} {good : List α → Bool} {l : List UInt8} {most : Nat} : (takeG f good l most).1.length ≤ (takeNum l most).1 := by
  unfold takeG
  split
  · rw [listG_len]
    exact Nat.le_refl _
  · exact Nat.zero_le _

/-- A reader's steps: s is one. -/
def repG (s : Rest → α × Rest) : Nat → Rest → List α × Rest
  | 0, st => ([], st)
  | n + 1, st => match st with
    | none => ([], none)
    | some b => ((s (some b)).1 :: (repG s n (s (some b)).2).1, (repG s n (s (some b)).2).2)
theorem repG_none (s : Rest → α × Rest) : ∀ n, repG s n none = ([], none)
  | 0 => rfl
  | _ + 1 => rfl
theorem repG_more (s : Rest → α × Rest) (n : Nat) (b : List UInt8) : repG s (n + 1) (some b) = ((s (some b)).1 :: (repG s n (s (some b)).2).1, (repG s n (s (some b)).2).2) := rfl
/-- Such a step, of f. -/
def StepG (f : List UInt8 → α × Nat) (s : Rest → α × Rest) : Prop := ∀ b, ((f b).2 = 0 → (s (some b)).2 = none) ∧ ((f b).2 ≠ 0 → s (some b) = ((f b).1, some (b.drop (f b).2)))
theorem repG_at {f : List UInt8 → α × Nat} {s : Rest → α × Rest} (hs : StepG f s) (l : List UInt8) (p : Nat) : ∀ (r j : Nat),
    ((∀ i, j ≤ i → i < j + r → (nthG f l p i).2 ≠ 0) → listG f l p j ++ (repG s r (some (l.drop (posG f l p j)))).1 = listG f l p (j + r) ∧ (repG s r (some (l.drop (posG f l p j)))).2 = some (l.drop (posG f l p (j + r)))) ∧
    ((∃ i, j ≤ i ∧ i < j + r ∧ (nthG f l p i).2 = 0) → (repG s r (some (l.drop (posG f l p j)))).2 = none)
  | 0, j => ⟨fun _ => ⟨List.append_nil _, rfl⟩, fun ⟨i, h1, h2, _⟩ => by omega⟩
  | r + 1, j => by
    have ih := repG_at hs l p r (j + 1)
    have hw := hs (l.drop (posG f l p j))
    rw [repG_more]
    by_cases h0 : (nthG f l p j).2 = 0
    · refine ⟨fun h => absurd h0 (h j (Nat.le_refl _) (by omega)), fun _ => ?_⟩
      rw [hw.1 h0, repG_none]
    · rw [hw.2 h0, List.drop_drop]
      refine ⟨fun h => ?_, fun ⟨i, h1, h2, h3⟩ => ?_⟩
      · obtain ⟨e1, e2⟩ := ih.1 (fun i h1 h2 => h i (by omega) (by omega))
        rw [show j + (r + 1) = j + 1 + r by omega]
        refine ⟨?_, e2⟩
        rw [← e1, listG_succ, List.append_assoc]
        rfl
      · have hij : i ≠ j := by
          rintro rfl
          exact h0 h3
        exact ih.2 ⟨i, by omega, by omega, h3⟩
/-- What a reader takes of a list, and has left; nothing: an error. -/
noncomputable def outG (f : List UInt8 → α × Nat) (good : List α → Bool) (st : Rest) (most : Nat) : Option (List α × List UInt8) := match st with
  | none => none
  | some b => if (takeG f good b most).2 = 0 then none else some ((takeG f good b most).1, b.drop (takeG f good b most).2)
/-- .. step by step. -/
def gotG (s : Rest → α × Rest) (good : List α → Bool) (st : Rest) (most : Nat) : Option (List α × List UInt8) := match (repG s (numOf st most).1 (numOf st most).2).2 with
  | none => none
  | some b => if good (repG s (numOf st most).1 (numOf st most).2).1 = true then some ((repG s (numOf st most).1 (numOf st most).2).1, b) else none
theorem got_is {f : List UInt8 → α × Nat} {s : Rest → α × Rest} (hs : StepG f s) (good : List α → Bool) (st : Rest) (most : Nat) : gotG s good st most = outG f good st most := by
  cases st with
  | none => rfl
  | some b =>
    have hno : takeG f good b most = ([], 0) → outG f good (some b) most = none := fun h => by
      unfold outG
      dsimp only
      rw [h]
      exact if_pos rfl
    cases hq : takeNum b most with
    | mk n k =>
      have e0 : numOf (some b) most = if k = 0 then (0, none) else (n, some (b.drop (posG f b k 0))) := by
        unfold numOf
        dsimp only
        rw [hq]
        rfl
      unfold gotG
      by_cases h0 : k = 0
      · rw [if_pos h0] at e0
        rw [e0, hno (takeG_no hq (.inl h0))]
        rfl
      · rw [if_neg h0] at e0
        rw [e0]
        dsimp only
        have hr := repG_at hs b k n 0
        rw [Nat.zero_add] at hr
        by_cases hx : ∃ j, j < n ∧ (nthG f b k j).2 = 0
        · obtain ⟨j, h1, h2⟩ := hx
          rw [hr.2 ⟨j, Nat.zero_le _, h1, h2⟩, hno (takeG_no hq (.inr (.inl ⟨j, h1, h2⟩)))]
        · have hS : StdG f b k n := fun j hj hz => hx ⟨j, hj, hz⟩
          obtain ⟨e1, e2⟩ := hr.1 (fun i _ h2 => hS i h2)
          have e3 : (repG s n (some (b.drop (posG f b k 0)))).1 = listG f b k n := e1
          rw [e2, e3]
          dsimp only
          cases hg : good (listG f b k n) with
          | true =>
            rw [if_pos rfl]
            unfold outG
            dsimp only
            rw [takeG_yes hq h0 hS hg]
            dsimp only
            rw [if_neg]
            have := posG_up f b k n
            omega
          | false =>
            rw [if_neg Bool.false_ne_true, hno (takeG_no hq (.inr (.inr hg)))]
/-- What is put is taken again. -/
def PutG (f : List UInt8 → α × Nat) (E : α → List UInt8) (x : α) : Prop := ∀ r, f (E x ++ r) = (x, (E x).length)
theorem nthG_put {f : List UInt8 → α × Nat} {E : α → List UInt8} (H : List UInt8) (l : List α) (r : List UInt8) (hg : ∀ x, x ∈ l → PutG f E x) : ∀ j, j ≤ l.length →
    posG f (H ++ l.flatMap E ++ r) H.length j = H.length + ((l.take j).flatMap E).length ∧ listG f (H ++ l.flatMap E ++ r) H.length j = l.take j ∧ (∀ q x, q < j → l[q]? = some x → nthG f (H ++ l.flatMap E ++ r) H.length q = (x, (E x).length))
  | 0, _ => ⟨by simp [posG], by simp [listG], fun q x hq => by omega⟩
  | j + 1, hj => by
    obtain ⟨h1, h2, h3⟩ := nthG_put H l r hg j (by omega)
    have hx : l[j]? = some l[j] := List.getElem?_eq_getElem (by omega)
    have hmem := List.mem_of_getElem? hx
    have hsplit : l = l.take j ++ l[j] :: l.drop (j + 1) := by
      rw [List.getElem_cons_drop, List.take_append_drop]
    have hn : nthG f (H ++ l.flatMap E ++ r) H.length j = (l[j], (E l[j]).length) := by
      unfold nthG
      rw [h1]
      have e1 : l.flatMap E = (l.take j).flatMap E ++ (E l[j] ++ (l.drop (j + 1)).flatMap E) := by
        conv => lhs; rw [hsplit]
        rw [List.flatMap_append, List.flatMap_cons]
      have e : H ++ l.flatMap E ++ r = (H ++ (l.take j).flatMap E) ++ (E l[j] ++ ((l.drop (j + 1)).flatMap E ++ r)) := by
        rw [e1]
        simp only [List.append_assoc]
      rw [e, List.drop_append_of_le_length (by simp), show H.length + ((l.take j).flatMap E).length = (H ++ (l.take j).flatMap E).length by simp, List.drop_length, List.nil_append]
      exact hg _ hmem _
    refine ⟨?_, ?_, ?_⟩
    · rw [posG_succ, hn, h1, List.take_succ_eq_append_getElem (by omega), List.flatMap_append, List.length_append, List.flatMap_cons, List.flatMap_nil, List.append_nil, Nat.add_assoc]
    · rw [listG_succ, hn, h2, List.take_succ_eq_append_getElem (by omega)]
    · intro q x hq hqx
      by_cases e : q = j
      · subst e
        rw [hx] at hqx
        injection hqx with hqx
        rw [← hqx]
        exact hn
      · exact h3 q x (by omega) hqx
theorem takeG_put {f : List UInt8 → α × Nat} {E : α → List UInt8} {good : List α → Bool} {l : List α} {most : Nat} (r : List UInt8) (hn : l.length < 18446744073709551616) (hm : l.length ≤ most) (hg : ∀ x, x ∈ l → PutG f E x) (h0 : ∀ x, x ∈ l → (E x).length ≠ 0) (hgood : good l = true) :
    takeG f good (numB l.length ++ l.flatMap E ++ r) most = (l, (numB l.length ++ l.flatMap E).length) := by
  obtain ⟨h1, h2, h3⟩ := nthG_put (f := f) (E := E) (numB l.length) l r hg l.length (Nat.le_refl _)
  rw [List.take_length] at h1 h2
  have hq : takeNum (numB l.length ++ l.flatMap E ++ r) most = (l.length, (numB l.length).length) := by
    rw [List.append_assoc]
    exact take_num _ hn hm
  rw [takeG_yes hq (by rw [numB_len]; omega) (fun j hj => ?_) (by rw [h2]; exact hgood), h1, h2, List.length_append]
  have hx : l[j]? = some l[j] := List.getElem?_eq_getElem hj
  rw [h3 j _ hj hx]
  exact h0 _ (List.mem_of_getElem? hx)
/-- A greater most doesn't matter, where fewer bytes stand there. -/
theorem takeG_most {f : List UInt8 → α × Nat} {good : List α → Bool} {l : List UInt8} {m M k : Nat} (hmM : m ≤ M) (hf : ∀ b, (f b).2 ≤ b.length) (hk : ∀ b, (f b).2 ≠ 0 → k ≤ (f b).2) (hl : l.length < k * (m + 1)) : takeG f good l M = takeG f good l m := by
  cases hq : takeNum l M with
  | mk n p =>
    have hm := num_most l hmM
    rw [hq] at hm
    dsimp only at hm
    by_cases h0 : p = 0
    · rw [if_pos h0] at hm
      rw [takeG_no hq (.inl h0), takeG_no hm (.inl rfl)]
    · rw [if_neg h0] at hm
      by_cases hn : n ≤ m
      · rw [if_pos hn] at hm
        unfold takeG
        rw [hq, hm]
      · rw [if_neg hn] at hm
        rw [takeG_no hm (.inl rfl)]
        refine takeG_no hq (.inr (.inl ?_))
        apply Classical.byContradiction
        intro hx
        have hS : StdG f l p n := fun j hj hz => hx ⟨j, hj, hz⟩
        have h1 := stdG_low hk n hS
        have hp : p ≤ l.length := by
          have := (takeNum_lt l M).2.2.2
          rw [hq] at this
          exact this
        have h2 := posG_le hf hp n
        have h3 : k * (m + 1) ≤ k * n := Nat.mul_le_mul_left _ (by omega)
        omega
end
end Go.Proofs.YtpjleeeligahaaaGreatDoor
