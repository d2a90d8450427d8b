/-
  WHAT IS PROVED: small lemmas used by many walks (own work, over any program). · words for slices of strings (own work): a slice that reads as a list of strings, nil let in; one that the call owns; append of such a slice onto such a row, in a plain region and in one that draws its order. Over any program that bears the types named. · small lemmas by which a law's walk, whatever its arguments (slices of strings among them), closes its row: each argument reads in a world that has only grown as it did; a slice of strings opened (own work, over any program). · what string(..) makes of one byte in a block of its own, and of a row of bytes that the call owns. · words for slices of bytes (own work): a slice that reads as a list of bytes, nil let in; one that the call owns; append of such a slice onto such a row, in a plain region and in one that draws its order. Over any program that bears the types named. · an argument that is a slice of bytes, or a uint64, opened (own work, over any program that bears the types named). · words for slices of slices of bytes (own work): such a slice reads as a list of lists of bytes, nil let in. Over any program. · an argument that is a byte, or a slice of slices of bytes, opened (own work, over any program that bears the types named). · small lemmas by which a block of cells stays known in a world that only grows (own work, over any program). · words for a region that is one chain of guarded operations which only read: its frame as a list of what was written, each slot's value under the guard that it has; one law an operation. Over any program of these types. · more laws for chains of guarded operations (XFast): calls that keep what lay there, assignments, comparisons. Over this program · plain words for a world in which one block alone has turned. No program is spoken of. · stores in chains of operations (XFast): a cell, several cells, a whole block. Over this program · the laws of XFast, Fast2, Fast3 once more, their side conditions as default arguments. Over this program · XFast's way for regions that draw their order: operations that only read are taken one after the other by their number, whatever S says of the world holds behind each. Over this program
-/
import Derived.Test.YtkfhkfddhijkcaaRows
import Derived.WalkKit
import Derived.WalkSpells
import Derived.WalkLawsBesides
import Derived.Deep.QuietTactic
import Derived.BigQuiet
import Derived.Lib.Hide
import Derived.Deep.Draws
import Derived.Maps.AppendAt
import Derived.Deep.AppendLies
import Derived.RegionTactic
import Derived.OwnWalk
import Derived.ProofKit
import Derived.OpenShut
import Derived.Below
import Derived.Carry
import Derived.ChangeSame
import Derived.Deep.Strs
import Derived.Laws.IdiomStrings
import Derived.Laws.BytesArg
import Derived.Laws.OwnMore
import Derived.Laws.AppendOwn
import Derived.ChangeSlices
import Derived.Deep.Slices
import Derived.Deep.MidRow
import Derived.Deep.RegionHeld
namespace Go.Proofs.Ytkfhkfddhijkcaa
open Go.RowKit

/-- Old blocks read as before. -/
theorem bcell {W w1 : World} (hb : Below W.heap.size W w1) : (∀ b o, b < W.heap.size → w1.cell? ⟨b, o, none⟩ = W.cell? ⟨b, o, none⟩) ∧ (∀ b o, b < W.heap.size → w1.frozen? ⟨b, o, none⟩ = W.frozen? ⟨b, o, none⟩) :=
  ⟨fun b o h => hb.cell (p := ⟨b, o, none⟩) h, fun b o h => hb.frozen (p := ⟨b, o, none⟩) h⟩

theorem bt {w a b : World} (h : Below w.heap.size w a) (k : Below a.heap.size a b) : Below w.heap.size w b := h.trans (k.mono h.size)
theorem ba {w a : World} (h : Below w.heap.size w a) (o : Obj) : Below w.heap.size w (a.alloc o) := h.alloc h.size o
theorem b0 (w : World) (o : Obj) : Below w.heap.size w (w.alloc o) := (Below.refl _ _).alloc (Nat.le_refl _) o

theorem below_up {w wr : World} {o : Obj} (h : Below (w.heap.size + 1) (w.alloc o) wr) : Below w.heap.size w wr := (b0 w o).trans (h.mono (by omega))
theorem below3 {w W : World} (h : Below w.heap.size w W) (v0 v1 v2 : Value) : Below w.heap.size w (((W.setCell ⟨w.heap.size, 0, none⟩ v0).setCell ⟨w.heap.size, 1, none⟩ v1).setCell ⟨w.heap.size, 2, none⟩ v2) :=
  ((h.setCell (p := ⟨w.heap.size, 0, none⟩) (Nat.le_refl _) v0).setCell (p := ⟨w.heap.size, 1, none⟩) (Nat.le_refl _) v1).setCell (p := ⟨w.heap.size, 2, none⟩) (Nat.le_refl _) v2
theorem res_cells {w wr : World} {v0 v1 v2 : Value} {t : TypeId} (h : Below (w.heap.size + 1) (w.alloc (.cells #[v0, v1, v2] t)) wr) :
    wr.cell? ⟨w.heap.size, 0, none⟩ = some v0 ∧ wr.cell? ⟨w.heap.size, 1, none⟩ = some v1 ∧ wr.cell? ⟨w.heap.size, 2, none⟩ = some v2 ∧ wr.frozen? ⟨w.heap.size, 0, none⟩ = false ∧ wr.frozen? ⟨w.heap.size, 1, none⟩ = false ∧ wr.frozen? ⟨w.heap.size, 2, none⟩ = false := by
  refine ⟨?_, ?_, ?_, ?_, ?_, ?_⟩
  · rw [h.cell (p := ⟨w.heap.size, 0, none⟩) (by simp)]; go_simp
  · rw [h.cell (p := ⟨w.heap.size, 1, none⟩) (by simp)]; go_simp
  · rw [h.cell (p := ⟨w.heap.size, 2, none⟩) (by simp)]; go_simp
  · rw [h.frozen (p := ⟨w.heap.size, 0, none⟩) (by simp)]; go_simp
  · rw [h.frozen (p := ⟨w.heap.size, 1, none⟩) (by simp)]; go_simp
  · rw [h.frozen (p := ⟨w.heap.size, 2, none⟩) (by simp)]; go_simp

theorem ret_bool {a b : Bool} (h : a = b) : Ending.returned (.bool a) = .returned (.bool b) := by rw [h]
theorem ret_i64 {a b : Int} (h : a = b) : Ending.returned (.int .i64 a) = .returned (.int .i64 b) := by rw [h]

theorem drop_cons (s : ByteArray) (k : Nat) (h : k < s.size) : s.data.toList.drop k = s[k] :: s.data.toList.drop (k + 1) := by
  rw [List.drop_eq_getElem_cons (by simpa using h)]; rfl

theorem wrap_byte (c : UInt8) : wrap64 (c.toNat : Int) = (c.toNat : Int) := by
  have := c.toNat_lt
  unfold wrap64
  omega

theorem bdn {B : Nat} {a w : World} (h : Below B a w) (n : Nat) : Below B a (w.drewN n) := ⟨h.os, h.tape, h.output, h.size, h.block⟩

/-- The world is as it was but for draws. -/
def Drn (w wr : World) : Prop := ∃ n, wr = w.drewN n
theorem Drn.refl (w : World) : Drn w w := ⟨0, rfl⟩
theorem Drn.draws {w wr : World} (h : Drn w wr) (k : Nat) : Drn w (wr.drewN k) := by
  obtain ⟨n, rfl⟩ := h
  exact ⟨n + k, by rw [World.drewN_drewN]⟩
theorem Drn.trans {w a b : World} (h : Drn w a) (k : Drn a b) : Drn w b := by
  obtain ⟨n, rfl⟩ := k
  exact h.draws n
theorem Drn.below {w wr : World} (h : Drn w wr) (B : Nat) : Below B w wr := by
  obtain ⟨n, rfl⟩ := h
  exact bdn (Below.refl B w) n
theorem Drn.size {w wr : World} (h : Drn w wr) : wr.heap.size = w.heap.size := by
  obtain ⟨n, rfl⟩ := h
  rfl
end Go.Proofs.Ytkfhkfddhijkcaa

namespace Go.Proofs.Ytkfhkfddhijkcaa
open Go.RowKit

/-- The cells of strings. -/
abbrev strV (l : List ByteArray) : List Value := l.map Value.string
/-- The slice at A reads as the strings l, in blocks below B. -/
def RdS (B : Nat) (W : World) (A : Option Addr) (l : List ByteArray) : Prop :=
  ∀ k x, l[k]? = some x → ∃ ad, A = some ad ∧ ad.block < B ∧ W.cell? (ad.add k) = some (.string x)
theorem add_block (a : Addr) (n : Nat) : (a.add n).block = a.block := by unfold Addr.add; split <;> rfl
theorem add_add' (a : Addr) (i j : Nat) : (a.add i).add j = a.add (i + j) := by
  unfold Addr.add
  by_cases hi : i = 0
  · subst hi; simp
  · by_cases hj : j = 0
    · subst hj; simp [hi]
    · simp [hi, hj, Nat.add_assoc]
theorem RdS.nil (B : Nat) (W : World) (A : Option Addr) : RdS B W A [] := fun k x h => by simp at h
theorem RdS.keep {B C : Nat} {W W' : World} {A : Option Addr} {l : List ByteArray} (h : RdS B W A l) (hb : Below C W W') (hBC : B ≤ C) : RdS B W' A l := by
  intro k x hx
  obtain ⟨ad, hA, hl, hc⟩ := h k x hx
  exact ⟨ad, hA, hl, (hb.cell (by rw [add_block]; omega)).trans hc⟩
theorem RdS.more {B C : Nat} {W : World} {A : Option Addr} {l : List ByteArray} (h : RdS B W A l) (hBC : B ≤ C) : RdS C W A l := by
  intro k x hx
  obtain ⟨ad, hA, hl, hc⟩ := h k x hx
  exact ⟨ad, hA, by omega, hc⟩
theorem RdS.draws {B : Nat} {W : World} {A : Option Addr} {l : List ByteArray} (h : RdS B W A l) (n : Nat) : RdS B (W.drewN n) A l := h
theorem RdS.at_ {B : Nat} {W : World} {A : Option Addr} {l : List ByteArray} (h : RdS B W A l) {k : Nat} (hk : k < l.length) : ∃ ad, A = some ad ∧ ad.block < B ∧ W.cell? (ad.add k) = some (.string l[k]) :=
  h k _ (List.getElem?_eq_getElem hk)
theorem RdS.take {B : Nat} {W : World} {A : Option Addr} {l : List ByteArray} (h : RdS B W A l) (m : Nat) : RdS B W A (l.take m) := by
  intro k x hx
  rw [List.getElem?_take] at hx
  split at hx
  · exact h k x hx
  · cases hx
/-- .. cut off at its front, as the model has it. -/
theorem RdS.drop {B : Nat} {W : World} {A : Option Addr} {l : List ByteArray} (h : RdS B W A l) {m c : Nat} (hc : l.length ≤ c) : RdS B W (if c = m then A else A.map (·.add m)) (l.drop m) := by
  intro k x hx
  rw [List.getElem?_drop] at hx
  have hlt := (List.getElem?_eq_some_iff.1 hx).1
  obtain ⟨ad, rfl, hl, hcell⟩ := h _ x hx
  rw [if_neg (by omega)]
  exact ⟨ad.add m, rfl, by rw [add_block]; exact hl, by rw [add_add']; exact hcell⟩

theorem RdS.grown {B : Nat} {W W' : World} {A : Option Addr} {l : List ByteArray} {row : Option Nat} (h : RdS B W A l) (hg : W.grownBy W' row) (hB : B ≤ W.heap.size) (hne : ∀ a, A = some a → some a.block ≠ row) : RdS B W' A l := by
  intro k x hx
  obtain ⟨ad, hA, hl, hc⟩ := h k x hx
  exact ⟨ad, hA, hl, (hg.cell_far _ (by rw [add_block]; omega) (by rw [add_block]; exact hne ad hA)).trans hc⟩
/-- A row of strings that the call owns, in blocks from base on. -/
def OwnS (base : Nat) (W : World) (A : Option Addr) (n c : Nat) (l : List ByteArray) : Prop := W.ownsRow base 9 1 (.slice A n c) n (strV l)
theorem OwnS.nil (base : Nat) (W : World) : OwnS base W none 0 0 [] := World.ownsRow_nil W base 9 1
theorem OwnS.len {base : Nat} {W : World} {A : Option Addr} {n c : Nat} {l : List ByteArray} (h : OwnS base W A n c l) : l.length = n := by
  have := h.1
  simpa using this
theorem OwnS.rd {base : Nat} {W : World} {A : Option Addr} {n c : Nat} {l : List ByteArray} (h : OwnS base W A n c l) : RdS W.heap.size W A l := by
  intro k x hx
  have hk := (List.getElem?_eq_some_iff.1 hx).1
  have hl := h.len
  obtain ⟨g, cap, hv, _, hlt⟩ := World.ownsRow.form h (by omega)
  injection hv with hv
  subst hv
  exact ⟨_, rfl, hlt, h.cells (g := g) rfl k _ (by rw [List.getElem?_map, hx]; rfl)⟩
theorem OwnS.cap {base : Nat} {W : World} {A : Option Addr} {n c : Nat} {l : List ByteArray} (h : OwnS base W A n c l) : n ≤ c ∧ c ≤ maxLen := by
  rcases h.2 with ⟨hv, _⟩ | ⟨g, cap, cur, hv, _, _, h1, h2, _⟩
  · injection hv with _ h1 h2
    subst h2
    rw [h1]
    exact ⟨Nat.le_refl _, Nat.zero_le _⟩
  · injection hv with _ _ h3
    subst h3
    exact ⟨h1, h2⟩
theorem OwnS.blk {base : Nat} {W : World} {A : Option Addr} {n c : Nat} {l : List ByteArray} (h : OwnS base W A n c l) {a : Addr} (ha : A = some a) : base ≤ a.block ∧ a.block < W.heap.size := by
  subst ha
  exact World.ownsRow.lt h a.block rfl
theorem OwnS.keep {base : Nat} {W W' : World} {A : Option Addr} {n c : Nat} {l : List ByteArray} (h : OwnS base W A n c l) (hb : Below W.heap.size W W') : OwnS base W' A n c l :=
  World.ownsRow.kept h (row := none) ⟨hb.os, hb.tape, hb.output, hb.size, fun k hk _ => hb.block k hk⟩ (by cases A <;> simp [Value.ownBlock])
theorem OwnS.draws {base : Nat} {W : World} {A : Option Addr} {n c : Nat} {l : List ByteArray} (h : OwnS base W A n c l) (k : Nat) : OwnS base (W.drewN k) A n c l := h
theorem OwnS.less {base b2 : Nat} {W : World} {A : Option Addr} {n c : Nat} {l : List ByteArray} (h : OwnS base W A n c l) (hb : b2 ≤ base) : OwnS b2 W A n c l := by
  refine ⟨h.1, ?_⟩
  rcases h.2 with h | ⟨g, cap, cur, h1, h2, h3⟩
  · exact .inl h
  · exact .inr ⟨g, cap, cur, h1, by omega, h3⟩
/-- A literal's row. -/
theorem OwnS.lit (W : World) {base n : Nat} (cs : Array Value) (l : List ByteArray) (hcs : cs.toList = strV l) (hn : l.length = n) (hb : base ≤ W.heap.size) (hm : n ≤ maxLen) : OwnS base (W.alloc (.cells cs 9)) (some ⟨W.heap.size, 0, none⟩) n n l := by
  subst hn
  unfold OwnS
  rw [← hcs]
  exact World.ownsRow_lit W cs l.length hb hm (by rw [← Array.length_toList, hcs]; simp)

theorem OwnS.drew_ {base : Nat} {W : World} {A : Option Addr} {n c : Nat} {l : List ByteArray} (h : OwnS base W A n c l) : OwnS base W.drew A n c l := h
theorem RdS.drew_ {B : Nat} {W : World} {A : Option Addr} {l : List ByteArray} (h : RdS B W A l) : RdS B W.drew A l := h
/-- One string in a block of its own. -/
theorem rdOne (w : World) (x : ByteArray) (g : Nat) (h : w.heap.size = g) : RdS (g + 1) (w.alloc (.cells #[.string x] 9)) (some ⟨g, 0, none⟩) [x] := by
  subst h
  intro k y hy
  have hk : k = 0 := by
    have := (List.getElem?_eq_some_iff.1 hy).1
    simp at this
    omega
  subst hk
  injection hy with hy
  subst hy
  exact ⟨_, rfl, by simp, cell_one_new w (.string x) 9 0 _ rfl⟩
theorem rdNow {H : Nat} {W w' : World} {A : Option Addr} {l : List ByteArray} {p : Addr} {v : Value} (h : RdS H W A l) (hS : w'.cell? p = some v ∧ Below H W w') : RdS H w' A l := h.keep hS.2 (Nat.le_refl _)
theorem szNow {H : Nat} {W w' : World} {p : Addr} {v : Value} (hS : w'.cell? p = some v ∧ Below H W w') : W.heap.size ≤ w'.heap.size := hS.2.size
theorem str_info : (Try.prog.info? 9).map (fun i => (i.zero, i.size, i.bytes)) = some (some (.string ⟨#[]⟩), 1, 16) := by kernel_rfl

/-- What an append does hangs on the first type alone, if both are slices. -/
theorem run_append_tt {P : Program} (w : World) {t t' e e' ty : TypeId} (ht : P.underlying t = some (.slice e)) (ht' : P.underlying t' = some (.slice e')) (A B : Option Addr) (n c m d : Nat) :
    (Builtin.append_ #[t, t'] ty #[.slice A n c, .slice B m d]).run P w = (Builtin.append_ #[t, t] ty #[.slice A n c, .slice B m d]).run P w := by
  have h1 : ∀ W : World, (underlying t').run P W = .ok (.slice e') W := fun W => run_underlying ht' W
  have h2 : ∀ W : World, (underlying t).run P W = .ok (.slice e) W := fun W => run_underlying ht W
  simp only [Builtin.append_, List.getElem?_toArray, List.getElem?_cons_zero, List.getElem?_cons_succ, Sem.run_bind, h1, h2, Result.andThen_ok, Sem.run_pure]

theorem strs_one (l : List ByteArray) : ∀ u ∈ strV l, u.oneCell' = true := by
  intro u hu
  obtain ⟨x, _, rfl⟩ := List.mem_map.1 hu
  rfl
/-- Append of what reads as strings onto a row of the call's own. -/
theorem run_apS {P : Program} (w : World) {t t' e' ty : TypeId} {i : TypeInfo} (ht : P.underlying t = some (.slice 9)) (ht' : P.underlying t' = some (.slice e')) (hi : P.info? 9 = some i) (hz : i.zero = some (.string ⟨#[]⟩)) (hs : i.size = 1) (hy : i.bytes = 16)
    {base B : Nat} {A A2 : Option Addr} {n c m d : Nat} {l l2 : List ByteArray} (hown : OwnS base w A n c l) (hr : RdS B w A2 l2) (hm : l2.length = m) (hsz : n + m ≤ 1099511627776) (hbase : base ≤ w.heap.size) :
    ∃ A' c' w', (Builtin.append_ #[t, t'] ty #[.slice A n c, .slice A2 m d]).run P w = .ok (.slice A' (n + m) c') w' ∧ OwnS base w' A' (n + m) c' (l ++ l2) ∧ Below base w w' ∧ w.grownBy w' (A.map (·.block)) := by
  subst hm
  cases A2 with
  | none =>
    have h0 : l2 = [] := by
      cases l2 with
      | nil => rfl
      | cons x r =>
        obtain ⟨ad, he, _⟩ := hr 0 x rfl
        cases he
    subst h0
    refine ⟨A, c, w, ?_, by simpa using hown, Below.refl _ _, World.grownBy.refl w _⟩
    rw [run_append_tt w ht ht']
    have hcap := hown.cap
    have hcond : n + 0 ≤ c := by omega
    have hne : ∀ W : World, (underlying t).run P W = .ok (.slice 9) W := fun W => run_underlying ht W
    cases A with
    | none => simp [Builtin.append_, run_underlying ht, sizeOf, typeInfo, hi, Builtin.lenOf, Builtin.firstCells, hcap.1]
    | some a => simp [Builtin.append_, run_underlying ht, sizeOf, typeInfo, hi, Builtin.lenOf, Builtin.firstCells, hcap.1, storeCells]
  | some ad =>
    have hc : ∀ j u, (strV l2)[j]? = some u → w.cell? (ad.add j) = some u := by
      intro j u hu
      rw [List.getElem?_map] at hu
      cases hx : l2[j]? with
      | none => rw [hx] at hu; cases hu
      | some x =>
        rw [hx] at hu
        injection hu with hu
        subst hu
        obtain ⟨a2, he, _, hcell⟩ := hr j x hx
        injection he with he
        subst he
        exact hcell
    obtain ⟨v', w', hrun, h2, h3, _, _⟩ := run_append_own_at (P := P) w base t ty 9 i (.string ⟨#[]⟩) 1 16 ht hi hz hs hy rfl (by omega) (.slice A n c) n (strV l) hown ad l2.length d (strV l2) (by simp) hc (strs_one l2)
      (by unfold maxLen; omega) (by omega) hbase
    have hb : Below base w w' := (Below.refl base w).grown h3 hbase (fun k hk => (World.ownsRow.lt hown k hk).1)
    have hv : ∃ A' c', v' = .slice A' (n + l2.length) c' := by
      rcases h2.2 with ⟨e1, e2⟩ | ⟨g, cap, cur, e1, _⟩
      · exact ⟨none, 0, by rw [e1, e2]⟩
      · exact ⟨_, _, e1⟩
    obtain ⟨A', c', rfl⟩ := hv
    refine ⟨A', c', w', by rw [run_append_tt w ht ht']; exact hrun, ?_, hb, by cases A <;> exact h3⟩
    unfold OwnS
    rw [show strV (l ++ l2) = strV l ++ strV l2 from List.map_append]
    exact h2
section
variable {P : Program} {w : World} {t t' e' : TypeId} {i : TypeInfo} {base B : Nat} {A A2 : Option Addr} {n c m d : Nat} {l l2 : List ByteArray} {o : Oper} {a : Act} {Q : Exit → Act → World → Prop} {ops : Array Oper}
/-- .. as an operation. -/
theorem wp_apS {K : Act → World → Prop} (s x : Operand) (ho : o.op = .call { callee := .builtin .append, args := #[s, x], argTypes := #[t, t'] })
    (ht : P.underlying t = some (.slice 9)) (ht' : P.underlying t' = some (.slice e')) (hi : P.info? 9 = some i) (hz : i.zero = some (.string ⟨#[]⟩)) (hs : i.size = 1) (hy : i.bytes = 16)
    (h1 : a.eval s = .slice A n c) (h2 : a.eval x = .slice A2 m d) (hown : OwnS base w A n c l) (hr : RdS B w A2 l2) (hm : l2.length = m) (N : Nat) (hN : n + m = N) (hsz : n + m ≤ 1099511627776) (hbase : base ≤ w.heap.size)
    (h : ∀ A' c' w', OwnS base w' A' N c' (l ++ l2) → Below base w w' → w.grownBy w' (A.map (·.block)) → K (a.put o.dst (.slice A' N c')) w') : o.wp P a w K Q := by
  subst hN
  obtain ⟨A', c', w', hrun, k1, k2, k3⟩ := run_apS (P := P) (ty := o.type) (d := d) w ht ht' hi hz hs hy hown hr hm hsz hbase
  unfold Oper.wp execOp
  simp only [ho, resolve, invoke, builtin, Sem.run_bind, Sem.run_pure, Result.andThen_ok, List.map_toArray, List.map_cons, List.map_nil, h1, h2, hrun]
  exact h A' c' w' k1 k2 k3
/-- .. in a plain region. -/
theorem wpList_apS {rest : List Oper} (hgd : o.guard = none) (s x : Operand) (ho : o.op = .call { callee := .builtin .append, args := #[s, x], argTypes := #[t, t'] })
    (ht : P.underlying t = some (.slice 9)) (ht' : P.underlying t' = some (.slice e')) (hi : P.info? 9 = some i) (hz : i.zero = some (.string ⟨#[]⟩)) (hs : i.size = 1) (hy : i.bytes = 16)
    (h1 : a.eval s = .slice A n c) (h2 : a.eval x = .slice A2 m d) (hown : OwnS base w A n c l) (hr : RdS B w A2 l2) (hm : l2.length = m) (N : Nat) (hN : n + m = N) (hsz : n + m ≤ 1099511627776) (hbase : base ≤ w.heap.size)
    (h : ∀ A' c' w', OwnS base w' A' N c' (l ++ l2) → Below base w w' → w.grownBy w' (A.map (·.block)) → wpList P ops Q rest (a.put o.dst (.slice A' N c')) w') : wpList P ops Q (o :: rest) a w :=
  wpList_plain hgd fun _ hK => wp_apS s x ho ht ht' hi hz hs hy h1 h2 hown hr hm N hN hsz hbase fun A' c' w' k1 k2 k3 => hK _ _ (h A' c' w' k1 k2 k3)
/-- .. at a step of a region that draws its order. -/
theorem step_apS {K : Act → World → Prop} {E : Prop} (hgd : o.guard = none) (s x : Operand) (ho : o.op = .call { callee := .builtin .append, args := #[s, x], argTypes := #[t, t'] })
    (ht : P.underlying t = some (.slice 9)) (ht' : P.underlying t' = some (.slice e')) (hi : P.info? 9 = some i) (hz : i.zero = some (.string ⟨#[]⟩)) (hs : i.size = 1) (hy : i.bytes = 16)
    (h1 : a.eval s = .slice A n c) (h2 : a.eval x = .slice A2 m d) (hown : OwnS base w A n c l) (hr : RdS B w A2 l2) (hm : l2.length = m) (N : Nat) (hN : n + m = N) (hsz : n + m ≤ 1099511627776) (hbase : base ≤ w.heap.size)
    (h : ∀ A' c' w', OwnS base w' A' N c' (l ++ l2) → Below base w w' → w.grownBy w' (A.map (·.block)) → K (a.put o.dst (.slice A' N c')) w') :
    if Region.wanted o (yielded ops a.tmps) = true then Oper.wp P o a w K Q else E := by
  have hw : Region.wanted o (yielded ops a.tmps) = true := by simp [Region.wanted, hgd]
  rw [if_pos hw]
  exact wp_apS s x ho ht ht' hi hz hs hy h1 h2 hown hr hm N hN hsz hbase h
end
end Go.Proofs.Ytkfhkfddhijkcaa

namespace Go.Proofs.Ytkfhkfddhijkcaa
open Go.RowKit Go.WideShapes Go.ChangeShapes

section
variable {H : Type} {enc : TypeId × Value → H} {P : Program}
/-- All arguments read in a grown world as they did. -/
theorem trodAll_grown (hl : laidOutB P = true) {W W' : World} (hb : Below W.heap.size W W') {sp : Nat → Bool} :
    ∀ (ts : List TypeId) (vs : List Value) (ds : List (DataW H)) (ps : List MemPlace), (∀ t ∈ ts, P.readableRec t = true ∧ t < P.types.size) → (∀ x ∈ ps, x.block < W.heap.size) → (∀ x ∈ ps, sp x.block = true) →
      DataW.TrodAll enc P W 0 (fun _ => true) true ts vs ds ps → DataW.TrodAll enc P W' 0 sp true ts vs ds ps
  | [], [], [], _, _, _, _, h => h
  | t :: ts, v :: vs, d :: ds, ps, hr, hlt, hsp, h => by
    obtain ⟨p, q, h1, h2, rfl⟩ := h
    refine ⟨p, q, ?_, trodAll_grown hl hb ts vs ds q (fun t ht => hr t (List.mem_cons_of_mem _ ht)) (fun x hx => hlt x (List.mem_append_right _ hx)) (fun x hx => hsp x (List.mem_append_right _ hx)) h2, rfl⟩
    exact WideElems.Trod_stays hl (hr t List.mem_cons_self).1 (hr t List.mem_cons_self).2 h1 (fun x hx => hb.same (hlt x (List.mem_append_left _ hx))) (fun x hx => hsp x (List.mem_append_left _ hx))
  | [], _ :: _, _, _, _, _, _, h => by cases h
  | [], [], _ :: _, _, _, _, _, h => by cases h
  | _ :: _, [], _, _, _, _, _, h => by cases h
  | _ :: _, _ :: _, [], _, _, _, _, h => by cases h

theorem all_readable {ts : List TypeId} (h : (ts.all fun t => P.readableRec t && decide (t < P.types.size)) = true) : ∀ t ∈ ts, P.readableRec t = true ∧ t < P.types.size := by
  intro t ht
  have := List.all_eq_true.1 h t ht
  rw [Bool.and_eq_true, decide_eq_true_eq] at this
  exact this

/-- A law that answers true in a world that has only grown. -/
theorem post_true {f : Func} {s : ChangeSpec} {apart fresh handsOn again : Bool} {W W' : World} {args : Array Value} {tb : TypeId} {ds : List (DataW H)} {before : List MemPlace} (hl : laidOutB P = true)
    (hall : (f.params.toList.all fun t => P.readableRec t && decide (t < P.types.size)) = true) (htb : P.underlying tb = some .bool) (hrt : f.resultTypes = #[tb])
    (hW : DataW.Whole enc P f.params.toList s.vars apart W args.toList ds [] before) (hvars : s.vars = [])
    (hspec : (s.fn H (ds ++ [])).results = [.lit (.bool true)] ∧ (s.fn H (ds ++ [])).args = ds ∧ (s.fn H (ds ++ [])).vars = []) (hb : Below W.heap.size W W') :
    s.post enc P f apart fresh handsOn again W args (.bool true) W' := by
  have hlt : ∀ p ∈ before, p.block < W.heap.size := fun p hp => hW.lt p hp
  have hW2 := hW
  obtain ⟨p, q, hA0, hV, rfl, hfz, hnd⟩ := hW
  have hA : DataW.TrodAll enc P W 0 (fun _ => true) true f.params.toList args.toList ds p := hA0
  rw [hvars] at hV
  obtain ⟨_, rfl⟩ := trodVars_none hV
  rw [List.append_nil] at hW2 hlt hfz hnd
  have hargs : ∀ sp : Nat → Bool, (∀ x ∈ p, sp x.block = true) → DataW.TrodAll enc P W' 0 sp true f.params.toList args.toList (s.fn H (ds ++ [])).args p := fun sp hsp => by
    rw [hspec.2.1]
    exact trodAll_grown hl hb _ _ _ _ (all_readable hall) hlt hsp hA
  have hold : ∀ x ∈ p, (fun b => decide (b < W.heap.size)) x.block = true := fun x hx => by simpa using hlt x hx
  have hres : ∀ (b : Nat) (sp : Nat → Bool) (hd : Bool), DataW.TrodAll enc P W' b sp hd f.resultTypes.toList ((Value.bool true).resultList f.resultTypes.size) (s.fn H (ds ++ [])).results [] := fun b sp hd => by
    rw [hspec.1, hrt]
    exact trodAll_cons_mk (shut_bool htb _) trodAll_mk0
  have hvs : ∀ sp : Nat → Bool, DataW.TrodVars enc P W' sp s.vars (s.fn H (ds ++ [])).vars [] := fun sp => by
    rw [hvars, hspec.2.2]
    exact rfl
  refine ⟨ds, [], p, [], p, [], hW2, hres _ _ _, hargs _ hold, hvs _, World.keptBut_mono (fun x hx => ⟨hx, ?_⟩) (hb.frame (· ∈ p)), fun _ => ?_⟩
  · exact Or.inr (Or.inl hx)
  · refine ⟨ok_one hrt rfl (okWide_bool_mk htb _), _, _, ([] ++ p) ++ [], ⟨[] ++ p, [], trodAll_append (hargs _ (fun _ _ => rfl)) (hres _ _ _), hvs _, rfl, ?_, ?_⟩, ?_⟩
    · intro b off hp
      have hin : MemPlace.cell b off ∈ p := by simpa using hp
      rw [hb.frozen (hlt _ hin)]
      exact hfz b off hin
    · intro ha
      simpa using hnd ha
    · intro x hx _
      simpa using hx
end

section
variable {H : Type} {enc : TypeId × Value → H}
theorem cellsStr1 : Try.prog.cellsOf 9 = 1 := by kernel_rfl
set_option maxRecDepth 100000 in
/-- An argument that is a slice of strings, opened. -/
theorem open_strl {t : TypeId} (ht : Try.prog.underlying t = some (.slice 9)) {W : World} {r : Reach} {b0 : Nat} {v : Value} {d : DataW H} {p : List MemPlace} (hv : Value.okWide Try.prog W r b0 t v) (h : DataW.Trod enc Try.prog W 0 (fun _ => true) true t v d p) :
    ∃ (A : Option Addr) (n c : Nat) (l : List ByteArray), v = .slice A n c ∧ l.length = n ∧ RdS W.heap.size W A l ∧ n ≤ maxLen ∧ ∀ x, x ∈ l → x.size ≤ maxLen := by
  obtain ⟨A, n, c, rfl⟩ := okWide_slice ht hv
  obtain ⟨fuel, hf⟩ := h
  rcases Go.Deep.open_strs ht Try.underlying9 cellsStr1 hf with ⟨hcs, _⟩ | ⟨a, len, cap, m, Sx, hcs, _, hl, hm, hmm, _, hcell⟩
  · simp [Value.cells] at hcs
    obtain ⟨rfl, rfl, rfl⟩ := hcs
    exact ⟨none, 0, 0, [], rfl, rfl, RdS.nil _ _ _, Nat.zero_le _, fun x hx => by simp at hx⟩
  · simp [Value.cells] at hcs
    obtain ⟨rfl, rfl, rfl⟩ := hcs
    have hle : n ≤ m := by rw [hmm]; simp; omega
    refine ⟨some a, n, c, (List.range n).map Sx, rfl, by simp, fun k x hx => ?_, by omega, fun x hx => ?_⟩
    · have hk : k < n := by
        have := (List.getElem?_eq_some_iff.1 hx).1
        simpa using this
      have e : x = Sx k := by
        rw [List.getElem?_map, List.getElem?_range hk] at hx
        injection hx with hx
        exact hx.symm
      subst e
      have hc := (hcell k (by omega)).1
      have hb := World.block_lt_of_cell? W _ hc
      rw [add_block] at hb
      exact ⟨a, rfl, hb, hc⟩
    · obtain ⟨k, hk, rfl⟩ := List.mem_map.1 hx
      exact (hcell k (by have := List.mem_range.1 hk; omega)).2
end
end Go.Proofs.Ytkfhkfddhijkcaa

namespace Go.Proofs.Ytkfhkfddhijkcaa
open Go.RowKit

/-- string of one byte. -/
theorem conv_one (W : World) (n : Int) (c : UInt8) (h : n = (c.toNat : Int)) :
    (convert 105 9 (.slice (some ⟨W.heap.size, 0, none⟩) 1 1)).run Try.prog (W.alloc (.cells #[.int .u8 n] 5)) = .ok (.string ⟨#[c]⟩) (W.alloc (.cells #[.int .u8 n] 5)) := by
  have := run_convert_bytes_back (P := Try.prog) (W.alloc (.cells #[.int .u8 n] 5)) 105 9 5 ⟨W.heap.size, 0, none⟩ 1 [c] Try.underlying105 Try.underlying5 Try.underlying9 (by
    intro j hj
    have hj0 : j = 0 := by simpa using hj
    subst hj0
    subst h
    have e : (⟨W.heap.size, 0, none⟩ : Addr).add 0 = ⟨W.heap.size, 0, none⟩ := by simp [Addr.add]
    rw [e]
    go_simp)
  simpa using this
/-- string of a row of the call's own. -/
theorem conv_own (W : World) (B : Nat) (v : Value) (l : List UInt8) (h : W.ownsRow B 5 1 v l.length (Lib.byteCells l)) :
    (convert 105 9 v).run Try.prog W = .ok (.string ⟨l.toArray⟩) W := by
  rcases h.2 with ⟨rfl, h0⟩ | ⟨g, cap, cur, rfl, _⟩
  · have : l = [] := List.length_eq_zero_iff.1 h0
    subst this
    exact run_convert_bytes_nil W 105 5 Try.underlying105 Try.underlying5 0 0 9 Try.underlying9
  · refine run_convert_bytes_back W 105 9 5 ⟨g, 0, none⟩ cap l Try.underlying105 Try.underlying5 Try.underlying9 ?_
    intro j hj
    have e : (⟨g, 0, none⟩ : Addr).add j = ⟨g, j, none⟩ := by unfold Addr.add; split <;> simp_all
    rw [e, h.cellAt j (by omega)]
    simp [Lib.byteCells, hj]

theorem str_add' {a b : ByteArray} (ha : a.size ≤ 100000) (hb : b.size ≤ 100000) : Op.stringOp .add a b = pure (.string (a ++ b)) := by
  unfold Op.stringOp
  have e : IntKind.i64.max = 9223372036854775807 := rfl
  simp only
  rw [if_neg]
  rw [e]
  omega
end Go.Proofs.Ytkfhkfddhijkcaa

namespace Go.Proofs.Ytkfhkfddhijkcaa
open Go.RowKit

/-- The cells of bytes. -/
abbrev bytV (l : List UInt8) : List Value := l.map fun c => Value.int .u8 (c.toNat : Int)
/-- The slice at A reads as the bytes l, in blocks below B. -/
def RdB (B : Nat) (W : World) (A : Option Addr) (l : List UInt8) : Prop :=
  ∀ k x, l[k]? = some x → ∃ ad, A = some ad ∧ ad.block < B ∧ W.cell? (ad.add k) = some (.int .u8 (x.toNat : Int))
theorem RdB.nil (B : Nat) (W : World) (A : Option Addr) : RdB B W A [] := fun k x h => by simp at h
theorem RdB.keep {B C : Nat} {W W' : World} {A : Option Addr} {l : List UInt8} (h : RdB B W A l) (hb : Below C W W') (hBC : B ≤ C) : RdB B W' A l := by
  intro k x hx
  obtain ⟨ad, hA, hl, hc⟩ := h k x hx
  exact ⟨ad, hA, hl, (hb.cell (by rw [add_block]; omega)).trans hc⟩
theorem RdB.more {B C : Nat} {W : World} {A : Option Addr} {l : List UInt8} (h : RdB B W A l) (hBC : B ≤ C) : RdB C W A l := by
  intro k x hx
  obtain ⟨ad, hA, hl, hc⟩ := h k x hx
  exact ⟨ad, hA, by omega, hc⟩
theorem RdB.draws {B : Nat} {W : World} {A : Option Addr} {l : List UInt8} (h : RdB B W A l) (n : Nat) : RdB B (W.drewN n) A l := h
theorem RdB.at_ {B : Nat} {W : World} {A : Option Addr} {l : List UInt8} (h : RdB B W A l) {k : Nat} (hk : k < l.length) : ∃ ad, A = some ad ∧ ad.block < B ∧ W.cell? (ad.add k) = some (.int .u8 (l[k].toNat : Int)) :=
  h k _ (List.getElem?_eq_getElem hk)
theorem RdB.take {B : Nat} {W : World} {A : Option Addr} {l : List UInt8} (h : RdB B W A l) (m : Nat) : RdB B W A (l.take m) := by
  intro k x hx
  rw [List.getElem?_take] at hx
  split at hx
  · exact h k x hx
  · cases hx
/-- .. cut off at its front, as the model has it. -/
theorem RdB.drop {B : Nat} {W : World} {A : Option Addr} {l : List UInt8} (h : RdB B W A l) {m c : Nat} (hc : l.length ≤ c) : RdB B W (if c = m then A else A.map (·.add m)) (l.drop m) := by
  intro k x hx
  rw [List.getElem?_drop] at hx
  have hlt := (List.getElem?_eq_some_iff.1 hx).1
  obtain ⟨ad, rfl, hl, hcell⟩ := h _ x hx
  rw [if_neg (by omega)]
  exact ⟨ad.add m, rfl, by rw [add_block]; exact hl, by rw [add_add']; exact hcell⟩

theorem RdB.grown {B : Nat} {W W' : World} {A : Option Addr} {l : List UInt8} {row : Option Nat} (h : RdB B W A l) (hg : W.grownBy W' row) (hB : B ≤ W.heap.size) (hne : ∀ a, A = some a → some a.block ≠ row) : RdB B W' A l := by
  intro k x hx
  obtain ⟨ad, hA, hl, hc⟩ := h k x hx
  exact ⟨ad, hA, hl, (hg.cell_far _ (by rw [add_block]; omega) (by rw [add_block]; exact hne ad hA)).trans hc⟩
/-- A row of bytes that the call owns, in blocks from base on. -/
def OwnB (base : Nat) (W : World) (A : Option Addr) (n c : Nat) (l : List UInt8) : Prop := W.ownsRow base 5 1 (.slice A n c) n (bytV l)
theorem OwnB.nil (base : Nat) (W : World) : OwnB base W none 0 0 [] := World.ownsRow_nil W base 5 1
theorem OwnB.len {base : Nat} {W : World} {A : Option Addr} {n c : Nat} {l : List UInt8} (h : OwnB base W A n c l) : l.length = n := by
  have := h.1
  simpa using this
theorem OwnB.rd {base : Nat} {W : World} {A : Option Addr} {n c : Nat} {l : List UInt8} (h : OwnB base W A n c l) : RdB W.heap.size W A l := by
  intro k x hx
  have hk := (List.getElem?_eq_some_iff.1 hx).1
  have hl := h.len
  obtain ⟨g, cap, hv, _, hlt⟩ := World.ownsRow.form h (by omega)
  injection hv with hv
  subst hv
  exact ⟨_, rfl, hlt, h.cells (g := g) rfl k _ (by rw [List.getElem?_map, hx]; rfl)⟩
theorem OwnB.cap {base : Nat} {W : World} {A : Option Addr} {n c : Nat} {l : List UInt8} (h : OwnB base W A n c l) : n ≤ c ∧ c ≤ maxLen := by
  rcases h.2 with ⟨hv, _⟩ | ⟨g, cap, cur, hv, _, _, h1, h2, _⟩
  · injection hv with _ h1 h2
    subst h2
    rw [h1]
    exact ⟨Nat.le_refl _, Nat.zero_le _⟩
  · injection hv with _ _ h3
    subst h3
    exact ⟨h1, h2⟩
theorem OwnB.blk {base : Nat} {W : World} {A : Option Addr} {n c : Nat} {l : List UInt8} (h : OwnB base W A n c l) {a : Addr} (ha : A = some a) : base ≤ a.block ∧ a.block < W.heap.size := by
  subst ha
  exact World.ownsRow.lt h a.block rfl
theorem OwnB.keep {base : Nat} {W W' : World} {A : Option Addr} {n c : Nat} {l : List UInt8} (h : OwnB base W A n c l) (hb : Below W.heap.size W W') : OwnB base W' A n c l :=
  World.ownsRow.kept h (row := none) ⟨hb.os, hb.tape, hb.output, hb.size, fun k hk _ => hb.block k hk⟩ (by cases A <;> simp [Value.ownBlock])
theorem OwnB.draws {base : Nat} {W : World} {A : Option Addr} {n c : Nat} {l : List UInt8} (h : OwnB base W A n c l) (k : Nat) : OwnB base (W.drewN k) A n c l := h
theorem OwnB.less {base b2 : Nat} {W : World} {A : Option Addr} {n c : Nat} {l : List UInt8} (h : OwnB base W A n c l) (hb : b2 ≤ base) : OwnB b2 W A n c l := by
  refine ⟨h.1, ?_⟩
  rcases h.2 with h | ⟨g, cap, cur, h1, h2, h3⟩
  · exact .inl h
  · exact .inr ⟨g, cap, cur, h1, by omega, h3⟩
/-- A literal's row. -/
theorem OwnB.lit (W : World) {base n : Nat} (cs : Array Value) (l : List UInt8) (hcs : cs.toList = bytV l) (hn : l.length = n) (hb : base ≤ W.heap.size) (hm : n ≤ maxLen) : OwnB base (W.alloc (.cells cs 5)) (some ⟨W.heap.size, 0, none⟩) n n l := by
  subst hn
  unfold OwnB
  rw [← hcs]
  exact World.ownsRow_lit W cs l.length hb hm (by rw [← Array.length_toList, hcs]; simp)

theorem OwnB.drew_ {base : Nat} {W : World} {A : Option Addr} {n c : Nat} {l : List UInt8} (h : OwnB base W A n c l) : OwnB base W.drew A n c l := h
theorem RdB.drew_ {B : Nat} {W : World} {A : Option Addr} {l : List UInt8} (h : RdB B W A l) : RdB B W.drew A l := h
/-- One byte in a block of its own. -/
theorem rdOneB (w : World) (x : UInt8) (g : Nat) (h : w.heap.size = g) : RdB (g + 1) (w.alloc (.cells #[.int .u8 (x.toNat : Int)] 5)) (some ⟨g, 0, none⟩) [x] := by
  subst h
  intro k y hy
  have hk : k = 0 := by
    have := (List.getElem?_eq_some_iff.1 hy).1
    simp at this
    omega
  subst hk
  injection hy with hy
  subst hy
  exact ⟨_, rfl, by simp, cell_one_new w (.int .u8 (x.toNat : Int)) 5 0 _ rfl⟩
theorem rdNowB {H : Nat} {W w' : World} {A : Option Addr} {l : List UInt8} {p : Addr} {v : Value} (h : RdB H W A l) (hS : w'.cell? p = some v ∧ Below H W w') : RdB H w' A l := h.keep hS.2 (Nat.le_refl _)
theorem szNowB {H : Nat} {W w' : World} {p : Addr} {v : Value} (hS : w'.cell? p = some v ∧ Below H W w') : W.heap.size ≤ w'.heap.size := hS.2.size
theorem byt_info : (Try.prog.info? 5).map (fun i => (i.zero, i.size, i.bytes)) = some (some (.int .u8 0), 1, 1) := by kernel_rfl

theorem byts_one (l : List UInt8) : ∀ u ∈ bytV l, u.oneCell' = true := by
  intro u hu
  obtain ⟨x, _, rfl⟩ := List.mem_map.1 hu
  rfl
/-- Append of what reads as bytes onto a row of the call's own. -/
theorem run_apB {P : Program} (w : World) {t t' e' ty : TypeId} {i : TypeInfo} (ht : P.underlying t = some (.slice 5)) (ht' : P.underlying t' = some (.slice e')) (hi : P.info? 5 = some i) (hz : i.zero = some (.int .u8 0)) (hs : i.size = 1) (hy : i.bytes = 1)
    {base B : Nat} {A A2 : Option Addr} {n c m d : Nat} {l l2 : List UInt8} (hown : OwnB base w A n c l) (hr : RdB B w A2 l2) (hm : l2.length = m) (hsz : n + m ≤ 1099511627776) (hbase : base ≤ w.heap.size) :
    ∃ A' c' w', (Builtin.append_ #[t, t'] ty #[.slice A n c, .slice A2 m d]).run P w = .ok (.slice A' (n + m) c') w' ∧ OwnB base w' A' (n + m) c' (l ++ l2) ∧ Below base w w' ∧ w.grownBy w' (A.map (·.block)) := by
  subst hm
  cases A2 with
  | none =>
    have h0 : l2 = [] := by
      cases l2 with
      | nil => rfl
      | cons x r =>
        obtain ⟨ad, he, _⟩ := hr 0 x rfl
        cases he
    subst h0
    refine ⟨A, c, w, ?_, by simpa using hown, Below.refl _ _, World.grownBy.refl w _⟩
    rw [run_append_tt w ht ht']
    have hcap := hown.cap
    have hcond : n + 0 ≤ c := by omega
    have hne : ∀ W : World, (underlying t).run P W = .ok (.slice 5) W := fun W => run_underlying ht W
    cases A with
    | none => simp [Builtin.append_, run_underlying ht, sizeOf, typeInfo, hi, Builtin.lenOf, Builtin.firstCells, hcap.1]
    | some a => simp [Builtin.append_, run_underlying ht, sizeOf, typeInfo, hi, Builtin.lenOf, Builtin.firstCells, hcap.1, storeCells]
  | some ad =>
    have hc : ∀ j u, (bytV l2)[j]? = some u → w.cell? (ad.add j) = some u := by
      intro j u hu
      rw [List.getElem?_map] at hu
      cases hx : l2[j]? with
      | none => rw [hx] at hu; cases hu
      | some x =>
        rw [hx] at hu
        injection hu with hu
        subst hu
        obtain ⟨a2, he, _, hcell⟩ := hr j x hx
        injection he with he
        subst he
        exact hcell
    obtain ⟨v', w', hrun, h2, h3, _, _⟩ := run_append_own_at (P := P) w base t ty 5 i (.int .u8 0) 1 1 ht hi hz hs hy rfl (by omega) (.slice A n c) n (bytV l) hown ad l2.length d (bytV l2) (by simp) hc (byts_one l2)
      (by unfold maxLen; omega) (by omega) hbase
    have hb : Below base w w' := (Below.refl base w).grown h3 hbase (fun k hk => (World.ownsRow.lt hown k hk).1)
    have hv : ∃ A' c', v' = .slice A' (n + l2.length) c' := by
      rcases h2.2 with ⟨e1, e2⟩ | ⟨g, cap, cur, e1, _⟩
      · exact ⟨none, 0, by rw [e1, e2]⟩
      · exact ⟨_, _, e1⟩
    obtain ⟨A', c', rfl⟩ := hv
    refine ⟨A', c', w', by rw [run_append_tt w ht ht']; exact hrun, ?_, hb, by cases A <;> exact h3⟩
    unfold OwnB
    rw [show bytV (l ++ l2) = bytV l ++ bytV l2 from List.map_append]
    exact h2
section
variable {P : Program} {w : World} {t t' e' : TypeId} {i : TypeInfo} {base B : Nat} {A A2 : Option Addr} {n c m d : Nat} {l l2 : List UInt8} {o : Oper} {a : Act} {Q : Exit → Act → World → Prop} {ops : Array Oper}
/-- .. as an operation. -/
theorem wp_apB {K : Act → World → Prop} (s x : Operand) (ho : o.op = .call { callee := .builtin .append, args := #[s, x], argTypes := #[t, t'] })
    (ht : P.underlying t = some (.slice 5)) (ht' : P.underlying t' = some (.slice e')) (hi : P.info? 5 = some i) (hz : i.zero = some (.int .u8 0)) (hs : i.size = 1) (hy : i.bytes = 1)
    (h1 : a.eval s = .slice A n c) (h2 : a.eval x = .slice A2 m d) (hown : OwnB base w A n c l) (hr : RdB B w A2 l2) (hm : l2.length = m) (N : Nat) (hN : n + m = N) (hsz : n + m ≤ 1099511627776) (hbase : base ≤ w.heap.size)
    (h : ∀ A' c' w', OwnB base w' A' N c' (l ++ l2) → Below base w w' → w.grownBy w' (A.map (·.block)) → K (a.put o.dst (.slice A' N c')) w') : o.wp P a w K Q := by
  subst hN
  obtain ⟨A', c', w', hrun, k1, k2, k3⟩ := run_apB (P := P) (ty := o.type) (d := d) w ht ht' hi hz hs hy hown hr hm hsz hbase
  unfold Oper.wp execOp
  simp only [ho, resolve, invoke, builtin, Sem.run_bind, Sem.run_pure, Result.andThen_ok, List.map_toArray, List.map_cons, List.map_nil, h1, h2, hrun]
  exact h A' c' w' k1 k2 k3
/-- .. in a plain region. -/
theorem wpList_apB {rest : List Oper} (hgd : o.guard = none) (s x : Operand) (ho : o.op = .call { callee := .builtin .append, args := #[s, x], argTypes := #[t, t'] })
    (ht : P.underlying t = some (.slice 5)) (ht' : P.underlying t' = some (.slice e')) (hi : P.info? 5 = some i) (hz : i.zero = some (.int .u8 0)) (hs : i.size = 1) (hy : i.bytes = 1)
    (h1 : a.eval s = .slice A n c) (h2 : a.eval x = .slice A2 m d) (hown : OwnB base w A n c l) (hr : RdB B w A2 l2) (hm : l2.length = m) (N : Nat) (hN : n + m = N) (hsz : n + m ≤ 1099511627776) (hbase : base ≤ w.heap.size)
    (h : ∀ A' c' w', OwnB base w' A' N c' (l ++ l2) → Below base w w' → w.grownBy w' (A.map (·.block)) → wpList P ops Q rest (a.put o.dst (.slice A' N c')) w') : wpList P ops Q (o :: rest) a w :=
  wpList_plain hgd fun _ hK => wp_apB s x ho ht ht' hi hz hs hy h1 h2 hown hr hm N hN hsz hbase fun A' c' w' k1 k2 k3 => hK _ _ (h A' c' w' k1 k2 k3)
/-- .. at a step of a region that draws its order. -/
theorem step_apB {K : Act → World → Prop} {E : Prop} (hgd : o.guard = none) (s x : Operand) (ho : o.op = .call { callee := .builtin .append, args := #[s, x], argTypes := #[t, t'] })
    (ht : P.underlying t = some (.slice 5)) (ht' : P.underlying t' = some (.slice e')) (hi : P.info? 5 = some i) (hz : i.zero = some (.int .u8 0)) (hs : i.size = 1) (hy : i.bytes = 1)
    (h1 : a.eval s = .slice A n c) (h2 : a.eval x = .slice A2 m d) (hown : OwnB base w A n c l) (hr : RdB B w A2 l2) (hm : l2.length = m) (N : Nat) (hN : n + m = N) (hsz : n + m ≤ 1099511627776) (hbase : base ≤ w.heap.size)
    (h : ∀ A' c' w', OwnB base w' A' N c' (l ++ l2) → Below base w w' → w.grownBy w' (A.map (·.block)) → K (a.put o.dst (.slice A' N c')) w') :
    if Region.wanted o (yielded ops a.tmps) = true then Oper.wp P o a w K Q else E := by
  have hw : Region.wanted o (yielded ops a.tmps) = true := by simp [Region.wanted, hgd]
  rw [if_pos hw]
  exact wp_apB s x ho ht ht' hi hz hs hy h1 h2 hown hr hm N hN hsz hbase h
end
end Go.Proofs.Ytkfhkfddhijkcaa

namespace Go.Proofs.Ytkfhkfddhijkcaa
open Go.RowKit Go.WideShapes Go.ChangeShapes

section
variable {H : Type} {enc : TypeId × Value → H}
theorem cellsB1 : Try.prog.cellsOf 5 = 1 := by kernel_rfl
theorem wf_u8 {z : Int} (h : (Lit.int .u8 z).wf = true) : z = ((UInt8.ofNat z.toNat).toNat : Int) := by
  have e1 : IntKind.u8.min = 0 := rfl
  have e2 : IntKind.u8.max = 255 := rfl
  simp [Lit.wf, e1, e2] at h
  rw [UInt8.toNat_ofNat']
  omega
theorem wf_i64 {n : Int} (h : (Lit.int .i64 n).wf = true) : -9223372036854775808 ≤ n ∧ n ≤ 9223372036854775807 := by
  have e1 : IntKind.i64.min = -9223372036854775808 := rfl
  have e2 : IntKind.i64.max = 9223372036854775807 := rfl
  simp [Lit.wf, e1, e2] at h
  omega
set_option maxRecDepth 100000 in
/-- An argument that is a slice of bytes, opened. -/
theorem open_bytl {t : TypeId} (ht : Try.prog.underlying t = some (.slice 5)) {W : World} {r : Reach} {b0 : Nat} {v : Value} {d : DataW H} {p : List MemPlace} (hv : Value.okWide Try.prog W r b0 t v) (h : DataW.Trod enc Try.prog W 0 (fun _ => true) true t v d p) :
    ∃ (A : Option Addr) (n c : Nat) (l : List UInt8), v = .slice A n c ∧ l.length = n ∧ RdB W.heap.size W A l ∧ n ≤ c ∧ c ≤ maxLen := by
  obtain ⟨A, n, c, rfl⟩ := okWide_slice ht hv
  obtain ⟨fuel, hf⟩ := h
  rcases open_ints ht Try.underlying5 cellsB1 hf with ⟨hcs, _⟩ | ⟨a, len, cap, zs, hcs, _, hl, hm, hmm, _, hcell, hwf⟩
  · simp [Value.cells] at hcs
    obtain ⟨rfl, rfl, rfl⟩ := hcs
    exact ⟨none, 0, 0, [], rfl, rfl, RdB.nil _ _ _, Nat.le_refl _, Nat.zero_le _⟩
  · simp [Value.cells] at hcs
    obtain ⟨rfl, rfl, rfl⟩ := hcs
    have hle : n ≤ zs.length := by rw [hmm]; simp; omega
    refine ⟨some a, n, c, (zs.take n).map (fun z => UInt8.ofNat z.toNat), rfl, by rw [List.length_map, List.length_take]; omega, fun k x hx => ?_, hl, hm⟩
    have hk : k < n := by
      have := (List.getElem?_eq_some_iff.1 hx).1
      rw [List.length_map, List.length_take] at this
      omega
    have hkz : k < zs.length := by omega
    have hc := hcell k hkz
    have e : zs.getD k 0 = zs[k] := by rw [List.getD_eq_getElem?_getD, List.getElem?_eq_getElem hkz]; rfl
    rw [List.getElem?_map, List.getElem?_take, if_pos hk, List.getElem?_eq_getElem hkz] at hx
    injection hx with hx
    subst hx
    have hb := World.block_lt_of_cell? W _ hc
    rw [add_block] at hb
    refine ⟨a, rfl, hb, ?_⟩
    rw [hc, e]
    have := wf_u8 (hwf zs[k] (List.getElem_mem hkz))
    rw [← this]
set_option maxRecDepth 100000 in
/-- An argument that is a uint64, opened. -/
theorem open_u64 {P : Program} {t : TypeId} (ht : P.underlying t = some (.int .u64)) {W : World} {base : Nat} {spare : Nat → Bool} {held : Bool} {r : Reach} {b0 : Nat} {v : Value} {d : DataW H} {p : List MemPlace} (hv : Value.okWide P W r b0 t v) (h : DataW.Trod enc P W base spare held t v d p) :
    ∃ x : Nat, v = .int .u64 x ∧ x < 18446744073709551616 := by
  obtain ⟨n, rfl, _, _, hw⟩ := open_int ht hv h
  have e1 : IntKind.u64.min = 0 := rfl
  have e2 : IntKind.u64.max = 18446744073709551615 := rfl
  simp [Lit.wf, e1, e2] at hw
  exact ⟨n.toNat, by rw [Int.toNat_of_nonneg hw.1], by omega⟩
end
end Go.Proofs.Ytkfhkfddhijkcaa

namespace Go.Proofs.Ytkfhkfddhijkcaa
open Go.RowKit

/-- The slice at A reads as the rows l, in blocks below B. -/
def RdBB (B : Nat) (W : World) (A : Option Addr) (l : List (List UInt8)) : Prop :=
  ∀ k x, l[k]? = some x → ∃ ad A' c', A = some ad ∧ ad.block < B ∧ W.cell? (ad.add k) = some (.slice A' x.length c') ∧ RdB B W A' x ∧ x.length ≤ c'
theorem RdBB.nil (B : Nat) (W : World) (A : Option Addr) : RdBB B W A [] := fun k x h => by simp at h
theorem RdBB.keep {B C : Nat} {W W' : World} {A : Option Addr} {l : List (List UInt8)} (h : RdBB B W A l) (hb : Below C W W') (hBC : B ≤ C) : RdBB B W' A l := by
  intro k x hx
  obtain ⟨ad, A', c', hA, hl, h1, h2, h3⟩ := h k x hx
  exact ⟨ad, A', c', hA, hl, (hb.cell (by rw [add_block]; omega)).trans h1, h2.keep hb hBC, h3⟩
end Go.Proofs.Ytkfhkfddhijkcaa

namespace Go.Proofs.Ytkfhkfddhijkcaa
open Go.RowKit Go.WideShapes Go.ChangeShapes

section
open Go.Deep
variable {H : Type} {enc : TypeId × Value → H}
/-- An argument that is a byte, opened. -/
theorem open_u8 {P : Program} {t : TypeId} (ht : P.underlying t = some (.int .u8)) {W : World} {base : Nat} {spare : Nat → Bool} {held : Bool} {r : Reach} {b0 : Nat} {v : Value} {d : DataW H} {p : List MemPlace} (hv : Value.okWide P W r b0 t v) (h : DataW.Trod enc P W base spare held t v d p) :
    ∃ x : UInt8, v = .int .u8 (x.toNat : Int) := by
  obtain ⟨n, rfl, _, _, hw⟩ := open_int ht hv h
  exact ⟨UInt8.ofNat n.toNat, by rw [← wf_u8 hw]⟩
theorem cellsSl : Try.prog.cellsOf 105 = 1 := by kernel_rfl
/-- A cell that reads as bytes. -/
theorem rd_bytl {t : TypeId} (ht : Try.prog.underlying t = some (.slice 5)) {W : World} {fuel : Nat} {cs : List Value} {y : DataW H × List MemPlace} (h : DataW.trod enc Try.prog W 0 (fun _ => true) true fuel t cs = some y) :
    ∃ (A : Option Addr) (n c : Nat) (l : List UInt8), cs = [.slice A n c] ∧ l.length = n ∧ RdB W.heap.size W A l ∧ n ≤ c := by
  rcases open_ints ht Try.underlying5 cellsB1 h with ⟨hcs, _⟩ | ⟨a, n, c, zs, hcs, _, hl, hm, hmm, _, hcell, hwf⟩
  · exact ⟨none, 0, 0, [], hcs, rfl, RdB.nil _ _ _, Nat.le_refl _⟩
  · have hle : n ≤ zs.length := by rw [hmm]; simp; omega
    refine ⟨some a, n, c, (zs.take n).map (fun z => UInt8.ofNat z.toNat), hcs, by rw [List.length_map, List.length_take]; omega, fun k x hx => ?_, hl⟩
    have hk : k < n := by
      have := (List.getElem?_eq_some_iff.1 hx).1
      rw [List.length_map, List.length_take] at this
      omega
    have hkz : k < zs.length := by omega
    have hc := hcell k hkz
    have e : zs.getD k 0 = zs[k] := by rw [List.getD_eq_getElem?_getD, List.getElem?_eq_getElem hkz]; rfl
    rw [List.getElem?_map, List.getElem?_take, if_pos hk, List.getElem?_eq_getElem hkz] at hx
    injection hx with hx
    subst hx
    have hb := World.block_lt_of_cell? W _ hc
    rw [add_block] at hb
    refine ⟨a, rfl, hb, ?_⟩
    rw [hc, e]
    have := wf_u8 (hwf zs[k] (List.getElem_mem hkz))
    rw [← this]
set_option maxRecDepth 100000 in
/-- An argument that is a slice of slices of bytes, opened. -/
theorem open_rows {t : TypeId} (ht : Try.prog.underlying t = some (.slice 105)) {W : World} {r : Reach} {b0 : Nat} {v : Value} {d : DataW H} {p : List MemPlace} (hv : Value.okWide Try.prog W r b0 t v) (h : DataW.Trod enc Try.prog W 0 (fun _ => true) true t v d p) :
    ∃ (A : Option Addr) (n c : Nat) (l : List (List UInt8)), v = .slice A n c ∧ l.length = n ∧ RdBB W.heap.size W A l ∧ n ≤ maxLen := by
  obtain ⟨A, n, c, rfl⟩ := okWide_slice ht hv
  obtain ⟨fuel, hf⟩ := h
  rcases open_slice ht hf with ⟨hcs, _⟩ | ⟨a, len, cap, m, f, D, Pl, hcs, _, hl, hm, hmm, _, hi⟩
  · simp [Value.cells] at hcs
    obtain ⟨rfl, rfl, rfl⟩ := hcs
    exact ⟨none, 0, 0, [], rfl, rfl, RdBB.nil _ _ _, Nat.zero_le _⟩
  · simp [Value.cells] at hcs
    obtain ⟨rfl, rfl, rfl⟩ := hcs
    have hle : n ≤ m := by rw [hmm]; simp; omega
    have hx : ∀ i, ∃ x : List UInt8, i < n → ∃ A' c', W.cell? (a.add i) = some (.slice A' x.length c') ∧ RdB W.heap.size W A' x ∧ x.length ≤ c' := by
      intro i
      by_cases hin : i < n
      · obtain ⟨cs', hc, ht'⟩ := hi i (by omega)
        rw [cellsSl, Nat.mul_one] at hc
        obtain ⟨_, hlen, hcell⟩ := World.cells?_some hc
        obtain ⟨A', n', c', x, rfl, hn', hr', hc'⟩ := rd_bytl Try.underlying105 ht'
        refine ⟨x, fun _ => ⟨A', c', ?_, hr', by omega⟩⟩
        have h0 := hcell 0 (by omega)
        rw [hn']
        simpa [Addr.add] using h0
      · exact ⟨[], fun h => absurd h hin⟩
    have hF : ∃ f : Nat → List UInt8, ∀ i, i < n → ∃ A' c', W.cell? (a.add i) = some (.slice A' (f i).length c') ∧ RdB W.heap.size W A' (f i) ∧ (f i).length ≤ c' := ⟨fun i => Classical.choose (hx i), fun i => Classical.choose_spec (hx i)⟩
    obtain ⟨g, hg⟩ := hF
    refine ⟨some a, n, c, (List.range n).map g, rfl, by simp, fun k x hx => ?_, by omega⟩
    have hk : k < n := by
      have := (List.getElem?_eq_some_iff.1 hx).1
      simpa using this
    have e : x = g k := by
      rw [List.getElem?_map, List.getElem?_range hk] at hx
      injection hx with hx
      exact hx.symm
    subst e
    obtain ⟨A', c', h1, h2, h3⟩ := hg k hk
    have hb := World.block_lt_of_cell? W _ h1
    rw [add_block] at hb
    exact ⟨a, A', c', rfl, hb, h1, h2, h3⟩
end
end Go.Proofs.Ytkfhkfddhijkcaa

namespace Go.Proofs.Ytkfhkfddhijkcaa
open Go.RowKit

/-- A block, whole. -/
def Blk (W : World) (b : Nat) (cs : Array Value) (t : TypeId) : Prop := W.heap[b]? = some (.cells cs t)
theorem Blk.lt {W : World} {b : Nat} {cs : Array Value} {t : TypeId} (h : Blk W b cs t) : b < W.heap.size := (Array.getElem?_eq_some_iff.1 h).1
theorem Blk.keep {W W1 : World} {b : Nat} {cs : Array Value} {t : TypeId} (h : Blk W b cs t) (hb : Below W.heap.size W W1) : Blk W1 b cs t := (hb.block b h.lt).trans h
theorem blk_new (w : World) (cs : Array Value) (t : TypeId) : Blk (w.alloc (.cells cs t)) w.heap.size cs t := by
  show (w.heap.push _)[w.heap.size]? = _
  simp
theorem blk_at {w : World} {b : Nat} (h : b = w.heap.size) (cs : Array Value) (t : TypeId) : Blk (w.alloc (.cells cs t)) b cs t := by
  subst h
  exact blk_new w cs t
theorem Blk.alloc {W : World} {b : Nat} {cs : Array Value} {t : TypeId} (h : Blk W b cs t) (o : Obj) : Blk (W.alloc o) b cs t := h.keep (b0 W o)
theorem Blk.drew {W : World} {b : Nat} {cs : Array Value} {t : TypeId} (h : Blk W b cs t) (n : Nat) : Blk (W.drewN n) b cs t := h
theorem Blk.cell {W : World} {b : Nat} {cs : Array Value} {t : TypeId} (h : Blk W b cs t) (i : Nat) : W.cell? ⟨b, i, none⟩ = cs[i]? := by
  unfold Blk at h
  simp [World.cell?, h]
theorem Blk.free {W : World} {b : Nat} {cs : Array Value} {t : TypeId} (h : Blk W b cs t) (i : Nat) : W.frozen? ⟨b, i, none⟩ = false := by
  unfold Blk at h
  simp [World.frozen?, h]
/-- A value's three cells. -/
theorem Blk.c3 {W : World} {b : Nat} {v0 v1 v2 : Value} {t : TypeId} (h : Blk W b #[v0, v1, v2] t) :
    W.cell? ⟨b, 0, none⟩ = some v0 ∧ W.cell? ⟨b, 1, none⟩ = some v1 ∧ W.cell? ⟨b, 2, none⟩ = some v2 ∧ b < W.heap.size :=
  ⟨h.cell 0, h.cell 1, h.cell 2, h.lt⟩
theorem Blk.f3 {W : World} {b : Nat} {v0 v1 v2 : Value} {t : TypeId} (h : Blk W b #[v0, v1, v2] t) :
    W.frozen? ⟨b, 0, none⟩ = false ∧ W.frozen? ⟨b, 1, none⟩ = false ∧ W.frozen? ⟨b, 2, none⟩ = false :=
  ⟨h.free 0, h.free 1, h.free 2⟩
/-- An operation's eight cells. -/
theorem Blk.c8 {W : World} {b : Nat} {v0 v1 v2 v3 v4 v5 v6 v7 : Value} {t : TypeId} (h : Blk W b #[v0, v1, v2, v3, v4, v5, v6, v7] t) :
    W.cell? ⟨b, 0, none⟩ = some v0 ∧ W.cell? ⟨b, 1, none⟩ = some v1 ∧ W.cell? ⟨b, 2, none⟩ = some v2 ∧ W.cell? ⟨b, 3, none⟩ = some v3 ∧ W.cell? ⟨b, 4, none⟩ = some v4 ∧ W.cell? ⟨b, 5, none⟩ = some v5 ∧ W.cell? ⟨b, 6, none⟩ = some v6 ∧ W.cell? ⟨b, 7, none⟩ = some v7 ∧ b < W.heap.size :=
  ⟨h.cell 0, h.cell 1, h.cell 2, h.cell 3, h.cell 4, h.cell 5, h.cell 6, h.cell 7, h.lt⟩
theorem Blk.f8 {W : World} {b : Nat} {v0 v1 v2 v3 v4 v5 v6 v7 : Value} {t : TypeId} (h : Blk W b #[v0, v1, v2, v3, v4, v5, v6, v7] t) :
    W.frozen? ⟨b, 0, none⟩ = false ∧ W.frozen? ⟨b, 1, none⟩ = false ∧ W.frozen? ⟨b, 2, none⟩ = false ∧ W.frozen? ⟨b, 3, none⟩ = false ∧ W.frozen? ⟨b, 4, none⟩ = false ∧ W.frozen? ⟨b, 5, none⟩ = false ∧ W.frozen? ⟨b, 6, none⟩ = false ∧ W.frozen? ⟨b, 7, none⟩ = false :=
  ⟨h.free 0, h.free 1, h.free 2, h.free 3, h.free 4, h.free 5, h.free 6, h.free 7⟩
theorem below8 {B b : Nat} {w W : World} (h : Below B w W) (hb : B ≤ b) (v0 v1 v2 v3 v4 v5 v6 v7 : Value) : Below B w ((((((((W.setCell ⟨b, 0, none⟩ v0).setCell ⟨b, 1, none⟩ v1).setCell ⟨b, 2, none⟩ v2).setCell ⟨b, 3, none⟩ v3).setCell ⟨b, 4, none⟩ v4).setCell ⟨b, 5, none⟩ v5).setCell ⟨b, 6, none⟩ v6).setCell ⟨b, 7, none⟩ v7) := ((((((((h.setCell (p := ⟨b, 0, none⟩) hb v0).setCell (p := ⟨b, 1, none⟩) hb v1).setCell (p := ⟨b, 2, none⟩) hb v2).setCell (p := ⟨b, 3, none⟩) hb v3).setCell (p := ⟨b, 4, none⟩) hb v4).setCell (p := ⟨b, 5, none⟩) hb v5).setCell (p := ⟨b, 6, none⟩) hb v6).setCell (p := ⟨b, 7, none⟩) hb v7)

/-- A store into a block. -/
theorem Blk.set {W : World} {b : Nat} {cs : Array Value} {t : TypeId} (h : Blk W b cs t) (i : Nat) (v : Value) : Blk (W.setCell ⟨b, i, none⟩ v) b (cs.setIfInBounds i v) t := by
  unfold Blk at h ⊢
  simp [World.setCell, Array.getElem?_modify, h]
/-- .. into another one. -/
theorem Blk.other {W : World} {b : Nat} {cs : Array Value} {t : TypeId} (h : Blk W b cs t) {c : Nat} (hne : b ≠ c) (i : Nat) (v : Value) : Blk (W.setCell ⟨c, i, none⟩ v) b cs t :=
  (Below.heap_setCell W ⟨c, i, none⟩ v b hne).trans h
theorem Blk.other8 {W : World} {b c : Nat} {cs : Array Value} {t : TypeId} (h : Blk W b cs t) (hne : b ≠ c) (v0 v1 v2 v3 v4 v5 v6 v7 : Value) : Blk ((((((((W.setCell ⟨c, 0, none⟩ v0).setCell ⟨c, 1, none⟩ v1).setCell ⟨c, 2, none⟩ v2).setCell ⟨c, 3, none⟩ v3).setCell ⟨c, 4, none⟩ v4).setCell ⟨c, 5, none⟩ v5).setCell ⟨c, 6, none⟩ v6).setCell ⟨c, 7, none⟩ v7) b cs t := ((((((((h.other hne 0 v0).other hne 1 v1).other hne 2 v2).other hne 3 v3).other hne 4 v4).other hne 5 v5).other hne 6 v6).other hne 7 v7)
/-- Six cells. -/
theorem Blk.c6 {W : World} {b : Nat} {v0 v1 v2 v3 v4 v5 : Value} {t : TypeId} (h : Blk W b #[v0, v1, v2, v3, v4, v5] t) :
    W.cell? ⟨b, 0, none⟩ = some v0 ∧ W.cell? ⟨b, 1, none⟩ = some v1 ∧ W.cell? ⟨b, 2, none⟩ = some v2 ∧ W.cell? ⟨b, 3, none⟩ = some v3 ∧ W.cell? ⟨b, 4, none⟩ = some v4 ∧ W.cell? ⟨b, 5, none⟩ = some v5 ∧ b < W.heap.size :=
  ⟨h.cell 0, h.cell 1, h.cell 2, h.cell 3, h.cell 4, h.cell 5, h.lt⟩
theorem Blk.f6 {W : World} {b : Nat} {v0 v1 v2 v3 v4 v5 : Value} {t : TypeId} (h : Blk W b #[v0, v1, v2, v3, v4, v5] t) :
    W.frozen? ⟨b, 0, none⟩ = false ∧ W.frozen? ⟨b, 1, none⟩ = false ∧ W.frozen? ⟨b, 2, none⟩ = false ∧ W.frozen? ⟨b, 3, none⟩ = false ∧ W.frozen? ⟨b, 4, none⟩ = false ∧ W.frozen? ⟨b, 5, none⟩ = false :=
  ⟨h.free 0, h.free 1, h.free 2, h.free 3, h.free 4, h.free 5⟩
end Go.Proofs.Ytkfhkfddhijkcaa

namespace Go.Proofs.Ytkfhkfddhijkcaa
open Go.RowKit

theorem blt_lt {a b : Nat} (h : Nat.blt a b = true) : a < b := by rw [← Nat.blt_eq]; exact h
/-- A slot's value under its guard. -/
def cnd (g : Bool) (v : Value) : Value := bif g then v else undef
/-- A frame with slots written, the last one first: the slot, the guard, the value. -/
def fr (a0 : Act) : List (Nat × Bool × Value) → Act
  | [] => a0
  | p :: L => (fr a0 L).put (some p.1) (cnd p.2.1 p.2.2)
/-- What was written into a slot. -/
def lk : List (Nat × Bool × Value) → Nat → Option (Bool × Value)
  | [], _ => none
  | p :: L, i => bif Nat.beq p.1 i then some p.2 else lk L i
theorem fr_size (a0 : Act) : ∀ L, (fr a0 L).tmps.size = a0.tmps.size
  | [] => rfl
  | p :: L => by
    show ((fr a0 L).tmps.setIfInBounds p.1 (cnd p.2.1 p.2.2)).size = _
    rw [Array.size_setIfInBounds, fr_size a0 L]
theorem ev_fr {a0 : Act} {i : Nat} {g : Bool} {v : Value} : ∀ {L : List (Nat × Bool × Value)}, (∀ p, p ∈ L → p.1 < a0.tmps.size) → lk L i = some (g, v) → (fr a0 L).eval (.tmp i) = cnd g v
  | [], _, h => by cases h
  | p :: L, h, hl => by
    have h1 := h p (List.mem_cons_self ..)
    show ((fr a0 L).tmps.setIfInBounds p.1 (cnd p.2.1 p.2.2)).getD i undef = _
    have hs := fr_size a0 L
    have hl' : (bif Nat.beq p.1 i then some p.2 else lk L i) = some (g, v) := hl
    by_cases e : p.1 = i
    · subst e
      rw [Nat.beq_refl, cond_true] at hl'
      have hp : p.2 = (g, v) := Option.some.inj hl'
      rw [hp, Array.getD_eq_getD_getElem?, Array.getElem?_setIfInBounds_self_of_lt (by omega)]
      rfl
    · have e2 : Nat.beq p.1 i = false := by
        cases hb : Nat.beq p.1 i with
        | false => rfl
        | true => exact absurd (Nat.eq_of_beq_eq_true hb) e
      rw [e2, cond_false] at hl'
      rw [Array.getD_eq_getD_getElem?, Array.getElem?_setIfInBounds_ne e, ← Array.getD_eq_getD_getElem?]
      exact ev_fr (fun q hq => h q (List.mem_cons_of_mem _ hq)) hl'
theorem lk_at {a0 : Act} {L : List (Nat × Bool × Value)} {i : Nat} {g gi : Bool} {v : Value} (hk : ∀ p, p ∈ L → p.1 < a0.tmps.size) (hl : lk L i = some (gi, v)) (hs : g = true → gi = true) (hg : g = true) : (fr a0 L).eval (.tmp i) = v := by
  rw [ev_fr hk hl, hs hg]
  rfl
def nthO : List Oper → Nat → Option Oper
  | [], _ => none
  | o :: _, 0 => some o
  | _ :: t, j + 1 => nthO t j
theorem nthO_is : ∀ (l : List Oper) (j : Nat), l[j]? = nthO l j
  | [], j => by simp [nthO]
  | o :: t, 0 => by simp [nthO]
  | o :: t, j + 1 => by rw [List.getElem?_cons_succ, nthO_is t j]; rfl
/-- The guard of an operation that stands under another one's result. -/
def gdOf (want : Bool) : Option (Bool × Value) → Option Bool
  | some (g0, .bool b) => some (bif want then g0 && b else g0 && !b)
  | _ => none
def gdAt (L : List (Nat × Bool × Value)) (want : Bool) : Option Nat → Option Bool
  | some d => gdOf want (lk L d)
  | none => none
/-- When is an operation wanted? -/
def wtG (l : List Oper) (L : List (Nat × Bool × Value)) : Option (Nat × Bool) → Option Bool
  | none => some true
  | some (j, want) => gdAt L want ((nthO l j).bind (·.dst))
theorem lk_mem : ∀ {L : List (Nat × Bool × Value)} {d : Nat} {q : Bool × Value}, lk L d = some q → ∃ p, p ∈ L ∧ p.1 = d
  | [], _, _, h => by cases h
  | p :: L, d, q, h => by
    by_cases e : p.1 = d
    · exact ⟨p, List.mem_cons_self .., e⟩
    · have e2 : Nat.beq p.1 d = false := by
        cases hb : Nat.beq p.1 d with
        | false => rfl
        | true => exact absurd (Nat.eq_of_beq_eq_true hb) e
      have h' : (bif Nat.beq p.1 d then some p.2 else lk L d) = some q := h
      rw [e2, cond_false] at h'
      obtain ⟨p', h1, h2⟩ := lk_mem h'
      exact ⟨p', List.mem_cons_of_mem _ h1, h2⟩
theorem wt_is {l : List Oper} {a0 : Act} {L : List (Nat × Bool × Value)} {o : Oper} {g : Bool} (hk : ∀ p, p ∈ L → p.1 < a0.tmps.size) (h : wtG l L o.guard = some g) : Region.wanted o (yielded l.toArray (fr a0 L).tmps) = g := by
  unfold Region.wanted
  cases hg : o.guard with
  | none => rw [hg] at h; exact Option.some.inj h
  | some q =>
    obtain ⟨j, want⟩ := q
    rw [hg] at h
    have h0 : gdAt L want ((nthO l j).bind (·.dst)) = some g := h
    cases hd : (nthO l j).bind (·.dst) with
    | none => rw [hd] at h0; cases h0
    | some d =>
      rw [hd] at h0
      have h1 : gdOf want (lk L d) = some g := h0
      cases hl : lk L d with
      | none => rw [hl] at h1; cases h1
      | some q =>
        obtain ⟨g0, v⟩ := q
        rw [hl] at h1
        cases v with
        | bool b =>
          have h2 : (bif want then g0 && b else g0 && !b) = g := Option.some.inj h1
          obtain ⟨p, hp, hpd⟩ := lk_mem hl
          have h5 : d < (fr a0 L).tmps.size := by rw [fr_size, ← hpd]; exact hk p hp
          have hv : (fr a0 L).tmps[d]? = some (cnd g0 (.bool b)) := by
            have h4 : (fr a0 L).tmps.getD d undef = cnd g0 (.bool b) := ev_fr hk hl
            rw [Array.getElem?_eq_getElem h5]
            rw [Array.getD_eq_getD_getElem?, Array.getElem?_eq_getElem h5] at h4
            exact congrArg some h4
          show (yielded l.toArray (fr a0 L).tmps j == some want) = _
          unfold yielded
          rw [List.getElem?_toArray, nthO_is, hd]
          show ((match (fr a0 L).tmps[d]? with | some (.bool b) => some b | _ => none) == some want) = _
          rw [hv, ← h2]
          cases g0
          · cases want <;> rfl
          · cases b <;> cases want <;> rfl
        | _ => cases h1
section
variable {P : Program} {l : List Oper} {Q : Exit → Act → World → Prop} {rest : List Oper} {a0 : Act} {L : List (Nat × Bool × Value)} {w : World}
/-- The operations that are left, over a frame so written. -/
structure FL (P : Program) (l : List Oper) (Q : Exit → Act → World → Prop) (rest : List Oper) (a0 : Act) (L : List (Nat × Bool × Value)) (w : World) : Prop where
  go : (∀ p, p ∈ L → p.1 < a0.tmps.size) → wpList P l.toArray Q rest (fr a0 L) w
theorem fl_start (h : FL P l Q rest a0 [] w) : wpList P l.toArray Q rest a0 w := h.go fun p hp => by cases hp
theorem fl_know {i n : Nat} {v : Value} (hn : a0.tmps.size = n) (hi : Nat.blt i n = true) (hv : (fr a0 L).eval (.tmp i) = v) (h : FL P l Q rest a0 ((i, true, v) :: L) w) : FL P l Q rest a0 L w := by
  refine ⟨fun hk => ?_⟩
  have hi' : i < a0.tmps.size := by rw [hn]; exact blt_lt hi
  have h2 := h.go (fun p hp => by
    rcases List.mem_cons.1 hp with e | e
    · rw [e]; exact hi'
    · exact hk p e)
  have e : fr a0 ((i, true, v) :: L) = fr a0 L := by
    show (fr a0 L).put (some i) v = fr a0 L
    have h5 : i < (fr a0 L).tmps.size := by rw [fr_size]; exact hi'
    have h4 : (fr a0 L).tmps.getD i undef = v := hv
    rw [Array.getD_eq_getD_getElem?, Array.getElem?_eq_getElem h5] at h4
    have h6 : (fr a0 L).tmps.setIfInBounds i v = (fr a0 L).tmps := by
      apply Array.ext (by simp)
      intro j h1 h2
      by_cases e : i = j
      · subst e
        rw [Array.getElem_setIfInBounds_self]
        exact h4.symm
      · rw [Array.getElem_setIfInBounds_ne _ e]
    show ({ fr a0 L with tmps := (fr a0 L).tmps.setIfInBounds i v } : Act) = fr a0 L
    rw [h6]
  rw [e] at h2
  exact h2
theorem fl_end (h : Q .normal (fr a0 L) w) : FL P l Q [] a0 L w := ⟨fun _ => h⟩
theorem fl_endb {d : Nat} {g b c : Bool} (e : b = c) (h : Q .normal (fr a0 ((d, g, .bool c) :: L)) w) : FL P l Q [] a0 ((d, g, .bool b) :: L) w := by
  subst e
  exact ⟨fun _ => h⟩
theorem fl_op {o : Oper} {d n : Nat} {g : Bool} {v : Value} (hn : a0.tmps.size = n) (ho : o.dst = some d) (hd : Nat.blt d n = true) (hw : wtG l L o.guard = some g)
    (hr : (∀ p, p ∈ L → p.1 < a0.tmps.size) → g = true → (execOp (fr a0 L).eval o).run P w = .ok (.value v) w) (h : FL P l Q rest a0 ((d, g, v) :: L) w) : FL P l Q (o :: rest) a0 L w := by
  refine ⟨fun hk => ?_⟩
  have h2 : wpList P l.toArray Q rest ((fr a0 L).put (some d) (cnd g v)) w := h.go (fun p hp => by
    rcases List.mem_cons.1 hp with e | e
    · rw [e, hn]; exact blt_lt hd
    · exact hk p e)
  refine wpList_step fun K hK => ?_
  rw [wt_is hk hw]
  cases g with
  | false => exact hK _ _ (by rw [ho]; exact h2)
  | true =>
    show o.wp P (fr a0 L) w K Q
    unfold Oper.wp
    rw [hr hk rfl]
    exact hK _ _ (by rw [ho]; exact h2)
theorem fl_callq {o : Oper} {d n : Nat} {g : Bool} {v : Value} {f : FuncId} {args : Array Value} (hn : a0.tmps.size = n) (ho : o.dst = some d) (hd : Nat.blt d n = true) (hw : wtG l L o.guard = some g)
    (hr : (∀ p, p ∈ L → p.1 < a0.tmps.size) → g = true → (execOp (fr a0 L).eval o).run P w = .ok (.enter f args) w) (hc : g = true → Calls P f args w fun e w' => e = .returned v ∧ w = w') (h : FL P l Q rest a0 ((d, g, v) :: L) w) : FL P l Q (o :: rest) a0 L w := by
  refine ⟨fun hk => ?_⟩
  have h2 : wpList P l.toArray Q rest ((fr a0 L).put (some d) (cnd g v)) w := h.go (fun p hp => by
    rcases List.mem_cons.1 hp with e | e
    · rw [e, hn]; exact blt_lt hd
    · exact hk p e)
  refine wpList_step fun K hK => ?_
  rw [wt_is hk hw]
  cases g with
  | false => exact hK _ _ (by rw [ho]; exact h2)
  | true =>
    show o.wp P (fr a0 L) w K Q
    unfold Oper.wp
    rw [hr hk rfl, Oper.upon_enter]
    refine (hc rfl).mono ?_
    rintro e w' ⟨rfl, rfl⟩
    exact hK _ _ (by rw [ho]; exact h2)
theorem fl_move {i d n : Nat} {ty : TypeId} {p : String} {af : Array Edge} {gd : Option (Nat × Bool)} {g gi : Bool} {v : Value} (hn : a0.tmps.size = n) (hd : Nat.blt d n = true) (hw : wtG l L gd = some g) (hl : lk L i = some (gi, v)) (hs : g = true → gi = true)
    (h : FL P l Q rest a0 ((d, g, v) :: L) w) : FL P l Q (⟨some d, .move (.tmp i), ty, p, af, gd⟩ :: rest) a0 L w :=
  fl_op hn rfl hd hw (fun hk hg => by show Result.ok (Next.value ((fr a0 L).eval (.tmp i))) w = _; rw [lk_at hk hl hs hg]) h
theorem fl_not {i d n : Nat} {ty ty' : TypeId} {p : String} {af : Array Edge} {gd : Option (Nat × Bool)} {g gi b : Bool} (hn : a0.tmps.size = n) (hd : Nat.blt d n = true) (hw : wtG l L gd = some g) (hl : lk L i = some (gi, (.bool b))) (hs : g = true → gi = true)
    (h : FL P l Q rest a0 ((d, g, (.bool !b)) :: L) w) : FL P l Q (⟨some d, .unOp .not ty' (.tmp i), ty, p, af, gd⟩ :: rest) a0 L w :=
  fl_op hn rfl hd hw (fun hk hg => by
    have e := lk_at hk hl hs hg
    unfold execOp
    dsimp only
    rw [e]
    rfl) h
theorem fl_or {c i d n : Nat} {ty : TypeId} {p : String} {af : Array Edge} {gd : Option (Nat × Bool)} {g gc gi b b2 : Bool} (hn : a0.tmps.size = n) (hd : Nat.blt d n = true) (hw : wtG l L gd = some g) (hc : lk L c = some (gc, (.bool b))) (hs : g = true → gc = true) (hl : lk L i = some (gi, (.bool b2))) (hs2 : g = true → b = false → gi = true)
    (h : FL P l Q rest a0 ((d, g, (.bool (b || b2))) :: L) w) : FL P l Q (⟨some d, .pick (.tmp c) (.const (.bool true)) (.tmp i), ty, p, af, gd⟩ :: rest) a0 L w :=
  fl_op hn rfl hd hw (fun hk hg => by
    have e := lk_at hk hc hs hg
    unfold execOp
    dsimp only
    rw [e]
    cases b with
    | true => rfl
    | false =>
      have e2 := lk_at hk hl (fun _ => hs2 hg rfl) hg
      rw [e2]
      rfl) h
theorem fl_and {c i d n : Nat} {ty : TypeId} {p : String} {af : Array Edge} {gd : Option (Nat × Bool)} {g gc gi b b2 : Bool} (hn : a0.tmps.size = n) (hd : Nat.blt d n = true) (hw : wtG l L gd = some g) (hc : lk L c = some (gc, (.bool b))) (hs : g = true → gc = true) (hl : lk L i = some (gi, (.bool b2))) (hs2 : g = true → b = true → gi = true)
    (h : FL P l Q rest a0 ((d, g, (.bool (b && b2))) :: L) w) : FL P l Q (⟨some d, .pick (.tmp c) (.tmp i) (.const (.bool false)), ty, p, af, gd⟩ :: rest) a0 L w :=
  fl_op hn rfl hd hw (fun hk hg => by
    have e := lk_at hk hc hs hg
    unfold execOp
    dsimp only
    rw [e]
    cases b with
    | false => rfl
    | true =>
      have e2 := lk_at hk hl (fun _ => hs2 hg rfl) hg
      rw [e2]
      rfl) h
theorem fl_load {i d n : Nat} {t ty : TypeId} {p : String} {af : Array Edge} {gd : Option (Nat × Bool)} {g gi : Bool} {ad : Addr} {v : Value} (hn : a0.tmps.size = n) (hd : Nat.blt d n = true) (hw : wtG l L gd = some g) (hl : lk L i = some (gi, (.pointer (some ad)))) (hs : g = true → gi = true) (hr : (Instr.loadAt t (.pointer (some ad))).run P w = .ok v w)
    (h : FL P l Q rest a0 ((d, g, v) :: L) w) : FL P l Q (⟨some d, .load t (.tmp i), ty, p, af, gd⟩ :: rest) a0 L w :=
  fl_op hn rfl hd hw (fun hk hg => by
    have e := lk_at hk hl hs hg
    unfold execOp
    dsimp only
    rw [e, Sem.run_bind, hr]
    rfl) h
theorem fl_field {i f d n : Nat} {t ty : TypeId} {p : String} {af : Array Edge} {gd : Option (Nat × Bool)} {g gi : Bool} {ad ad' : Addr} (hn : a0.tmps.size = n) (hd : Nat.blt d n = true) (hw : wtG l L gd = some g) (hl : lk L i = some (gi, (.pointer (some ad)))) (hs : g = true → gi = true) (hr : (Instr.fieldAt t (.pointer (some ad)) f).run P w = .ok (.pointer (some ad')) w)
    (h : FL P l Q rest a0 ((d, g, (.pointer (some ad'))) :: L) w) : FL P l Q (⟨some d, .fieldAddr t (.tmp i) f, ty, p, af, gd⟩ :: rest) a0 L w :=
  fl_op hn rfl hd hw (fun hk hg => by
    have e := lk_at hk hl hs hg
    unfold execOp
    dsimp only
    rw [e, Sem.run_bind, hr]
    rfl) h
theorem fl_build0 {d n : Nat} {t ty : TypeId} {p : String} {af : Array Edge} {gd : Option (Nat × Bool)} {g : Bool} {v : Value} (hn : a0.tmps.size = n) (hd : Nat.blt d n = true) (hw : wtG l L gd = some g) (hr : (Instr.build t #[]).run P w = .ok v w)
    (h : FL P l Q rest a0 ((d, g, v) :: L) w) : FL P l Q (⟨some d, .build t #[], ty, p, af, gd⟩ :: rest) a0 L w :=
  fl_op hn rfl hd hw (fun _ _ => by
    unfold execOp
    dsimp only
    simp only [List.map_toArray, List.map_nil]
    rw [Sem.run_bind, hr]
    rfl) h
theorem fl_bin {op : BinOp} {i j d n : Nat} {t ty ty2 : TypeId} {p : String} {af : Array Edge} {gd : Option (Nat × Bool)} {g gi gj : Bool} {vi vj v : Value} (hn : a0.tmps.size = n) (hd : Nat.blt d n = true) (hw : wtG l L gd = some g) (hl : lk L i = some (gi, vi)) (hs : g = true → gi = true) (hl2 : lk L j = some (gj, vj)) (hs2 : g = true → gj = true)
    (hr : ((do eqGuard op t (.tmp i) (.tmp j) vi vj; binOp op t vi vj) : Sem Value).run P w = .ok v w)
    (h : FL P l Q rest a0 ((d, g, v) :: L) w) : FL P l Q (⟨some d, .binOp op t (.tmp i) (.tmp j) ty2, ty, p, af, gd⟩ :: rest) a0 L w :=
  fl_op hn rfl hd hw (fun hk hg => by
    have e := lk_at hk hl hs hg
    have e2 := lk_at hk hl2 hs2 hg
    unfold execOp
    dsimp only
    rw [e, e2, Sem.run_bind, hr]
    rfl) h
theorem and_l {a b : Bool} (h : (a && b) = true) : a = true := by cases a <;> simp_all
end
/-! Over the seat's program: comparisons of numbers, lengths, calls. -/
section
variable {l : List Oper} {Q : Exit → Act → World → Prop} {rest : List Oper} {a0 : Act} {L : List (Nat × Bool × Value)} {w : World}
theorem bin_neq (d : Option Tmp) (x y : Operand) (ty ty2 : TypeId) (p : String) (af : Array Edge) (gd : Option (Nat × Bool)) (ρ : Operand → Value) (m k : Int) (h1 : ρ x = .int .i64 m) (h2 : ρ y = .int .i64 k) : (execOp ρ ⟨d, .binOp .neq 3 x y ty2, ty, p, af, gd⟩).run Try.prog w = .ok (.value (.bool (m != k))) w := by
  unfold execOp
  dsimp only
  rw [h1, h2]
  go_simp
theorem fl_neq {i d n : Nat} {m k : Int} {ty ty2 : TypeId} {p : String} {af : Array Edge} {gd : Option (Nat × Bool)} {g gi : Bool} (hn : a0.tmps.size = n) (hd : Nat.blt d n = true) (hw : wtG l L gd = some g) (hl : lk L i = some (gi, (.int .i64 m))) (hs : g = true → gi = true)
    (h : FL Try.prog l Q rest a0 ((d, g, (.bool (m != k))) :: L) w) : FL Try.prog l Q (⟨some d, .binOp .neq 3 (.tmp i) (.const (.int .i64 k)) ty2, ty, p, af, gd⟩ :: rest) a0 L w :=
  fl_op hn rfl hd hw (fun hk hg => bin_neq _ _ _ _ _ _ _ _ _ m k (lk_at hk hl hs hg) rfl) h
theorem fl_neq2 {i j d n : Nat} {m k : Int} {ty ty2 : TypeId} {p : String} {af : Array Edge} {gd : Option (Nat × Bool)} {g gi gj : Bool} (hn : a0.tmps.size = n) (hd : Nat.blt d n = true) (hw : wtG l L gd = some g) (hl : lk L i = some (gi, (.int .i64 m))) (hs : g = true → gi = true) (hl2 : lk L j = some (gj, (.int .i64 k))) (hs2 : g = true → gj = true)
    (h : FL Try.prog l Q rest a0 ((d, g, (.bool (m != k))) :: L) w) : FL Try.prog l Q (⟨some d, .binOp .neq 3 (.tmp i) (.tmp j) ty2, ty, p, af, gd⟩ :: rest) a0 L w :=
  fl_op hn rfl hd hw (fun hk hg => bin_neq _ _ _ _ _ _ _ _ _ m k (lk_at hk hl hs hg) (lk_at hk hl2 hs2 hg)) h
theorem bin_eql (d : Option Tmp) (x y : Operand) (ty ty2 : TypeId) (p : String) (af : Array Edge) (gd : Option (Nat × Bool)) (ρ : Operand → Value) (m k : Int) (h1 : ρ x = .int .i64 m) (h2 : ρ y = .int .i64 k) : (execOp ρ ⟨d, .binOp .eql 3 x y ty2, ty, p, af, gd⟩).run Try.prog w = .ok (.value (.bool (m == k))) w := by
  unfold execOp
  dsimp only
  rw [h1, h2]
  go_simp
theorem fl_eql {i d n : Nat} {m k : Int} {ty ty2 : TypeId} {p : String} {af : Array Edge} {gd : Option (Nat × Bool)} {g gi : Bool} (hn : a0.tmps.size = n) (hd : Nat.blt d n = true) (hw : wtG l L gd = some g) (hl : lk L i = some (gi, (.int .i64 m))) (hs : g = true → gi = true)
    (h : FL Try.prog l Q rest a0 ((d, g, (.bool (m == k))) :: L) w) : FL Try.prog l Q (⟨some d, .binOp .eql 3 (.tmp i) (.const (.int .i64 k)) ty2, ty, p, af, gd⟩ :: rest) a0 L w :=
  fl_op hn rfl hd hw (fun hk hg => bin_eql _ _ _ _ _ _ _ _ _ m k (lk_at hk hl hs hg) rfl) h
theorem fl_eql2 {i j d n : Nat} {m k : Int} {ty ty2 : TypeId} {p : String} {af : Array Edge} {gd : Option (Nat × Bool)} {g gi gj : Bool} (hn : a0.tmps.size = n) (hd : Nat.blt d n = true) (hw : wtG l L gd = some g) (hl : lk L i = some (gi, (.int .i64 m))) (hs : g = true → gi = true) (hl2 : lk L j = some (gj, (.int .i64 k))) (hs2 : g = true → gj = true)
    (h : FL Try.prog l Q rest a0 ((d, g, (.bool (m == k))) :: L) w) : FL Try.prog l Q (⟨some d, .binOp .eql 3 (.tmp i) (.tmp j) ty2, ty, p, af, gd⟩ :: rest) a0 L w :=
  fl_op hn rfl hd hw (fun hk hg => bin_eql _ _ _ _ _ _ _ _ _ m k (lk_at hk hl hs hg) (lk_at hk hl2 hs2 hg)) h
theorem bin_gtr (d : Option Tmp) (x y : Operand) (ty ty2 : TypeId) (p : String) (af : Array Edge) (gd : Option (Nat × Bool)) (ρ : Operand → Value) (m k : Int) (h1 : ρ x = .int .i64 m) (h2 : ρ y = .int .i64 k) : (execOp ρ ⟨d, .binOp .gtr 3 x y ty2, ty, p, af, gd⟩).run Try.prog w = .ok (.value (.bool (decide (k < m)))) w := by
  unfold execOp
  dsimp only
  rw [h1, h2]
  go_simp
theorem fl_gtr {i d n : Nat} {m k : Int} {ty ty2 : TypeId} {p : String} {af : Array Edge} {gd : Option (Nat × Bool)} {g gi : Bool} (hn : a0.tmps.size = n) (hd : Nat.blt d n = true) (hw : wtG l L gd = some g) (hl : lk L i = some (gi, (.int .i64 m))) (hs : g = true → gi = true)
    (h : FL Try.prog l Q rest a0 ((d, g, (.bool (decide (k < m)))) :: L) w) : FL Try.prog l Q (⟨some d, .binOp .gtr 3 (.tmp i) (.const (.int .i64 k)) ty2, ty, p, af, gd⟩ :: rest) a0 L w :=
  fl_op hn rfl hd hw (fun hk hg => bin_gtr _ _ _ _ _ _ _ _ _ m k (lk_at hk hl hs hg) rfl) h
theorem fl_gtr2 {i j d n : Nat} {m k : Int} {ty ty2 : TypeId} {p : String} {af : Array Edge} {gd : Option (Nat × Bool)} {g gi gj : Bool} (hn : a0.tmps.size = n) (hd : Nat.blt d n = true) (hw : wtG l L gd = some g) (hl : lk L i = some (gi, (.int .i64 m))) (hs : g = true → gi = true) (hl2 : lk L j = some (gj, (.int .i64 k))) (hs2 : g = true → gj = true)
    (h : FL Try.prog l Q rest a0 ((d, g, (.bool (decide (k < m)))) :: L) w) : FL Try.prog l Q (⟨some d, .binOp .gtr 3 (.tmp i) (.tmp j) ty2, ty, p, af, gd⟩ :: rest) a0 L w :=
  fl_op hn rfl hd hw (fun hk hg => bin_gtr _ _ _ _ _ _ _ _ _ m k (lk_at hk hl hs hg) (lk_at hk hl2 hs2 hg)) h
theorem bin_leq (d : Option Tmp) (x y : Operand) (ty ty2 : TypeId) (p : String) (af : Array Edge) (gd : Option (Nat × Bool)) (ρ : Operand → Value) (m k : Int) (h1 : ρ x = .int .i64 m) (h2 : ρ y = .int .i64 k) : (execOp ρ ⟨d, .binOp .leq 3 x y ty2, ty, p, af, gd⟩).run Try.prog w = .ok (.value (.bool (decide (m ≤ k)))) w := by
  unfold execOp
  dsimp only
  rw [h1, h2]
  go_simp
theorem fl_leq {i d n : Nat} {m k : Int} {ty ty2 : TypeId} {p : String} {af : Array Edge} {gd : Option (Nat × Bool)} {g gi : Bool} (hn : a0.tmps.size = n) (hd : Nat.blt d n = true) (hw : wtG l L gd = some g) (hl : lk L i = some (gi, (.int .i64 m))) (hs : g = true → gi = true)
    (h : FL Try.prog l Q rest a0 ((d, g, (.bool (decide (m ≤ k)))) :: L) w) : FL Try.prog l Q (⟨some d, .binOp .leq 3 (.tmp i) (.const (.int .i64 k)) ty2, ty, p, af, gd⟩ :: rest) a0 L w :=
  fl_op hn rfl hd hw (fun hk hg => bin_leq _ _ _ _ _ _ _ _ _ m k (lk_at hk hl hs hg) rfl) h
theorem fl_leq2 {i j d n : Nat} {m k : Int} {ty ty2 : TypeId} {p : String} {af : Array Edge} {gd : Option (Nat × Bool)} {g gi gj : Bool} (hn : a0.tmps.size = n) (hd : Nat.blt d n = true) (hw : wtG l L gd = some g) (hl : lk L i = some (gi, (.int .i64 m))) (hs : g = true → gi = true) (hl2 : lk L j = some (gj, (.int .i64 k))) (hs2 : g = true → gj = true)
    (h : FL Try.prog l Q rest a0 ((d, g, (.bool (decide (m ≤ k)))) :: L) w) : FL Try.prog l Q (⟨some d, .binOp .leq 3 (.tmp i) (.tmp j) ty2, ty, p, af, gd⟩ :: rest) a0 L w :=
  fl_op hn rfl hd hw (fun hk hg => bin_leq _ _ _ _ _ _ _ _ _ m k (lk_at hk hl hs hg) (lk_at hk hl2 hs2 hg)) h
theorem call3_is {f : FuncId} (he : ∀ args w, (callFunc f args).run Try.prog w = .ok (.enter f args) w) (d : Option Tmp) (x y z : Operand) (ts : Array TypeId) (ty : TypeId) (p : String) (af : Array Edge) (gd : Option (Nat × Bool)) (ρ : Operand → Value) (u v t : Value) (h1 : ρ x = u) (h2 : ρ y = v) (h3 : ρ z = t) (hf : ρ (.func f) = .func (.func f) #[] #[]) : (execOp ρ ⟨d, .call { callee := .value (.func f), args := #[x, y, z], argTypes := ts }, ty, p, af, gd⟩).run Try.prog w = .ok (.enter f #[u, v, t]) w := by
  unfold execOp
  dsimp only
  go_simp

theorem fl_callc {f : FuncId} {i d n : Nat} {v c1 c2 r : Value} {ts : Array TypeId} {ty : TypeId} {p : String} {af : Array Edge} {gd : Option (Nat × Bool)} {g gi : Bool} (he : ∀ args w, (callFunc f args).run Try.prog w = .ok (.enter f args) w) (hn : a0.tmps.size = n) (hd : Nat.blt d n = true) (hw : wtG l L gd = some g) (hl : lk L i = some (gi, v)) (hs : g = true → gi = true)
    (hc : Calls Try.prog f #[v, c1, c2] w fun e w' => e = .returned r ∧ w = w') (h : FL Try.prog l Q rest a0 ((d, g, r) :: L) w) : FL Try.prog l Q (⟨some d, .call { callee := .value (.func f), args := #[.tmp i, .const c1, .const c2], argTypes := ts }, ty, p, af, gd⟩ :: rest) a0 L w :=
  fl_callq hn rfl hd hw (fun hk hg => call3_is he _ _ _ _ _ _ _ _ _ _ v c1 c2 (lk_at hk hl hs hg) rfl rfl rfl) (fun _ => hc) h
theorem fl_callt {f : FuncId} {i j d n : Nat} {v c1 c2 r : Value} {ts : Array TypeId} {ty : TypeId} {p : String} {af : Array Edge} {gd : Option (Nat × Bool)} {g gi gj : Bool} (he : ∀ args w, (callFunc f args).run Try.prog w = .ok (.enter f args) w) (hn : a0.tmps.size = n) (hd : Nat.blt d n = true) (hw : wtG l L gd = some g) (hl : lk L i = some (gi, v)) (hs : g = true → gi = true) (hl2 : lk L j = some (gj, c2)) (hs2 : g = true → gj = true)
    (hc : Calls Try.prog f #[v, c1, c2] w fun e w' => e = .returned r ∧ w = w') (h : FL Try.prog l Q rest a0 ((d, g, r) :: L) w) : FL Try.prog l Q (⟨some d, .call { callee := .value (.func f), args := #[.tmp i, .const c1, .tmp j], argTypes := ts }, ty, p, af, gd⟩ :: rest) a0 L w :=
  fl_callq hn rfl hd hw (fun hk hg => call3_is he _ _ _ _ _ _ _ _ _ _ v c1 c2 (lk_at hk hl hs hg) rfl (lk_at hk hl2 hs2 hg) rfl) (fun _ => hc) h
theorem load_int {ad : Addr} {v : Value} (h : w.cell? ad = some v) : (Instr.loadAt 3 (.pointer (some ad))).run Try.prog w = .ok v w := by go_simp
theorem load_bool {ad : Addr} {v : Value} (h : w.cell? ad = some v) : (Instr.loadAt 4 (.pointer (some ad))).run Try.prog w = .ok v w := by go_simp
theorem len_is (d : Option Tmp) (x : Operand) (ts : Array TypeId) (ty : TypeId) (p : String) (af : Array Edge) (gd : Option (Nat × Bool)) (ρ : Operand → Value) (A : Option Addr) (n c : Nat) (h1 : ρ x = .slice A n c) (hr : (Builtin.len_ ts ty #[.slice A n c]).run Try.prog w = .ok (.int .i64 n) w) : (execOp ρ ⟨d, .call { callee := .builtin .len, args := #[x], argTypes := ts }, ty, p, af, gd⟩).run Try.prog w = .ok (.value (.int .i64 n)) w := by
  unfold execOp
  dsimp only
  go_simp
theorem fl_len {i d n m c : Nat} {A : Option Addr} {ts : Array TypeId} {ty : TypeId} {p : String} {af : Array Edge} {gd : Option (Nat × Bool)} {g gi : Bool} (hn : a0.tmps.size = n) (hd : Nat.blt d n = true) (hw : wtG l L gd = some g) (hl : lk L i = some (gi, (.slice A m c))) (hs : g = true → gi = true) (hr : (Builtin.len_ ts ty #[.slice A m c]).run Try.prog w = .ok (.int .i64 m) w)
    (h : FL Try.prog l Q rest a0 ((d, g, (.int .i64 m)) :: L) w) : FL Try.prog l Q (⟨some d, .call { callee := .builtin .len, args := #[.tmp i], argTypes := ts }, ty, p, af, gd⟩ :: rest) a0 L w :=
  fl_op hn rfl hd hw (fun hk hg => len_is _ _ _ _ _ _ _ _ A m c (lk_at hk hl hs hg) hr) h
end
end Go.Proofs.Ytkfhkfddhijkcaa

namespace Go.Proofs.Ytkfhkfddhijkcaa
open Go.RowKit

section
variable {P : Program} {l : List Oper} {Q : Exit → Act → World → Prop} {rest : List Oper} {a0 : Act} {L : List (Nat × Bool × Value)} {w : World}
theorem fl_callw {o : Oper} {d n : Nat} {g : Bool} {v : Value} {f : FuncId} {args : Array Value} (hn : a0.tmps.size = n) (ho : o.dst = some d) (hd : Nat.blt d n = true) (hw : wtG l L o.guard = some g)
    (hr : (∀ p, p ∈ L → p.1 < a0.tmps.size) → g = true → (execOp (fr a0 L).eval o).run P w = .ok (.enter f args) w) (hc : g = true → Calls P f args w fun e w' => e = .returned v ∧ Below w.heap.size w w') (h : ∀ w2, Below w.heap.size w w2 → FL P l Q rest a0 ((d, g, v) :: L) w2) : FL P l Q (o :: rest) a0 L w := by
  refine ⟨fun hk => ?_⟩
  have h2 : ∀ w2, Below w.heap.size w w2 → wpList P l.toArray Q rest ((fr a0 L).put (some d) (cnd g v)) w2 := fun w2 hb => (h w2 hb).go (fun p hp => by
    rcases List.mem_cons.1 hp with e | e
    · rw [e, hn]; exact blt_lt hd
    · exact hk p e)
  refine wpList_step fun K hK => ?_
  rw [wt_is hk hw]
  cases g with
  | false => exact hK _ _ (by rw [ho]; exact h2 w (Below.refl _ _))
  | true =>
    show o.wp P (fr a0 L) w K Q
    unfold Oper.wp
    rw [hr hk rfl, Oper.upon_enter]
    refine (hc rfl).mono ?_
    rintro e w' ⟨rfl, hb⟩
    exact hK _ _ (by rw [ho]; exact h2 w' hb)
theorem fl_callx {o : Oper} {d n : Nat} {f : FuncId} {args : Array Value} {R : Value → World → Prop} (hn : a0.tmps.size = n) (ho : o.dst = some d) (hd : Nat.blt d n = true) (hw : wtG l L o.guard = some true)
    (hr : (∀ p, p ∈ L → p.1 < a0.tmps.size) → (execOp (fr a0 L).eval o).run P w = .ok (.enter f args) w) (hc : Calls P f args w fun e w' => ∃ v, e = .returned v ∧ R v w') (h : ∀ v w2, R v w2 → FL P l Q rest a0 ((d, true, v) :: L) w2) : FL P l Q (o :: rest) a0 L w := by
  refine ⟨fun hk => ?_⟩
  refine wpList_step fun K hK => ?_
  rw [wt_is hk hw]
  show o.wp P (fr a0 L) w K Q
  unfold Oper.wp
  rw [hr hk, Oper.upon_enter]
  refine hc.mono ?_
  rintro e w' ⟨v, rfl, hR⟩
  have h2 : wpList P l.toArray Q rest ((fr a0 L).put (some d) (cnd true v)) w' := (h v w' hR).go (fun p hp => by
    rcases List.mem_cons.1 hp with e | e
    · rw [e, hn]; exact blt_lt hd
    · exact hk p e)
  exact hK _ _ (by rw [ho]; exact h2)
theorem fl_opw {o : Oper} {d n : Nat} {v : Value} {w2 : World} (hn : a0.tmps.size = n) (ho : o.dst = some d) (hd : Nat.blt d n = true) (hw : wtG l L o.guard = some true)
    (hr : (∀ p, p ∈ L → p.1 < a0.tmps.size) → (execOp (fr a0 L).eval o).run P w = .ok (.value v) w2) (h : FL P l Q rest a0 ((d, true, v) :: L) w2) : FL P l Q (o :: rest) a0 L w := by
  refine ⟨fun hk => ?_⟩
  have h2 : wpList P l.toArray Q rest ((fr a0 L).put (some d) (cnd true v)) w2 := h.go (fun p hp => by
    rcases List.mem_cons.1 hp with e | e
    · rw [e, hn]; exact blt_lt hd
    · exact hk p e)
  refine wpList_step fun K hK => ?_
  rw [wt_is hk hw]
  show o.wp P (fr a0 L) w K Q
  unfold Oper.wp
  rw [hr hk]
  exact hK _ _ (by rw [ho]; exact h2)
theorem fl_assign {i d n : Nat} {ty : TypeId} {p : String} {af : Array Edge} {gd : Option (Nat × Bool)} {g gi : Bool} {v : Value} (hn : a0.tmps.size = n) (hd : Nat.blt d n = true) (hw : wtG l L gd = some g) (hl : lk L i = some (gi, v)) (hs : g = true → gi = true)
    (h : FL P l Q rest a0 ((d, g, v) :: L) w) : FL P l Q (⟨some d, .assign (.tmp i), ty, p, af, gd⟩ :: rest) a0 L w :=
  fl_op hn rfl hd hw (fun hk hg => by show Result.ok (Next.value ((fr a0 L).eval (.tmp i))) w = _; rw [lk_at hk hl hs hg]) h
theorem fl_nilc {i d n : Nat} {ty : TypeId} {p : String} {af : Array Edge} {gd : Option (Nat × Bool)} {g gi : Bool} {ad : Addr} (hn : a0.tmps.size = n) (hd : Nat.blt d n = true) (hw : wtG l L gd = some g) (hl : lk L i = some (gi, (.pointer (some ad)))) (hs : g = true → gi = true)
    (h : FL P l Q rest a0 ((d, g, (.pointer (some ad))) :: L) w) : FL P l Q (⟨some d, .nilCheck (.tmp i), ty, p, af, gd⟩ :: rest) a0 L w :=
  fl_op hn rfl hd hw (fun hk hg => by
    have e := lk_at hk hl hs hg
    unfold execOp
    dsimp only
    rw [e]
    rfl) h
end
section
variable {l : List Oper} {Q : Exit → Act → World → Prop} {rest : List Oper} {a0 : Act} {L : List (Nat × Bool × Value)} {w : World}
theorem bin_lss (d : Option Tmp) (x y : Operand) (ty ty2 : TypeId) (p : String) (af : Array Edge) (gd : Option (Nat × Bool)) (ρ : Operand → Value) (m k : Int) (h1 : ρ x = .int .i64 m) (h2 : ρ y = .int .i64 k) : (execOp ρ ⟨d, .binOp .lss 3 x y ty2, ty, p, af, gd⟩).run Try.prog w = .ok (.value (.bool (decide (m < k)))) w := by
  unfold execOp
  dsimp only
  rw [h1, h2]
  go_simp
theorem fl_lss {i d n : Nat} {m k : Int} {ty ty2 : TypeId} {p : String} {af : Array Edge} {gd : Option (Nat × Bool)} {g gi : Bool} (hn : a0.tmps.size = n) (hd : Nat.blt d n = true) (hw : wtG l L gd = some g) (hl : lk L i = some (gi, (.int .i64 m))) (hs : g = true → gi = true)
    (h : FL Try.prog l Q rest a0 ((d, g, (.bool (decide (m < k)))) :: L) w) : FL Try.prog l Q (⟨some d, .binOp .lss 3 (.tmp i) (.const (.int .i64 k)) ty2, ty, p, af, gd⟩ :: rest) a0 L w :=
  fl_op hn rfl hd hw (fun hk hg => bin_lss _ _ _ _ _ _ _ _ _ m k (lk_at hk hl hs hg) rfl) h
theorem fl_lss2 {i j d n : Nat} {m k : Int} {ty ty2 : TypeId} {p : String} {af : Array Edge} {gd : Option (Nat × Bool)} {g gi gj : Bool} (hn : a0.tmps.size = n) (hd : Nat.blt d n = true) (hw : wtG l L gd = some g) (hl : lk L i = some (gi, (.int .i64 m))) (hs : g = true → gi = true) (hl2 : lk L j = some (gj, (.int .i64 k))) (hs2 : g = true → gj = true)
    (h : FL Try.prog l Q rest a0 ((d, g, (.bool (decide (m < k)))) :: L) w) : FL Try.prog l Q (⟨some d, .binOp .lss 3 (.tmp i) (.tmp j) ty2, ty, p, af, gd⟩ :: rest) a0 L w :=
  fl_op hn rfl hd hw (fun hk hg => bin_lss _ _ _ _ _ _ _ _ _ m k (lk_at hk hl hs hg) (lk_at hk hl2 hs2 hg)) h
theorem bin_geq (d : Option Tmp) (x y : Operand) (ty ty2 : TypeId) (p : String) (af : Array Edge) (gd : Option (Nat × Bool)) (ρ : Operand → Value) (m k : Int) (h1 : ρ x = .int .i64 m) (h2 : ρ y = .int .i64 k) : (execOp ρ ⟨d, .binOp .geq 3 x y ty2, ty, p, af, gd⟩).run Try.prog w = .ok (.value (.bool (decide (k ≤ m)))) w := by
  unfold execOp
  dsimp only
  rw [h1, h2]
  go_simp
theorem fl_geq {i d n : Nat} {m k : Int} {ty ty2 : TypeId} {p : String} {af : Array Edge} {gd : Option (Nat × Bool)} {g gi : Bool} (hn : a0.tmps.size = n) (hd : Nat.blt d n = true) (hw : wtG l L gd = some g) (hl : lk L i = some (gi, (.int .i64 m))) (hs : g = true → gi = true)
    (h : FL Try.prog l Q rest a0 ((d, g, (.bool (decide (k ≤ m)))) :: L) w) : FL Try.prog l Q (⟨some d, .binOp .geq 3 (.tmp i) (.const (.int .i64 k)) ty2, ty, p, af, gd⟩ :: rest) a0 L w :=
  fl_op hn rfl hd hw (fun hk hg => bin_geq _ _ _ _ _ _ _ _ _ m k (lk_at hk hl hs hg) rfl) h
theorem fl_geq2 {i j d n : Nat} {m k : Int} {ty ty2 : TypeId} {p : String} {af : Array Edge} {gd : Option (Nat × Bool)} {g gi gj : Bool} (hn : a0.tmps.size = n) (hd : Nat.blt d n = true) (hw : wtG l L gd = some g) (hl : lk L i = some (gi, (.int .i64 m))) (hs : g = true → gi = true) (hl2 : lk L j = some (gj, (.int .i64 k))) (hs2 : g = true → gj = true)
    (h : FL Try.prog l Q rest a0 ((d, g, (.bool (decide (k ≤ m)))) :: L) w) : FL Try.prog l Q (⟨some d, .binOp .geq 3 (.tmp i) (.tmp j) ty2, ty, p, af, gd⟩ :: rest) a0 L w :=
  fl_op hn rfl hd hw (fun hk hg => bin_geq _ _ _ _ _ _ _ _ _ m k (lk_at hk hl hs hg) (lk_at hk hl2 hs2 hg)) h
theorem call1_is {f : FuncId} (he : ∀ args w, (callFunc f args).run Try.prog w = .ok (.enter f args) w) (d : Option Tmp) (x0 : Operand) (ts : Array TypeId) (ty : TypeId) (p : String) (af : Array Edge) (gd : Option (Nat × Bool)) (ρ : Operand → Value) (v0 : Value) (h0 : ρ x0 = v0) (hf : ρ (.func f) = .func (.func f) #[] #[]) : (execOp ρ ⟨d, .call { callee := .value (.func f), args := #[x0], argTypes := ts }, ty, p, af, gd⟩).run Try.prog w = .ok (.enter f #[v0]) w := by
  unfold execOp
  dsimp only
  go_simp
theorem call2_is {f : FuncId} (he : ∀ args w, (callFunc f args).run Try.prog w = .ok (.enter f args) w) (d : Option Tmp) (x0 x1 : Operand) (ts : Array TypeId) (ty : TypeId) (p : String) (af : Array Edge) (gd : Option (Nat × Bool)) (ρ : Operand → Value) (v0 v1 : Value) (h0 : ρ x0 = v0) (h1 : ρ x1 = v1) (hf : ρ (.func f) = .func (.func f) #[] #[]) : (execOp ρ ⟨d, .call { callee := .value (.func f), args := #[x0, x1], argTypes := ts }, ty, p, af, gd⟩).run Try.prog w = .ok (.enter f #[v0, v1]) w := by
  unfold execOp
  dsimp only
  go_simp
theorem fl_call1w {f : FuncId} {i0 d n : Nat} {v0 r : Value} {ts : Array TypeId} {ty : TypeId} {p : String} {af : Array Edge} {gd : Option (Nat × Bool)} {g g0 : Bool} (he : ∀ args w, (callFunc f args).run Try.prog w = .ok (.enter f args) w) (hn : a0.tmps.size = n) (hd : Nat.blt d n = true) (hw : wtG l L gd = some g) (hl0 : lk L i0 = some (g0, v0)) (hs0 : g = true → g0 = true)
    (hc : g = true → Calls Try.prog f #[v0] w fun e w' => e = .returned r ∧ Below w.heap.size w w') (h : ∀ w2, Below w.heap.size w w2 → FL Try.prog l Q rest a0 ((d, g, r) :: L) w2) : FL Try.prog l Q (⟨some d, .call { callee := .value (.func f), args := #[.tmp i0], argTypes := ts }, ty, p, af, gd⟩ :: rest) a0 L w :=
  fl_callw hn rfl hd hw (fun hk hg => call1_is he _ _ _ _ _ _ _ _ v0 (lk_at hk hl0 hs0 hg) rfl) hc h
theorem fl_call1x {f : FuncId} {i0 d n : Nat} {v0 : Value} {R : Value → World → Prop} {ts : Array TypeId} {ty : TypeId} {p : String} {af : Array Edge} {gd : Option (Nat × Bool)} {g0 : Bool} (he : ∀ args w, (callFunc f args).run Try.prog w = .ok (.enter f args) w) (hn : a0.tmps.size = n) (hd : Nat.blt d n = true) (hw : wtG l L gd = some true) (hl0 : lk L i0 = some (g0, v0)) (hs0 : g0 = true)
    (hc : Calls Try.prog f #[v0] w fun e w' => ∃ v, e = .returned v ∧ R v w') (h : ∀ v w2, R v w2 → FL Try.prog l Q rest a0 ((d, true, v) :: L) w2) : FL Try.prog l Q (⟨some d, .call { callee := .value (.func f), args := #[.tmp i0], argTypes := ts }, ty, p, af, gd⟩ :: rest) a0 L w :=
  fl_callx hn rfl hd hw (fun hk => call1_is he _ _ _ _ _ _ _ _ v0 (lk_at hk hl0 (fun _ => hs0) rfl) rfl) hc h
theorem fl_call2w {f : FuncId} {i0 i1 d n : Nat} {v0 v1 r : Value} {ts : Array TypeId} {ty : TypeId} {p : String} {af : Array Edge} {gd : Option (Nat × Bool)} {g g0 g1 : Bool} (he : ∀ args w, (callFunc f args).run Try.prog w = .ok (.enter f args) w) (hn : a0.tmps.size = n) (hd : Nat.blt d n = true) (hw : wtG l L gd = some g) (hl0 : lk L i0 = some (g0, v0)) (hs0 : g = true → g0 = true) (hl1 : lk L i1 = some (g1, v1)) (hs1 : g = true → g1 = true)
    (hc : g = true → Calls Try.prog f #[v0, v1] w fun e w' => e = .returned r ∧ Below w.heap.size w w') (h : ∀ w2, Below w.heap.size w w2 → FL Try.prog l Q rest a0 ((d, g, r) :: L) w2) : FL Try.prog l Q (⟨some d, .call { callee := .value (.func f), args := #[.tmp i0, .tmp i1], argTypes := ts }, ty, p, af, gd⟩ :: rest) a0 L w :=
  fl_callw hn rfl hd hw (fun hk hg => call2_is he _ _ _ _ _ _ _ _ _ v0 v1 (lk_at hk hl0 hs0 hg) (lk_at hk hl1 hs1 hg) rfl) hc h
theorem fl_call2x {f : FuncId} {i0 i1 d n : Nat} {v0 v1 : Value} {R : Value → World → Prop} {ts : Array TypeId} {ty : TypeId} {p : String} {af : Array Edge} {gd : Option (Nat × Bool)} {g0 g1 : Bool} (he : ∀ args w, (callFunc f args).run Try.prog w = .ok (.enter f args) w) (hn : a0.tmps.size = n) (hd : Nat.blt d n = true) (hw : wtG l L gd = some true) (hl0 : lk L i0 = some (g0, v0)) (hs0 : g0 = true) (hl1 : lk L i1 = some (g1, v1)) (hs1 : g1 = true)
    (hc : Calls Try.prog f #[v0, v1] w fun e w' => ∃ v, e = .returned v ∧ R v w') (h : ∀ v w2, R v w2 → FL Try.prog l Q rest a0 ((d, true, v) :: L) w2) : FL Try.prog l Q (⟨some d, .call { callee := .value (.func f), args := #[.tmp i0, .tmp i1], argTypes := ts }, ty, p, af, gd⟩ :: rest) a0 L w :=
  fl_callx hn rfl hd hw (fun hk => call2_is he _ _ _ _ _ _ _ _ _ v0 v1 (lk_at hk hl0 (fun _ => hs0) rfl) (lk_at hk hl1 (fun _ => hs1) rfl) rfl) hc h
end
end Go.Proofs.Ytkfhkfddhijkcaa

namespace Go.Proofs.Ytkfhkfddhijkcaa
open Go.RowKit

/-- Only block b has turned. -/
structure Only1 (b : Nat) (W W' : World) : Prop where
  os : W'.os = W.os
  tape : W'.tape = W.tape
  output : W'.output = W.output
  size : W'.heap.size = W.heap.size
  block : ∀ k, k ≠ b → W'.heap[k]? = W.heap[k]?
theorem Only1.below {b B : Nat} {W W' : World} (h : Only1 b W W') (hB : B ≤ b) : Below B W W' := ⟨h.os, h.tape, h.output, Nat.le_of_eq h.size.symm, fun k hk => h.block k (by omega)⟩
theorem Only1.refl (b : Nat) (W : World) : Only1 b W W := ⟨rfl, rfl, rfl, rfl, fun _ _ => rfl⟩
theorem Only1.trans {b : Nat} {W W' W'' : World} (h : Only1 b W W') (k : Only1 b W' W'') : Only1 b W W'' := ⟨k.os.trans h.os, k.tape.trans h.tape, k.output.trans h.output, k.size.trans h.size, fun i hi => (k.block i hi).trans (h.block i hi)⟩
theorem only_set (W : World) (b : Nat) (o : Obj) : Only1 b W { W with heap := W.heap.setIfInBounds b o } :=
  ⟨rfl, rfl, rfl, by simp, fun k hk => by
    show (W.heap.setIfInBounds b o)[k]? = _
    rw [Array.getElem?_setIfInBounds_ne hk.symm]⟩
theorem only_cell (W : World) (b j : Nat) (v : Value) : Only1 b W (W.setCell ⟨b, j, none⟩ v) :=
  ⟨rfl, rfl, rfl, by simp [World.setCell], fun k hk => Below.heap_setCell W ⟨b, j, none⟩ v k hk⟩
theorem only_cells (b : Nat) : ∀ (vs : List Value) (o : Nat) (W : World), Only1 b W (W.setCells b o vs)
  | [], _, W => Only1.refl b W
  | v :: r, o, W => (only_cell W b o v).trans (only_cells b r (o + 1) _)
theorem only_row (W : World) (g : Nat) (cs : Array Value) : Only1 g W (W.setRow g cs) := ⟨rfl, rfl, rfl, by simp, fun k hk => setRow_other W g k cs hk⟩
theorem Blk.only {W W1 : World} {b c : Nat} {cs : Array Value} {t : TypeId} (h : Blk W b cs t) (ho : Only1 c W W1) (hne : b ≠ c) : Blk W1 b cs t := (ho.block b hne).trans h
theorem Blk.row {W : World} {g : Nat} {old : Array Value} {t : TypeId} (h : Blk W g old t) (cs : Array Value) : Blk (W.setRow g cs) g cs t := setRow_heap W g old cs t (0, 0) h
/-- Cells from j on, one after the other. -/
def setL (cs : Array Value) : Nat → List Value → Array Value
  | _, [] => cs
  | j, v :: r => setL (cs.setIfInBounds j v) (j + 1) r
theorem Blk.cells {b : Nat} {t : TypeId} : ∀ (vs : List Value) (j : Nat) (W : World) (cs : Array Value), Blk W b cs t → Blk (W.setCells b j vs) b (setL cs j vs) t
  | [], _, _, _, h => h
  | v :: r, j, _, _, h => Blk.cells r (j + 1) _ _ (h.set j v)
end Go.Proofs.Ytkfhkfddhijkcaa

namespace Go.Proofs.Ytkfhkfddhijkcaa
open Go.RowKit

section
variable {P : Program} {l : List Oper} {Q : Exit → Act → World → Prop} {rest : List Oper} {a0 : Act} {L : List (Nat × Bool × Value)} {w : World}
theorem fl_skip {o : Oper} {w2 : World} (ho : o.dst = none) (hw : wtG l L o.guard = some true)
    (hr : (∀ p, p ∈ L → p.1 < a0.tmps.size) → (execOp (fr a0 L).eval o).run P w = .ok .skip w2) (h : FL P l Q rest a0 L w2) : FL P l Q (o :: rest) a0 L w := by
  refine ⟨fun hk => ?_⟩
  refine wpList_step fun K hK => ?_
  rw [wt_is hk hw]
  show o.wp P (fr a0 L) w K Q
  unfold Oper.wp
  rw [hr hk, Oper.upon_skip, ho]
  exact hK _ _ (h.go hk)
theorem run_st {t : TypeId} {i : Nat} {x : Operand} {ty : TypeId} {p : String} {af : Array Edge} {gd : Option (Nat × Bool)} {ad v : Value} {w2 : World} {ρ : Operand → Value} (h1 : ρ (.tmp i) = ad) (h2 : ρ x = v) (hr : (Instr.storeAt t ad v).run P w = .ok () w2) :
    (execOp ρ ⟨none, .store t (.tmp i) x, ty, p, af, gd⟩).run P w = .ok .skip w2 := by
  unfold execOp
  dsimp only
  rw [h1, h2, Sem.run_bind, hr]
  rfl
/-- A store of what a constant is. -/
theorem fl_stc {i b j : Nat} {t ty T : TypeId} {v : Value} {p : String} {af : Array Edge} {gd : Option (Nat × Bool)} {cs : Array Value} (hw : wtG l L gd = some true) (hl : lk L i = some (true, .pointer (some ⟨b, j, none⟩))) (hX : Blk w b cs T)
    (hr : (Instr.storeAt t (.pointer (some ⟨b, j, none⟩)) v).run P w = .ok () (w.setCell ⟨b, j, none⟩ v)) (h : ∀ w2, Only1 b w w2 → Blk w2 b (cs.setIfInBounds j v) T → FL P l Q rest a0 L w2) : FL P l Q (⟨none, .store t (.tmp i) (.const v), ty, p, af, gd⟩ :: rest) a0 L w :=
  fl_skip rfl hw (fun hk => run_st (lk_at hk hl (fun _ => rfl) rfl) rfl hr) (h _ (only_cell w b j v) (hX.set j v))
/-- .. of what a slot has. -/
theorem fl_stt {i k b j : Nat} {g : Bool} {t ty T : TypeId} {v : Value} {p : String} {af : Array Edge} {gd : Option (Nat × Bool)} {cs : Array Value} (hw : wtG l L gd = some true) (hl : lk L i = some (true, .pointer (some ⟨b, j, none⟩))) (hl2 : lk L k = some (g, v)) (hg : g = true) (hX : Blk w b cs T)
    (hr : (Instr.storeAt t (.pointer (some ⟨b, j, none⟩)) v).run P w = .ok () (w.setCell ⟨b, j, none⟩ v)) (h : ∀ w2, Only1 b w w2 → Blk w2 b (cs.setIfInBounds j v) T → FL P l Q rest a0 L w2) : FL P l Q (⟨none, .store t (.tmp i) (.tmp k), ty, p, af, gd⟩ :: rest) a0 L w :=
  fl_skip rfl hw (fun hk => run_st (lk_at hk hl (fun _ => rfl) rfl) (lk_at hk hl2 (fun _ => hg) rfl) hr) (h _ (only_cell w b j v) (hX.set j v))
/-- .. of a row or a struct, into cells from j on. -/
theorem fl_stm {i k b j : Nat} {g : Bool} {t ty T : TypeId} {c : Array Value} {p : String} {af : Array Edge} {gd : Option (Nat × Bool)} {cs : Array Value} (hw : wtG l L gd = some true) (hl : lk L i = some (true, .pointer (some ⟨b, j, none⟩))) (hl2 : lk L k = some (g, .agg c)) (hg : g = true) (hX : Blk w b cs T)
    (hs : j + c.size ≤ cs.size) (hi : (P.info? t).map (·.size) = some c.size) (h1 : c.all (·.oneCell') = true) (h : ∀ w2, Only1 b w w2 → Blk w2 b (setL cs j c.toList) T → FL P l Q rest a0 L w2) : FL P l Q (⟨none, .store t (.tmp i) (.tmp k), ty, p, af, gd⟩ :: rest) a0 L w :=
  fl_skip rfl hw (fun hk => run_st (lk_at hk hl (fun _ => rfl) rfl) (lk_at hk hl2 (fun _ => hg) rfl) (by
    simp only [Instr.storeAt, Instr.sureAddr, Sem.run_bind, Sem.run_pure, Result.andThen_ok]
    exact run_storeVar_mid w b j t c (fun i hi => ⟨by rw [hX.cell, Array.getElem?_eq_getElem (by omega)]; rfl, hX.free _⟩) hi h1)) (h _ (only_cells b _ _ w) (Blk.cells _ _ w cs hX))
/-- .. of a whole block. -/
theorem fl_str {i k b : Nat} {g : Bool} {t ty T : TypeId} {c : Array Value} {p : String} {af : Array Edge} {gd : Option (Nat × Bool)} {cs : Array Value} (hw : wtG l L gd = some true) (hl : lk L i = some (true, .pointer (some ⟨b, 0, none⟩))) (hl2 : lk L k = some (g, .agg c)) (hg : g = true) (hX : Blk w b cs T)
    (hs : cs.size = c.size) (hi : (P.info? t).map (·.size) = some c.size) (h1 : c.all (·.oneCell') = true) (h : ∀ w2, Only1 b w w2 → Blk w2 b c T → FL P l Q rest a0 L w2) : FL P l Q (⟨none, .store t (.tmp i) (.tmp k), ty, p, af, gd⟩ :: rest) a0 L w :=
  fl_skip rfl hw (fun hk => run_st (lk_at hk hl (fun _ => rfl) rfl) (lk_at hk hl2 (fun _ => hg) rfl) (by
    simp only [Instr.storeAt, Instr.sureAddr, Sem.run_bind, Sem.run_pure, Result.andThen_ok]
    exact run_storeVar_row w b T t cs c hX hi hs h1)) (h _ (only_row w b c) (hX.row c))
end
section
variable {W : World} {b j : Nat} {cs : Array Value} {T : TypeId}
theorem blk_some (hX : Blk W b cs T) (hj : j < cs.size) : ∃ u, W.cell? ⟨b, j, none⟩ = some u := ⟨cs[j], by rw [hX.cell]; simp [hj]⟩
theorem st_int (hX : Blk W b cs T) (hj : j < cs.size) (m : Int) : (Instr.storeAt 3 (.pointer (some ⟨b, j, none⟩)) (.int .i64 m)).run Try.prog W = .ok () (W.setCell ⟨b, j, none⟩ (.int .i64 m)) := by
  obtain ⟨u, hu⟩ := blk_some hX hj
  have hf := hX.free j
  clear hX
  go_simp
theorem st_bool (hX : Blk W b cs T) (hj : j < cs.size) (m : Bool) : (Instr.storeAt 4 (.pointer (some ⟨b, j, none⟩)) (.bool m)).run Try.prog W = .ok () (W.setCell ⟨b, j, none⟩ (.bool m)) := by
  obtain ⟨u, hu⟩ := blk_some hX hj
  have hf := hX.free j
  clear hX
  go_simp
end
end Go.Proofs.Ytkfhkfddhijkcaa

namespace Go.Proofs.Ytkfhkfddhijkcaa
open Go.RowKit

section
variable {P : Program} {l : List Oper} {Q : Exit → Act → World → Prop} {rest : List Oper} {a0 : Act} {L : List (Nat × Bool × Value)} {w : World}
theorem run_bc {w : World} {op : BinOp} {x : Operand} {t ty ty2 : TypeId} {c v vi : Value} {d : Option Tmp} {p : String} {af : Array Edge} {gd : Option (Nat × Bool)} {ρ : Operand → Value} (h1 : ρ x = vi) (hr : ((do eqGuard op t x (.const c) vi c; binOp op t vi c) : Sem Value).run P w = .ok v w) (h2 : ρ (.const c) = c := by rfl) : (execOp ρ ⟨d, .binOp op t x (.const c) ty2, ty, p, af, gd⟩).run P w = .ok (.value v) w := by
  unfold execOp
  dsimp only
  rw [h1, h2, Sem.run_bind, hr]
  rfl
theorem run_cv {w : World} {x : Operand} {t t2 ty : TypeId} {v vi : Value} {d : Option Tmp} {p : String} {af : Array Edge} {gd : Option (Nat × Bool)} {ρ : Operand → Value} (h1 : ρ x = vi) (hr : (convert t t2 vi).run P w = .ok v w) : (execOp ρ ⟨d, .convert t t2 x, ty, p, af, gd⟩).run P w = .ok (.value v) w := by
  unfold execOp
  dsimp only
  rw [h1, Sem.run_bind, hr]
  rfl
theorem run_ex {w : World} {x : Operand} {k : Nat} {ty : TypeId} {v : Value} {cs : Array Value} {d : Option Tmp} {p : String} {af : Array Edge} {gd : Option (Nat × Bool)} {ρ : Operand → Value} (h1 : ρ x = .tuple cs) (hr : cs[k]? = some v) : (execOp ρ ⟨d, .extract x k, ty, p, af, gd⟩).run P w = .ok (.value v) w := by
  unfold execOp
  dsimp only
  rw [h1]
  simp [Instr.extract, hr]
theorem g_mv {d n : Nat} {i : Nat} {gi : Bool} {v : Value} {ty : TypeId} {p : String} {af : Array Edge} {gd : Option (Nat × Bool)} {g : Bool} (hn : a0.tmps.size = n)  (h : FL P l Q rest a0 ((d, g, v) :: L) w) (hd : Nat.blt d n = true := by rfl) (hw : wtG l L gd = some g := by rfl) (hli : lk L i = some (gi, v) := by rfl) (hsi : g = true → gi = true := by first | exact fun _ => rfl | exact id | exact and_l | exact fun h => and_l (and_l h) | exact fun h => and_l (and_l (and_l h)) | exact fun h => and_l (and_l (and_l (and_l h))) | exact fun h => and_l (and_l (and_l (and_l (and_l h))))) : FL P l Q (⟨some d, .move (.tmp i), ty, p, af, gd⟩ :: rest) a0 L w := fl_move hn hd hw hli hsi h
theorem g_as {d n : Nat} {i : Nat} {gi : Bool} {v : Value} {ty : TypeId} {p : String} {af : Array Edge} {gd : Option (Nat × Bool)} {g : Bool} (hn : a0.tmps.size = n)  (h : FL P l Q rest a0 ((d, g, v) :: L) w) (hd : Nat.blt d n = true := by rfl) (hw : wtG l L gd = some g := by rfl) (hli : lk L i = some (gi, v) := by rfl) (hsi : g = true → gi = true := by first | exact fun _ => rfl | exact id | exact and_l | exact fun h => and_l (and_l h) | exact fun h => and_l (and_l (and_l h)) | exact fun h => and_l (and_l (and_l (and_l h))) | exact fun h => and_l (and_l (and_l (and_l (and_l h))))) : FL P l Q (⟨some d, .assign (.tmp i), ty, p, af, gd⟩ :: rest) a0 L w := fl_assign hn hd hw hli hsi h
theorem g_nc {d n : Nat} {i : Nat} {gi : Bool} {ad : Addr} {ty : TypeId} {p : String} {af : Array Edge} {gd : Option (Nat × Bool)} {g : Bool} (hn : a0.tmps.size = n)  (h : FL P l Q rest a0 ((d, g, (.pointer (some ad))) :: L) w) (hd : Nat.blt d n = true := by rfl) (hw : wtG l L gd = some g := by rfl) (hli : lk L i = some (gi, .pointer (some ad)) := by rfl) (hsi : g = true → gi = true := by first | exact fun _ => rfl | exact id | exact and_l | exact fun h => and_l (and_l h) | exact fun h => and_l (and_l (and_l h)) | exact fun h => and_l (and_l (and_l (and_l h))) | exact fun h => and_l (and_l (and_l (and_l (and_l h))))) : FL P l Q (⟨some d, .nilCheck (.tmp i), ty, p, af, gd⟩ :: rest) a0 L w := fl_nilc hn hd hw hli hsi h
theorem g_nt {d n : Nat} {i : Nat} {ty2 : TypeId} {gi b : Bool} {ty : TypeId} {p : String} {af : Array Edge} {gd : Option (Nat × Bool)} {g : Bool} (hn : a0.tmps.size = n)  (h : FL P l Q rest a0 ((d, g, (.bool !b)) :: L) w) (hd : Nat.blt d n = true := by rfl) (hw : wtG l L gd = some g := by rfl) (hli : lk L i = some (gi, .bool b) := by rfl) (hsi : g = true → gi = true := by first | exact fun _ => rfl | exact id | exact and_l | exact fun h => and_l (and_l h) | exact fun h => and_l (and_l (and_l h)) | exact fun h => and_l (and_l (and_l (and_l h))) | exact fun h => and_l (and_l (and_l (and_l (and_l h))))) : FL P l Q (⟨some d, .unOp .not ty2 (.tmp i), ty, p, af, gd⟩ :: rest) a0 L w := fl_not hn hd hw hli hsi h
theorem g_or {d n : Nat} {i c : Nat} {gi gc b b2 : Bool} {ty : TypeId} {p : String} {af : Array Edge} {gd : Option (Nat × Bool)} {g : Bool} (hn : a0.tmps.size = n)  (h : FL P l Q rest a0 ((d, g, (.bool (b || b2))) :: L) w) (hd : Nat.blt d n = true := by rfl) (hw : wtG l L gd = some g := by rfl) (hlc : lk L c = some (gc, .bool b) := by rfl) (hsc : g = true → gc = true := by first | exact fun _ => rfl | exact id | exact and_l | exact fun h => and_l (and_l h) | exact fun h => and_l (and_l (and_l h)) | exact fun h => and_l (and_l (and_l (and_l h))) | exact fun h => and_l (and_l (and_l (and_l (and_l h))))) (hl2 : lk L i = some (gi, .bool b2) := by rfl) (hs2 : g = true → b = false → gi = true := by (intro h1 h2; first | rfl | (rw [h1, h2]; rfl) | simp_all)) : FL P l Q (⟨some d, .pick (.tmp c) (.const (.bool true)) (.tmp i), ty, p, af, gd⟩ :: rest) a0 L w := fl_or hn hd hw hlc hsc hl2 hs2 h
theorem g_an {d n : Nat} {i c : Nat} {gi gc b b2 : Bool} {ty : TypeId} {p : String} {af : Array Edge} {gd : Option (Nat × Bool)} {g : Bool} (hn : a0.tmps.size = n)  (h : FL P l Q rest a0 ((d, g, (.bool (b && b2))) :: L) w) (hd : Nat.blt d n = true := by rfl) (hw : wtG l L gd = some g := by rfl) (hlc : lk L c = some (gc, .bool b) := by rfl) (hsc : g = true → gc = true := by first | exact fun _ => rfl | exact id | exact and_l | exact fun h => and_l (and_l h) | exact fun h => and_l (and_l (and_l h)) | exact fun h => and_l (and_l (and_l (and_l h))) | exact fun h => and_l (and_l (and_l (and_l (and_l h))))) (hl2 : lk L i = some (gi, .bool b2) := by rfl) (hs2 : g = true → b = true → gi = true := by (intro h1 h2; first | rfl | (rw [h1, h2]; rfl) | simp_all)) : FL P l Q (⟨some d, .pick (.tmp c) (.tmp i) (.const (.bool false)), ty, p, af, gd⟩ :: rest) a0 L w := fl_and hn hd hw hlc hsc hl2 hs2 h
theorem g_fd {d n : Nat} {i f : Nat} {t : TypeId} {gi : Bool} {ad ad2 : Addr} {ty : TypeId} {p : String} {af : Array Edge} {gd : Option (Nat × Bool)} {g : Bool} (hn : a0.tmps.size = n)  (h : FL P l Q rest a0 ((d, g, (.pointer (some ad2))) :: L) w) (hd : Nat.blt d n = true := by rfl) (hw : wtG l L gd = some g := by rfl) (hli : lk L i = some (gi, .pointer (some ad)) := by rfl) (hsi : g = true → gi = true := by first | exact fun _ => rfl | exact id | exact and_l | exact fun h => and_l (and_l h) | exact fun h => and_l (and_l (and_l h)) | exact fun h => and_l (and_l (and_l (and_l h))) | exact fun h => and_l (and_l (and_l (and_l (and_l h))))) (hr : (Instr.fieldAt t (.pointer (some ad)) f).run P w = .ok (.pointer (some ad2)) w := by with_reducible assumption) : FL P l Q (⟨some d, .fieldAddr t (.tmp i) f, ty, p, af, gd⟩ :: rest) a0 L w := fl_field hn hd hw hli hsi hr h
theorem g_ld {d n : Nat} {i : Nat} {t : TypeId} {gi : Bool} {ad : Addr} {v : Value} {ty : TypeId} {p : String} {af : Array Edge} {gd : Option (Nat × Bool)} {g : Bool} (hn : a0.tmps.size = n)  (h : FL P l Q rest a0 ((d, g, v) :: L) w) (hd : Nat.blt d n = true := by rfl) (hw : wtG l L gd = some g := by rfl) (hli : lk L i = some (gi, .pointer (some ad)) := by rfl) (hsi : g = true → gi = true := by first | exact fun _ => rfl | exact id | exact and_l | exact fun h => and_l (and_l h) | exact fun h => and_l (and_l (and_l h)) | exact fun h => and_l (and_l (and_l (and_l h))) | exact fun h => and_l (and_l (and_l (and_l (and_l h))))) (hr : (Instr.loadAt t (.pointer (some ad))).run P w = .ok v w := by with_reducible assumption) : FL P l Q (⟨some d, .load t (.tmp i), ty, p, af, gd⟩ :: rest) a0 L w := fl_load hn hd hw hli hsi hr h
theorem g_b0 {d n : Nat} {t : TypeId} {v : Value} {ty : TypeId} {p : String} {af : Array Edge} {gd : Option (Nat × Bool)} {g : Bool} (hn : a0.tmps.size = n)  (h : FL P l Q rest a0 ((d, g, v) :: L) w) (hd : Nat.blt d n = true := by rfl) (hw : wtG l L gd = some g := by rfl) (hr : (Instr.build t #[]).run P w = .ok v w := by with_reducible assumption) : FL P l Q (⟨some d, .build t #[], ty, p, af, gd⟩ :: rest) a0 L w := fl_build0 hn hd hw hr h
theorem g_bn {d n : Nat} {op : BinOp} {i j : Nat} {t ty2 : TypeId} {gi gj : Bool} {vi vj v : Value} {ty : TypeId} {p : String} {af : Array Edge} {gd : Option (Nat × Bool)} {g : Bool} (hn : a0.tmps.size = n)  (h : FL P l Q rest a0 ((d, g, v) :: L) w) (hd : Nat.blt d n = true := by rfl) (hw : wtG l L gd = some g := by rfl) (hli : lk L i = some (gi, vi) := by rfl) (hsi : g = true → gi = true := by first | exact fun _ => rfl | exact id | exact and_l | exact fun h => and_l (and_l h) | exact fun h => and_l (and_l (and_l h)) | exact fun h => and_l (and_l (and_l (and_l h))) | exact fun h => and_l (and_l (and_l (and_l (and_l h))))) (hlj : lk L j = some (gj, vj) := by rfl) (hsj : g = true → gj = true := by first | exact fun _ => rfl | exact id | exact and_l | exact fun h => and_l (and_l h) | exact fun h => and_l (and_l (and_l h)) | exact fun h => and_l (and_l (and_l (and_l h))) | exact fun h => and_l (and_l (and_l (and_l (and_l h))))) (hr : ((do eqGuard op t (.tmp i) (.tmp j) vi vj; binOp op t vi vj) : Sem Value).run P w = .ok v w := by with_reducible assumption) : FL P l Q (⟨some d, .binOp op t (.tmp i) (.tmp j) ty2, ty, p, af, gd⟩ :: rest) a0 L w := fl_bin hn hd hw hli hsi hlj hsj hr h
theorem g_bc {d n : Nat} {op : BinOp} {i : Nat} {t ty2 : TypeId} {gi : Bool} {vi c v : Value} {ty : TypeId} {p : String} {af : Array Edge} {gd : Option (Nat × Bool)} {g : Bool} (hn : a0.tmps.size = n)  (h : FL P l Q rest a0 ((d, g, v) :: L) w) (hd : Nat.blt d n = true := by rfl) (hw : wtG l L gd = some g := by rfl) (hli : lk L i = some (gi, vi) := by rfl) (hsi : g = true → gi = true := by first | exact fun _ => rfl | exact id | exact and_l | exact fun h => and_l (and_l h) | exact fun h => and_l (and_l (and_l h)) | exact fun h => and_l (and_l (and_l (and_l h))) | exact fun h => and_l (and_l (and_l (and_l (and_l h))))) (hr : ((do eqGuard op t (.tmp i) (.const c) vi c; binOp op t vi c) : Sem Value).run P w = .ok v w := by with_reducible assumption) : FL P l Q (⟨some d, .binOp op t (.tmp i) (.const c) ty2, ty, p, af, gd⟩ :: rest) a0 L w := fl_op hn rfl hd hw (fun hk hg => run_bc (lk_at hk hli hsi hg) hr) h
theorem g_cv {d n : Nat} {i : Nat} {t t2 : TypeId} {gi : Bool} {vi v : Value} {ty : TypeId} {p : String} {af : Array Edge} {gd : Option (Nat × Bool)} {g : Bool} (hn : a0.tmps.size = n)  (h : FL P l Q rest a0 ((d, g, v) :: L) w) (hd : Nat.blt d n = true := by rfl) (hw : wtG l L gd = some g := by rfl) (hli : lk L i = some (gi, vi) := by rfl) (hsi : g = true → gi = true := by first | exact fun _ => rfl | exact id | exact and_l | exact fun h => and_l (and_l h) | exact fun h => and_l (and_l (and_l h)) | exact fun h => and_l (and_l (and_l (and_l h))) | exact fun h => and_l (and_l (and_l (and_l (and_l h))))) (hr : (convert t t2 vi).run P w = .ok v w := by with_reducible assumption) : FL P l Q (⟨some d, .convert t t2 (.tmp i), ty, p, af, gd⟩ :: rest) a0 L w := fl_op hn rfl hd hw (fun hk hg => run_cv (lk_at hk hli hsi hg) hr) h
theorem g_ex {d n : Nat} {i k : Nat} {gi : Bool} {cs : Array Value} {v : Value} {ty : TypeId} {p : String} {af : Array Edge} {gd : Option (Nat × Bool)} {g : Bool} (hn : a0.tmps.size = n)  (h : FL P l Q rest a0 ((d, g, v) :: L) w) (hd : Nat.blt d n = true := by rfl) (hw : wtG l L gd = some g := by rfl) (hli : lk L i = some (gi, .tuple cs) := by rfl) (hsi : g = true → gi = true := by first | exact fun _ => rfl | exact id | exact and_l | exact fun h => and_l (and_l h) | exact fun h => and_l (and_l (and_l h)) | exact fun h => and_l (and_l (and_l (and_l h))) | exact fun h => and_l (and_l (and_l (and_l (and_l h))))) (hr : cs[k]? = some v := by rfl) : FL P l Q (⟨some d, .extract (.tmp i) k, ty, p, af, gd⟩ :: rest) a0 L w := fl_op hn rfl hd hw (fun hk hg => run_ex (lk_at hk hli hsi hg) hr) h
theorem g_ac {d n : Nat} {v : Value} {ty : TypeId} {p : String} {af : Array Edge} {gd : Option (Nat × Bool)} {g : Bool} (hn : a0.tmps.size = n)  (h : FL P l Q rest a0 ((d, g, v) :: L) w) (hd : Nat.blt d n = true := by rfl) (hw : wtG l L gd = some g := by rfl)  : FL P l Q (⟨some d, .assign (.const v), ty, p, af, gd⟩ :: rest) a0 L w := fl_op hn rfl hd hw (fun _ _ => rfl) h
theorem g_mc {d n : Nat} {v : Value} {ty : TypeId} {p : String} {af : Array Edge} {gd : Option (Nat × Bool)} {g : Bool} (hn : a0.tmps.size = n)  (h : FL P l Q rest a0 ((d, g, v) :: L) w) (hd : Nat.blt d n = true := by rfl) (hw : wtG l L gd = some g := by rfl)  : FL P l Q (⟨some d, .move (.const v), ty, p, af, gd⟩ :: rest) a0 L w := fl_op hn rfl hd hw (fun _ _ => rfl) h
theorem g_stc {i b j : Nat} {t ty T : TypeId} {v : Value} {p : String} {af : Array Edge} {gd : Option (Nat × Bool)} {cs : Array Value} (hX : Blk w b cs T) (hr : (Instr.storeAt t (.pointer (some ⟨b, j, none⟩)) v).run P w = .ok () (w.setCell ⟨b, j, none⟩ v)) (h : ∀ w2, Only1 b w w2 → Blk w2 b (cs.setIfInBounds j v) T → FL P l Q rest a0 L w2) (hw : wtG l L gd = some true := by rfl) (hl : lk L i = some (true, .pointer (some ⟨b, j, none⟩)) := by rfl) : FL P l Q (⟨none, .store t (.tmp i) (.const v), ty, p, af, gd⟩ :: rest) a0 L w := fl_stc hw hl hX hr h
theorem g_stt {i k b j : Nat} {g : Bool} {t ty T : TypeId} {v : Value} {p : String} {af : Array Edge} {gd : Option (Nat × Bool)} {cs : Array Value} (hX : Blk w b cs T) (hr : (Instr.storeAt t (.pointer (some ⟨b, j, none⟩)) v).run P w = .ok () (w.setCell ⟨b, j, none⟩ v)) (h : ∀ w2, Only1 b w w2 → Blk w2 b (cs.setIfInBounds j v) T → FL P l Q rest a0 L w2) (hw : wtG l L gd = some true := by rfl) (hl : lk L i = some (true, .pointer (some ⟨b, j, none⟩)) := by rfl) (hl2 : lk L k = some (g, v) := by rfl) (hg : g = true := by rfl) : FL P l Q (⟨none, .store t (.tmp i) (.tmp k), ty, p, af, gd⟩ :: rest) a0 L w := fl_stt hw hl hl2 hg hX hr h
theorem g_stm {i k b j : Nat} {g : Bool} {t ty T : TypeId} {c : Array Value} {p : String} {af : Array Edge} {gd : Option (Nat × Bool)} {cs : Array Value} (hX : Blk w b cs T) (h : ∀ w2, Only1 b w w2 → Blk w2 b (setL cs j c.toList) T → FL P l Q rest a0 L w2) (hw : wtG l L gd = some true := by rfl) (hl : lk L i = some (true, .pointer (some ⟨b, j, none⟩)) := by rfl) (hl2 : lk L k = some (g, .agg c) := by rfl) (hg : g = true := by rfl) (hs : j + c.size ≤ cs.size := by simp) (hi : (P.info? t).map (·.size) = some c.size := by kernel_rfl) (h1 : c.all (·.oneCell') = true := by rfl) : FL P l Q (⟨none, .store t (.tmp i) (.tmp k), ty, p, af, gd⟩ :: rest) a0 L w := fl_stm hw hl hl2 hg hX hs hi h1 h
theorem g_str {i k b : Nat} {g : Bool} {t ty T : TypeId} {c : Array Value} {p : String} {af : Array Edge} {gd : Option (Nat × Bool)} {cs : Array Value} (hX : Blk w b cs T) (h : ∀ w2, Only1 b w w2 → Blk w2 b c T → FL P l Q rest a0 L w2) (hw : wtG l L gd = some true := by rfl) (hl : lk L i = some (true, .pointer (some ⟨b, 0, none⟩)) := by rfl) (hl2 : lk L k = some (g, .agg c) := by rfl) (hg : g = true := by rfl) (hs : cs.size = c.size := by rfl) (hi : (P.info? t).map (·.size) = some c.size := by kernel_rfl) (h1 : c.all (·.oneCell') = true := by rfl) : FL P l Q (⟨none, .store t (.tmp i) (.tmp k), ty, p, af, gd⟩ :: rest) a0 L w := fl_str hw hl hl2 hg hX hs hi h1 h
end
section
variable {l : List Oper} {Q : Exit → Act → World → Prop} {rest : List Oper} {a0 : Act} {L : List (Nat × Bool × Value)} {w : World}
theorem g_neq {d n : Nat} {i : Nat} {m k : Int} {ty2 : TypeId} {gi : Bool} {ty : TypeId} {p : String} {af : Array Edge} {gd : Option (Nat × Bool)} {g : Bool} (hn : a0.tmps.size = n)  (h : FL Try.prog l Q rest a0 ((d, g, (.bool (m != k))) :: L) w) (hd : Nat.blt d n = true := by rfl) (hw : wtG l L gd = some g := by rfl) (hli : lk L i = some (gi, .int .i64 m) := by rfl) (hsi : g = true → gi = true := by first | exact fun _ => rfl | exact id | exact and_l | exact fun h => and_l (and_l h) | exact fun h => and_l (and_l (and_l h)) | exact fun h => and_l (and_l (and_l (and_l h))) | exact fun h => and_l (and_l (and_l (and_l (and_l h))))) : FL Try.prog l Q (⟨some d, .binOp .neq 3 (.tmp i) (.const (.int .i64 k)) ty2, ty, p, af, gd⟩ :: rest) a0 L w := fl_neq hn hd hw hli hsi h
theorem g_neq2 {d n : Nat} {i j : Nat} {m k : Int} {ty2 : TypeId} {gi gj : Bool} {ty : TypeId} {p : String} {af : Array Edge} {gd : Option (Nat × Bool)} {g : Bool} (hn : a0.tmps.size = n)  (h : FL Try.prog l Q rest a0 ((d, g, (.bool (m != k))) :: L) w) (hd : Nat.blt d n = true := by rfl) (hw : wtG l L gd = some g := by rfl) (hli : lk L i = some (gi, .int .i64 m) := by rfl) (hsi : g = true → gi = true := by first | exact fun _ => rfl | exact id | exact and_l | exact fun h => and_l (and_l h) | exact fun h => and_l (and_l (and_l h)) | exact fun h => and_l (and_l (and_l (and_l h))) | exact fun h => and_l (and_l (and_l (and_l (and_l h))))) (hlj : lk L j = some (gj, .int .i64 k) := by rfl) (hsj : g = true → gj = true := by first | exact fun _ => rfl | exact id | exact and_l | exact fun h => and_l (and_l h) | exact fun h => and_l (and_l (and_l h)) | exact fun h => and_l (and_l (and_l (and_l h))) | exact fun h => and_l (and_l (and_l (and_l (and_l h))))) : FL Try.prog l Q (⟨some d, .binOp .neq 3 (.tmp i) (.tmp j) ty2, ty, p, af, gd⟩ :: rest) a0 L w := fl_neq2 hn hd hw hli hsi hlj hsj h
theorem g_gtr {d n : Nat} {i : Nat} {m k : Int} {ty2 : TypeId} {gi : Bool} {ty : TypeId} {p : String} {af : Array Edge} {gd : Option (Nat × Bool)} {g : Bool} (hn : a0.tmps.size = n)  (h : FL Try.prog l Q rest a0 ((d, g, (.bool (decide (k < m)))) :: L) w) (hd : Nat.blt d n = true := by rfl) (hw : wtG l L gd = some g := by rfl) (hli : lk L i = some (gi, .int .i64 m) := by rfl) (hsi : g = true → gi = true := by first | exact fun _ => rfl | exact id | exact and_l | exact fun h => and_l (and_l h) | exact fun h => and_l (and_l (and_l h)) | exact fun h => and_l (and_l (and_l (and_l h))) | exact fun h => and_l (and_l (and_l (and_l (and_l h))))) : FL Try.prog l Q (⟨some d, .binOp .gtr 3 (.tmp i) (.const (.int .i64 k)) ty2, ty, p, af, gd⟩ :: rest) a0 L w := fl_gtr hn hd hw hli hsi h
theorem g_gtr2 {d n : Nat} {i j : Nat} {m k : Int} {ty2 : TypeId} {gi gj : Bool} {ty : TypeId} {p : String} {af : Array Edge} {gd : Option (Nat × Bool)} {g : Bool} (hn : a0.tmps.size = n)  (h : FL Try.prog l Q rest a0 ((d, g, (.bool (decide (k < m)))) :: L) w) (hd : Nat.blt d n = true := by rfl) (hw : wtG l L gd = some g := by rfl) (hli : lk L i = some (gi, .int .i64 m) := by rfl) (hsi : g = true → gi = true := by first | exact fun _ => rfl | exact id | exact and_l | exact fun h => and_l (and_l h) | exact fun h => and_l (and_l (and_l h)) | exact fun h => and_l (and_l (and_l (and_l h))) | exact fun h => and_l (and_l (and_l (and_l (and_l h))))) (hlj : lk L j = some (gj, .int .i64 k) := by rfl) (hsj : g = true → gj = true := by first | exact fun _ => rfl | exact id | exact and_l | exact fun h => and_l (and_l h) | exact fun h => and_l (and_l (and_l h)) | exact fun h => and_l (and_l (and_l (and_l h))) | exact fun h => and_l (and_l (and_l (and_l (and_l h))))) : FL Try.prog l Q (⟨some d, .binOp .gtr 3 (.tmp i) (.tmp j) ty2, ty, p, af, gd⟩ :: rest) a0 L w := fl_gtr2 hn hd hw hli hsi hlj hsj h
theorem g_eql {d n : Nat} {i : Nat} {m k : Int} {ty2 : TypeId} {gi : Bool} {ty : TypeId} {p : String} {af : Array Edge} {gd : Option (Nat × Bool)} {g : Bool} (hn : a0.tmps.size = n)  (h : FL Try.prog l Q rest a0 ((d, g, (.bool (m == k))) :: L) w) (hd : Nat.blt d n = true := by rfl) (hw : wtG l L gd = some g := by rfl) (hli : lk L i = some (gi, .int .i64 m) := by rfl) (hsi : g = true → gi = true := by first | exact fun _ => rfl | exact id | exact and_l | exact fun h => and_l (and_l h) | exact fun h => and_l (and_l (and_l h)) | exact fun h => and_l (and_l (and_l (and_l h))) | exact fun h => and_l (and_l (and_l (and_l (and_l h))))) : FL Try.prog l Q (⟨some d, .binOp .eql 3 (.tmp i) (.const (.int .i64 k)) ty2, ty, p, af, gd⟩ :: rest) a0 L w := fl_eql hn hd hw hli hsi h
theorem g_eql2 {d n : Nat} {i j : Nat} {m k : Int} {ty2 : TypeId} {gi gj : Bool} {ty : TypeId} {p : String} {af : Array Edge} {gd : Option (Nat × Bool)} {g : Bool} (hn : a0.tmps.size = n)  (h : FL Try.prog l Q rest a0 ((d, g, (.bool (m == k))) :: L) w) (hd : Nat.blt d n = true := by rfl) (hw : wtG l L gd = some g := by rfl) (hli : lk L i = some (gi, .int .i64 m) := by rfl) (hsi : g = true → gi = true := by first | exact fun _ => rfl | exact id | exact and_l | exact fun h => and_l (and_l h) | exact fun h => and_l (and_l (and_l h)) | exact fun h => and_l (and_l (and_l (and_l h))) | exact fun h => and_l (and_l (and_l (and_l (and_l h))))) (hlj : lk L j = some (gj, .int .i64 k) := by rfl) (hsj : g = true → gj = true := by first | exact fun _ => rfl | exact id | exact and_l | exact fun h => and_l (and_l h) | exact fun h => and_l (and_l (and_l h)) | exact fun h => and_l (and_l (and_l (and_l h))) | exact fun h => and_l (and_l (and_l (and_l (and_l h))))) : FL Try.prog l Q (⟨some d, .binOp .eql 3 (.tmp i) (.tmp j) ty2, ty, p, af, gd⟩ :: rest) a0 L w := fl_eql2 hn hd hw hli hsi hlj hsj h
theorem g_leq {d n : Nat} {i : Nat} {m k : Int} {ty2 : TypeId} {gi : Bool} {ty : TypeId} {p : String} {af : Array Edge} {gd : Option (Nat × Bool)} {g : Bool} (hn : a0.tmps.size = n)  (h : FL Try.prog l Q rest a0 ((d, g, (.bool (decide (m ≤ k)))) :: L) w) (hd : Nat.blt d n = true := by rfl) (hw : wtG l L gd = some g := by rfl) (hli : lk L i = some (gi, .int .i64 m) := by rfl) (hsi : g = true → gi = true := by first | exact fun _ => rfl | exact id | exact and_l | exact fun h => and_l (and_l h) | exact fun h => and_l (and_l (and_l h)) | exact fun h => and_l (and_l (and_l (and_l h))) | exact fun h => and_l (and_l (and_l (and_l (and_l h))))) : FL Try.prog l Q (⟨some d, .binOp .leq 3 (.tmp i) (.const (.int .i64 k)) ty2, ty, p, af, gd⟩ :: rest) a0 L w := fl_leq hn hd hw hli hsi h
theorem g_leq2 {d n : Nat} {i j : Nat} {m k : Int} {ty2 : TypeId} {gi gj : Bool} {ty : TypeId} {p : String} {af : Array Edge} {gd : Option (Nat × Bool)} {g : Bool} (hn : a0.tmps.size = n)  (h : FL Try.prog l Q rest a0 ((d, g, (.bool (decide (m ≤ k)))) :: L) w) (hd : Nat.blt d n = true := by rfl) (hw : wtG l L gd = some g := by rfl) (hli : lk L i = some (gi, .int .i64 m) := by rfl) (hsi : g = true → gi = true := by first | exact fun _ => rfl | exact id | exact and_l | exact fun h => and_l (and_l h) | exact fun h => and_l (and_l (and_l h)) | exact fun h => and_l (and_l (and_l (and_l h))) | exact fun h => and_l (and_l (and_l (and_l (and_l h))))) (hlj : lk L j = some (gj, .int .i64 k) := by rfl) (hsj : g = true → gj = true := by first | exact fun _ => rfl | exact id | exact and_l | exact fun h => and_l (and_l h) | exact fun h => and_l (and_l (and_l h)) | exact fun h => and_l (and_l (and_l (and_l h))) | exact fun h => and_l (and_l (and_l (and_l (and_l h))))) : FL Try.prog l Q (⟨some d, .binOp .leq 3 (.tmp i) (.tmp j) ty2, ty, p, af, gd⟩ :: rest) a0 L w := fl_leq2 hn hd hw hli hsi hlj hsj h
theorem g_lss {d n : Nat} {i : Nat} {m k : Int} {ty2 : TypeId} {gi : Bool} {ty : TypeId} {p : String} {af : Array Edge} {gd : Option (Nat × Bool)} {g : Bool} (hn : a0.tmps.size = n)  (h : FL Try.prog l Q rest a0 ((d, g, (.bool (decide (m < k)))) :: L) w) (hd : Nat.blt d n = true := by rfl) (hw : wtG l L gd = some g := by rfl) (hli : lk L i = some (gi, .int .i64 m) := by rfl) (hsi : g = true → gi = true := by first | exact fun _ => rfl | exact id | exact and_l | exact fun h => and_l (and_l h) | exact fun h => and_l (and_l (and_l h)) | exact fun h => and_l (and_l (and_l (and_l h))) | exact fun h => and_l (and_l (and_l (and_l (and_l h))))) : FL Try.prog l Q (⟨some d, .binOp .lss 3 (.tmp i) (.const (.int .i64 k)) ty2, ty, p, af, gd⟩ :: rest) a0 L w := fl_lss hn hd hw hli hsi h
theorem g_lss2 {d n : Nat} {i j : Nat} {m k : Int} {ty2 : TypeId} {gi gj : Bool} {ty : TypeId} {p : String} {af : Array Edge} {gd : Option (Nat × Bool)} {g : Bool} (hn : a0.tmps.size = n)  (h : FL Try.prog l Q rest a0 ((d, g, (.bool (decide (m < k)))) :: L) w) (hd : Nat.blt d n = true := by rfl) (hw : wtG l L gd = some g := by rfl) (hli : lk L i = some (gi, .int .i64 m) := by rfl) (hsi : g = true → gi = true := by first | exact fun _ => rfl | exact id | exact and_l | exact fun h => and_l (and_l h) | exact fun h => and_l (and_l (and_l h)) | exact fun h => and_l (and_l (and_l (and_l h))) | exact fun h => and_l (and_l (and_l (and_l (and_l h))))) (hlj : lk L j = some (gj, .int .i64 k) := by rfl) (hsj : g = true → gj = true := by first | exact fun _ => rfl | exact id | exact and_l | exact fun h => and_l (and_l h) | exact fun h => and_l (and_l (and_l h)) | exact fun h => and_l (and_l (and_l (and_l h))) | exact fun h => and_l (and_l (and_l (and_l (and_l h))))) : FL Try.prog l Q (⟨some d, .binOp .lss 3 (.tmp i) (.tmp j) ty2, ty, p, af, gd⟩ :: rest) a0 L w := fl_lss2 hn hd hw hli hsi hlj hsj h
theorem g_geq {d n : Nat} {i : Nat} {m k : Int} {ty2 : TypeId} {gi : Bool} {ty : TypeId} {p : String} {af : Array Edge} {gd : Option (Nat × Bool)} {g : Bool} (hn : a0.tmps.size = n)  (h : FL Try.prog l Q rest a0 ((d, g, (.bool (decide (k ≤ m)))) :: L) w) (hd : Nat.blt d n = true := by rfl) (hw : wtG l L gd = some g := by rfl) (hli : lk L i = some (gi, .int .i64 m) := by rfl) (hsi : g = true → gi = true := by first | exact fun _ => rfl | exact id | exact and_l | exact fun h => and_l (and_l h) | exact fun h => and_l (and_l (and_l h)) | exact fun h => and_l (and_l (and_l (and_l h))) | exact fun h => and_l (and_l (and_l (and_l (and_l h))))) : FL Try.prog l Q (⟨some d, .binOp .geq 3 (.tmp i) (.const (.int .i64 k)) ty2, ty, p, af, gd⟩ :: rest) a0 L w := fl_geq hn hd hw hli hsi h
theorem g_geq2 {d n : Nat} {i j : Nat} {m k : Int} {ty2 : TypeId} {gi gj : Bool} {ty : TypeId} {p : String} {af : Array Edge} {gd : Option (Nat × Bool)} {g : Bool} (hn : a0.tmps.size = n)  (h : FL Try.prog l Q rest a0 ((d, g, (.bool (decide (k ≤ m)))) :: L) w) (hd : Nat.blt d n = true := by rfl) (hw : wtG l L gd = some g := by rfl) (hli : lk L i = some (gi, .int .i64 m) := by rfl) (hsi : g = true → gi = true := by first | exact fun _ => rfl | exact id | exact and_l | exact fun h => and_l (and_l h) | exact fun h => and_l (and_l (and_l h)) | exact fun h => and_l (and_l (and_l (and_l h))) | exact fun h => and_l (and_l (and_l (and_l (and_l h))))) (hlj : lk L j = some (gj, .int .i64 k) := by rfl) (hsj : g = true → gj = true := by first | exact fun _ => rfl | exact id | exact and_l | exact fun h => and_l (and_l h) | exact fun h => and_l (and_l (and_l h)) | exact fun h => and_l (and_l (and_l (and_l h))) | exact fun h => and_l (and_l (and_l (and_l (and_l h))))) : FL Try.prog l Q (⟨some d, .binOp .geq 3 (.tmp i) (.tmp j) ty2, ty, p, af, gd⟩ :: rest) a0 L w := fl_geq2 hn hd hw hli hsi hlj hsj h
theorem g_ln {d n : Nat} {i m c : Nat} {A : Option Addr} {ts : Array TypeId} {gi : Bool} {ty : TypeId} {p : String} {af : Array Edge} {gd : Option (Nat × Bool)} {g : Bool} (hn : a0.tmps.size = n)  (h : FL Try.prog l Q rest a0 ((d, g, (.int .i64 m)) :: L) w) (hd : Nat.blt d n = true := by rfl) (hw : wtG l L gd = some g := by rfl) (hli : lk L i = some (gi, .slice A m c) := by rfl) (hsi : g = true → gi = true := by first | exact fun _ => rfl | exact id | exact and_l | exact fun h => and_l (and_l h) | exact fun h => and_l (and_l (and_l h)) | exact fun h => and_l (and_l (and_l (and_l h))) | exact fun h => and_l (and_l (and_l (and_l (and_l h))))) (hr : (Builtin.len_ ts ty #[.slice A m c]).run Try.prog w = .ok (.int .i64 m) w := by kernel_rfl) : FL Try.prog l Q (⟨some d, .call { callee := .builtin .len, args := #[.tmp i], argTypes := ts }, ty, p, af, gd⟩ :: rest) a0 L w := fl_len hn hd hw hli hsi hr h
theorem g_c1w {f : FuncId} {i0 d n : Nat} {v0 r : Value} {ts : Array TypeId} {ty : TypeId} {p : String} {af : Array Edge} {gd : Option (Nat × Bool)} {g g0 : Bool} (he : ∀ args w, (callFunc f args).run Try.prog w = .ok (.enter f args) w) (hn : a0.tmps.size = n) (hc : Calls Try.prog f #[v0] w fun e w' => e = .returned r ∧ Below w.heap.size w w') (h : ∀ w2, Below w.heap.size w w2 → FL Try.prog l Q rest a0 ((d, g, r) :: L) w2) (hd : Nat.blt d n = true := by rfl) (hw : wtG l L gd = some g := by rfl) (hl0 : lk L i0 = some (g0, v0) := by rfl) (hs0 : g = true → g0 = true := by first | exact fun _ => rfl | exact id | exact and_l | exact fun h => and_l (and_l h) | exact fun h => and_l (and_l (and_l h)) | exact fun h => and_l (and_l (and_l (and_l h))) | exact fun h => and_l (and_l (and_l (and_l (and_l h))))) : FL Try.prog l Q (⟨some d, .call { callee := .value (.func f), args := #[.tmp i0], argTypes := ts }, ty, p, af, gd⟩ :: rest) a0 L w :=
  fl_call1w he hn hd hw hl0 hs0 (fun _ => hc) h
theorem g_c1x {f : FuncId} {i0 d n : Nat} {v0 : Value} {R : Value → World → Prop} {ts : Array TypeId} {ty : TypeId} {p : String} {af : Array Edge} {gd : Option (Nat × Bool)} {g0 : Bool} (he : ∀ args w, (callFunc f args).run Try.prog w = .ok (.enter f args) w) (hn : a0.tmps.size = n) (hc : Calls Try.prog f #[v0] w fun e w' => ∃ v, e = .returned v ∧ R v w') (h : ∀ v w2, R v w2 → FL Try.prog l Q rest a0 ((d, true, v) :: L) w2) (hd : Nat.blt d n = true := by rfl) (hw : wtG l L gd = some true := by rfl) (hl0 : lk L i0 = some (g0, v0) := by rfl) (hs0 : g0 = true := by rfl) : FL Try.prog l Q (⟨some d, .call { callee := .value (.func f), args := #[.tmp i0], argTypes := ts }, ty, p, af, gd⟩ :: rest) a0 L w :=
  fl_call1x he hn hd hw hl0 hs0 hc h
theorem g_c2w {f : FuncId} {i0 i1 d n : Nat} {v0 v1 r : Value} {ts : Array TypeId} {ty : TypeId} {p : String} {af : Array Edge} {gd : Option (Nat × Bool)} {g g0 g1 : Bool} (he : ∀ args w, (callFunc f args).run Try.prog w = .ok (.enter f args) w) (hn : a0.tmps.size = n) (hc : Calls Try.prog f #[v0, v1] w fun e w' => e = .returned r ∧ Below w.heap.size w w') (h : ∀ w2, Below w.heap.size w w2 → FL Try.prog l Q rest a0 ((d, g, r) :: L) w2) (hd : Nat.blt d n = true := by rfl) (hw : wtG l L gd = some g := by rfl) (hl0 : lk L i0 = some (g0, v0) := by rfl) (hs0 : g = true → g0 = true := by first | exact fun _ => rfl | exact id | exact and_l | exact fun h => and_l (and_l h) | exact fun h => and_l (and_l (and_l h)) | exact fun h => and_l (and_l (and_l (and_l h))) | exact fun h => and_l (and_l (and_l (and_l (and_l h))))) (hl1 : lk L i1 = some (g1, v1) := by rfl) (hs1 : g = true → g1 = true := by first | exact fun _ => rfl | exact id | exact and_l | exact fun h => and_l (and_l h) | exact fun h => and_l (and_l (and_l h)) | exact fun h => and_l (and_l (and_l (and_l h))) | exact fun h => and_l (and_l (and_l (and_l (and_l h))))) : FL Try.prog l Q (⟨some d, .call { callee := .value (.func f), args := #[.tmp i0, .tmp i1], argTypes := ts }, ty, p, af, gd⟩ :: rest) a0 L w :=
  fl_call2w he hn hd hw hl0 hs0 hl1 hs1 (fun _ => hc) h
theorem g_c2x {f : FuncId} {i0 i1 d n : Nat} {v0 v1 : Value} {R : Value → World → Prop} {ts : Array TypeId} {ty : TypeId} {p : String} {af : Array Edge} {gd : Option (Nat × Bool)} {g0 g1 : Bool} (he : ∀ args w, (callFunc f args).run Try.prog w = .ok (.enter f args) w) (hn : a0.tmps.size = n) (hc : Calls Try.prog f #[v0, v1] w fun e w' => ∃ v, e = .returned v ∧ R v w') (h : ∀ v w2, R v w2 → FL Try.prog l Q rest a0 ((d, true, v) :: L) w2) (hd : Nat.blt d n = true := by rfl) (hw : wtG l L gd = some true := by rfl) (hl0 : lk L i0 = some (g0, v0) := by rfl) (hs0 : g0 = true := by rfl) (hl1 : lk L i1 = some (g1, v1) := by rfl) (hs1 : g1 = true := by rfl) : FL Try.prog l Q (⟨some d, .call { callee := .value (.func f), args := #[.tmp i0, .tmp i1], argTypes := ts }, ty, p, af, gd⟩ :: rest) a0 L w :=
  fl_call2x he hn hd hw hl0 hs0 hl1 hs1 hc h
end
end Go.Proofs.Ytkfhkfddhijkcaa

namespace Go.Proofs.Ytkfhkfddhijkcaa
open Go.RowKit

section
variable {P : Program} {l : List Oper} {Q : Exit → Act → World → Prop} {S : World → Prop} {fuel : Nat} {listed : Array Bool} {a0 : Act} {L : List (Nat × Bool × Value)} {w : World}
structure FH (P : Program) (l : List Oper) (Q : Exit → Act → World → Prop) (S : World → Prop) (fuel : Nat) (listed : Array Bool) (a0 : Act) (L : List (Nat × Bool × Value)) (w : World) : Prop where
  go : (∀ p, p ∈ L → p.1 < a0.tmps.size) → wpAnyH P .any l.toArray Q S fuel listed (fr a0 L) w
theorem fh_start {id : Nat} (S : World → Prop) (hm : P.follows .mixedOrders = true) (hS : S w.drew) (h : S w.drew → FH P l Q S l.toArray.size (Array.replicate l.toArray.size false) a0 [] w.drew) : (Code.region id l.toArray true).wp P Q a0 w :=
  wp_region_held_drew (S := S) hm hS fun hs => (h hs).go fun p hp => by cases hp
theorem fh_know {i n : Nat} {v : Value} (hn : a0.tmps.size = n) (hi : Nat.blt i n = true) (hv : (fr a0 L).eval (.tmp i) = v) (h : FH P l Q S fuel listed a0 ((i, true, v) :: L) w) : FH P l Q S fuel listed a0 L w := by
  refine ⟨fun hk => ?_⟩
  have hi' : i < a0.tmps.size := by rw [hn]; exact blt_lt hi
  have h2 := h.go (fun p hp => by
    rcases List.mem_cons.1 hp with e | e
    · rw [e]; exact hi'
    · exact hk p e)
  have e : fr a0 ((i, true, v) :: L) = fr a0 L := by
    show (fr a0 L).put (some i) v = fr a0 L
    have h5 : i < (fr a0 L).tmps.size := by rw [fr_size]; exact hi'
    have h4 : (fr a0 L).tmps.getD i undef = v := hv
    rw [Array.getD_eq_getD_getElem?, Array.getElem?_eq_getElem h5] at h4
    have h6 : (fr a0 L).tmps.setIfInBounds i v = (fr a0 L).tmps := by
      apply Array.ext (by simp)
      intro j h1 h2
      by_cases e : i = j
      · subst e
        rw [Array.getElem_setIfInBounds_self]
        exact h4.symm
      · rw [Array.getElem_setIfInBounds_ne _ e]
    show ({ fr a0 L with tmps := (fr a0 L).tmps.setIfInBounds i v } : Act) = fr a0 L
    rw [h6]
  rw [e] at h2
  exact h2
theorem fh_end (hr : Region.ready .any l.toArray listed = []) (h : Q .normal (fr a0 L) w) : FH P l Q S fuel listed a0 L w := ⟨fun _ => wpAnyH_done hr h _⟩
theorem fh_op (i : Nat) {oi : Oper} {d n : Nat} {g : Bool} {v : Value} (hn : a0.tmps.size = n) (hS : S w) (h : FH P l Q S fuel (listed.setIfInBounds i true) a0 ((d, g, v) :: L) w) (ho : oi.dst = some d) (hi : l.toArray[i]? = some oi)
    (hd : Nat.blt d n = true) (hs : Region.noSelect l.toArray = true) (hf : Region.free .any l.toArray listed i = true) (hr : (Region.ready .any l.toArray listed).contains i = true) (hQ : ∀ c a w, Q (.panic c) (a.put oi.dst (cnd g v)) w → Q (.panic c) a w)
    (hw : wtG l L oi.guard = some g) (hv : (∀ p, p ∈ L → p.1 < a0.tmps.size) → g = true → ∀ w, S w → (execOp (fr a0 L).eval oi).run P w = .ok (.value v) w) : FH P l Q S (fuel + 1) listed a0 L w := by
  refine ⟨fun hk => ?_⟩
  have h2 : wpAnyH P .any l.toArray Q S fuel (listed.setIfInBounds i true) ((fr a0 L).put oi.dst (cnd g v)) w := by
    rw [ho]
    exact h.go (fun p hp => by
      rcases List.mem_cons.1 hp with e | e
      · rw [e, hn]; exact blt_lt hd
      · exact hk p e)
  refine wpAnyH_take hi hs hf hr hQ ?_ hS h2
  have hwt := wt_is hk hw
  cases g with
  | true => exact .inl ⟨hwt, fun w hS => hv hk rfl w hS⟩
  | false => exact .inr ⟨hwt, rfl⟩
/-- The one operation that may come up, whatever it does to the world: a value. -/
theorem fh_val (i : Nat) {oi : Oper} {d n : Nat} {R : Value → World → Prop} (hn : a0.tmps.size = n) (hX : ∀ K : Act → World → Prop, (∀ v w2, R v w2 → K ((fr a0 L).put (some d) v) w2) → (∀ p, p ∈ L → p.1 < a0.tmps.size) → oi.wp P (fr a0 L) w K Q)
    (h : ∀ v w2, R v w2 → S w2 ∧ FH P l Q S fuel (listed.setIfInBounds i true) a0 ((d, true, v) :: L) w2) (hi : l.toArray[i]? = some oi) (hd : Nat.blt d n = true) (hr : Region.ready .any l.toArray listed = [i]) (hw : wtG l L oi.guard = some true) : FH P l Q S (fuel + 1) listed a0 L w := by
  refine ⟨fun hk => ?_⟩
  refine wpAnyH_all hr (by simp) fun j hj => ?_
  have e : j = i := by simpa using hj
  subst e
  unfold wpOp
  simp only [hi, wt_is hk hw, if_true]
  refine .inl (hX _ (fun v w2 hR => ?_) hk)
  obtain ⟨hs, hF⟩ := h v w2 hR
  exact ⟨hs, hF.go (fun p hp => by
    rcases List.mem_cons.1 hp with e | e
    · rw [e, hn]; exact blt_lt hd
    · exact hk p e)⟩
/-- .. without a value. -/
theorem fh_skip (i : Nat) {oi : Oper} {w2 : World} (ho : oi.dst = none) (hX : (∀ p, p ∈ L → p.1 < a0.tmps.size) → (execOp (fr a0 L).eval oi).run P w = .ok .skip w2) (hS : S w2)
    (h : FH P l Q S fuel (listed.setIfInBounds i true) a0 L w2) (hi : l.toArray[i]? = some oi) (hr : Region.ready .any l.toArray listed = [i]) (hw : wtG l L oi.guard = some true) : FH P l Q S (fuel + 1) listed a0 L w := by
  refine ⟨fun hk => ?_⟩
  refine wpAnyH_all hr (by simp) fun j hj => ?_
  have e : j = i := by simpa using hj
  subst e
  unfold wpOp
  simp only [hi, wt_is hk hw, if_true]
  refine .inl ?_
  unfold Oper.wp
  rw [hX hk, Oper.upon_skip, ho]
  exact ⟨hS, h.go hk⟩
theorem fh_callx (i : Nat) {oi : Oper} {d n : Nat} {R : Value → World → Prop} {f : FuncId} {args : Array Value} (hn : a0.tmps.size = n) (ho : oi.dst = some d) (hx : (∀ p, p ∈ L → p.1 < a0.tmps.size) → (execOp (fr a0 L).eval oi).run P w = .ok (.enter f args) w) (hc : Calls P f args w fun e w' => ∃ v, e = .returned v ∧ R v w')
    (h : ∀ v w2, R v w2 → S w2 ∧ FH P l Q S fuel (listed.setIfInBounds i true) a0 ((d, true, v) :: L) w2) (hi : l.toArray[i]? = some oi) (hd : Nat.blt d n = true) (hr : Region.ready .any l.toArray listed = [i]) (hw : wtG l L oi.guard = some true) : FH P l Q S (fuel + 1) listed a0 L w :=
  fh_val i hn (fun K hK hk => by
    unfold Oper.wp
    rw [hx hk, Oper.upon_enter]
    refine hc.mono ?_
    rintro e w' ⟨v, rfl, hR⟩
    show K ((fr a0 L).put oi.dst v) w'
    rw [ho]
    exact hK v w' hR) h hi hd hr hw
theorem fh_valx (i : Nat) {oi : Oper} {d n : Nat} {v : Value} {w2 : World} (hn : a0.tmps.size = n) (ho : oi.dst = some d) (hx : (∀ p, p ∈ L → p.1 < a0.tmps.size) → (execOp (fr a0 L).eval oi).run P w = .ok (.value v) w2)
    (hS : S w2) (h : FH P l Q S fuel (listed.setIfInBounds i true) a0 ((d, true, v) :: L) w2) (hi : l.toArray[i]? = some oi) (hd : Nat.blt d n = true) (hr : Region.ready .any l.toArray listed = [i]) (hw : wtG l L oi.guard = some true) : FH P l Q S (fuel + 1) listed a0 L w :=
  fh_val (R := fun u w3 => u = v ∧ w3 = w2) i hn (fun K hK hk => by
    unfold Oper.wp
    rw [hx hk, Oper.upon_value, ho]
    exact hK v w2 ⟨rfl, rfl⟩) (fun u w3 e => by obtain ⟨rfl, rfl⟩ := e; exact ⟨hS, h⟩) hi hd hr hw
end
section
variable {P : Program} {w : World} {ρ : Operand → Value} {d : Option Tmp} {ty : TypeId} {p : String} {af : Array Edge} {gd : Option (Nat × Bool)}
theorem x_mv {i : Nat} {v : Value} (h : ρ (.tmp i) = v) : (execOp ρ ⟨d, .move (.tmp i), ty, p, af, gd⟩).run P w = .ok (.value v) w := by
  unfold execOp
  dsimp only
  rw [h]; rfl
theorem x_as {i : Nat} {v : Value} (h : ρ (.tmp i) = v) : (execOp ρ ⟨d, .assign (.tmp i), ty, p, af, gd⟩).run P w = .ok (.value v) w := by
  unfold execOp
  dsimp only
  rw [h]; rfl
theorem x_nc {i : Nat} {ad : Addr} (h : ρ (.tmp i) = .pointer (some ad)) : (execOp ρ ⟨d, .nilCheck (.tmp i), ty, p, af, gd⟩).run P w = .ok (.value (.pointer (some ad))) w := by
  unfold execOp
  dsimp only
  rw [h]; rfl
theorem x_nt {i : Nat} {b : Bool} {ty2 : TypeId} (h : ρ (.tmp i) = .bool b) : (execOp ρ ⟨d, .unOp .not ty2 (.tmp i), ty, p, af, gd⟩).run P w = .ok (.value (.bool !b)) w := by
  unfold execOp
  dsimp only
  rw [h]; rfl
theorem x_ld {i : Nat} {t : TypeId} {ad : Addr} {v : Value} (h : ρ (.tmp i) = .pointer (some ad)) (hr : (Instr.loadAt t (.pointer (some ad))).run P w = .ok v w) : (execOp ρ ⟨d, .load t (.tmp i), ty, p, af, gd⟩).run P w = .ok (.value v) w := by
  unfold execOp
  dsimp only
  rw [h, Sem.run_bind, hr]; rfl
theorem x_lg {k : Nat} {t : TypeId} {u v : Value} (h : ρ (.global k) = u) (hr : (Instr.loadAt t u).run P w = .ok v w) : (execOp ρ ⟨d, .load t (.global k), ty, p, af, gd⟩).run P w = .ok (.value v) w := by
  unfold execOp
  dsimp only
  rw [h, Sem.run_bind, hr]; rfl
theorem x_fd {i f : Nat} {t : TypeId} {ad ad2 : Addr} (h : ρ (.tmp i) = .pointer (some ad)) (hr : (Instr.fieldAt t (.pointer (some ad)) f).run P w = .ok (.pointer (some ad2)) w) : (execOp ρ ⟨d, .fieldAddr t (.tmp i) f, ty, p, af, gd⟩).run P w = .ok (.value (.pointer (some ad2))) w := by
  unfold execOp
  dsimp only
  rw [h, Sem.run_bind, hr]; rfl
theorem x_ix {i k : Nat} {t : TypeId} {vi vk v : Value} (h : ρ (.tmp i) = vi) (h2 : ρ (.tmp k) = vk) (hr : (Instr.indexAt t vi vk).run P w = .ok v w) : (execOp ρ ⟨d, .indexAddr t (.tmp i) (.tmp k), ty, p, af, gd⟩).run P w = .ok (.value v) w := by
  unfold execOp
  dsimp only
  rw [h, h2, Sem.run_bind, hr]; rfl
theorem x_lk {i k : Nat} {t : TypeId} {vi vk v : Value} (h : ρ (.tmp i) = vi) (h2 : ρ (.tmp k) = vk) (hr : (Instr.lookup t vi vk false).run P w = .ok v w) : (execOp ρ ⟨d, .lookup t (.tmp i) (.tmp k) false, ty, p, af, gd⟩).run P w = .ok (.value v) w := by
  unfold execOp
  dsimp only
  rw [h, h2, Sem.run_bind, hr]; rfl
theorem x_sl {i : Nat} {t : TypeId} {vi v : Value} (h : ρ (.tmp i) = vi) (hr : (Instr.sliceAt t vi none none none).run P w = .ok v w) : (execOp ρ ⟨d, .slice t (.tmp i) none none none, ty, p, af, gd⟩).run P w = .ok (.value v) w := by
  unfold execOp
  dsimp only
  rw [h]; simp only [Option.map_none, Sem.run_bind, hr]; rfl
theorem x_bd {t : TypeId} {ps : Array (Nat × Operand)} {qs : Array (Nat × Value)} {v : Value} (h : ps.map (fun q => (q.1, ρ q.2)) = qs) (hr : (Instr.build t qs).run P w = .ok v w) : (execOp ρ ⟨d, .build t ps, ty, p, af, gd⟩).run P w = .ok (.value v) w := by
  unfold execOp
  dsimp only
  rw [show ps.map (fun x => match x with | (i, x) => (i, ρ x)) = qs from h, Sem.run_bind, hr]; rfl
end
section
variable {P : Program} {l : List Oper} {Q : Exit → Act → World → Prop} {S : World → Prop} {fuel : Nat} {listed : Array Bool} {rest : List Oper} {a0 : Act} {L : List (Nat × Bool × Value)} {w : World}
theorem h_mv (k : Nat) {d n : Nat} {i : Nat} {gi : Bool} {v : Value} {ty : TypeId} {p : String} {af : Array Edge} {gd : Option (Nat × Bool)} {g : Bool} (hn : a0.tmps.size = n) (hS : S w) (h : FH P l Q S fuel (listed.setIfInBounds k true) a0 ((d, g, v) :: L) w) (hi : l.toArray[k]? = some ⟨some d, .move (.tmp i), ty, p, af, gd⟩ := by rfl) (hli : lk L i = some (gi, v) := by rfl) (hsi : g = true → gi = true := by first | exact fun _ => rfl | exact id | exact and_l | exact fun h => and_l (and_l h) | exact fun h => and_l (and_l (and_l h)) | exact fun h => and_l (and_l (and_l (and_l h)))) (hd : Nat.blt d n = true := by rfl) (hw : wtG l L gd = some g := by rfl) (hs : Region.noSelect l.toArray = true := by kernel_rfl) (hf : Region.free .any l.toArray listed k = true := by kernel_rfl) (hr : (Region.ready .any l.toArray listed).contains k = true := by kernel_rfl) (hQ : ∀ c a w, Q (.panic c) (a.put (some d) (cnd g v)) w → Q (.panic c) a w := by exact fun _ _ _ h => h) : FH P l Q S (fuel + 1) listed a0 L w :=
  fh_op k hn hS h rfl hi hd hs hf hr hQ hw (fun hk hg _ _ => x_mv (lk_at hk hli hsi hg))
theorem h_as (k : Nat) {d n : Nat} {i : Nat} {gi : Bool} {v : Value} {ty : TypeId} {p : String} {af : Array Edge} {gd : Option (Nat × Bool)} {g : Bool} (hn : a0.tmps.size = n) (hS : S w) (h : FH P l Q S fuel (listed.setIfInBounds k true) a0 ((d, g, v) :: L) w) (hi : l.toArray[k]? = some ⟨some d, .assign (.tmp i), ty, p, af, gd⟩ := by rfl) (hli : lk L i = some (gi, v) := by rfl) (hsi : g = true → gi = true := by first | exact fun _ => rfl | exact id | exact and_l | exact fun h => and_l (and_l h) | exact fun h => and_l (and_l (and_l h)) | exact fun h => and_l (and_l (and_l (and_l h)))) (hd : Nat.blt d n = true := by rfl) (hw : wtG l L gd = some g := by rfl) (hs : Region.noSelect l.toArray = true := by kernel_rfl) (hf : Region.free .any l.toArray listed k = true := by kernel_rfl) (hr : (Region.ready .any l.toArray listed).contains k = true := by kernel_rfl) (hQ : ∀ c a w, Q (.panic c) (a.put (some d) (cnd g v)) w → Q (.panic c) a w := by exact fun _ _ _ h => h) : FH P l Q S (fuel + 1) listed a0 L w :=
  fh_op k hn hS h rfl hi hd hs hf hr hQ hw (fun hk hg _ _ => x_as (lk_at hk hli hsi hg))
theorem h_nc (k : Nat) {d n : Nat} {i : Nat} {gi : Bool} {ad : Addr} {ty : TypeId} {p : String} {af : Array Edge} {gd : Option (Nat × Bool)} {g : Bool} (hn : a0.tmps.size = n) (hS : S w) (h : FH P l Q S fuel (listed.setIfInBounds k true) a0 ((d, g, (.pointer (some ad))) :: L) w) (hi : l.toArray[k]? = some ⟨some d, .nilCheck (.tmp i), ty, p, af, gd⟩ := by rfl) (hli : lk L i = some (gi, .pointer (some ad)) := by rfl) (hsi : g = true → gi = true := by first | exact fun _ => rfl | exact id | exact and_l | exact fun h => and_l (and_l h) | exact fun h => and_l (and_l (and_l h)) | exact fun h => and_l (and_l (and_l (and_l h)))) (hd : Nat.blt d n = true := by rfl) (hw : wtG l L gd = some g := by rfl) (hs : Region.noSelect l.toArray = true := by kernel_rfl) (hf : Region.free .any l.toArray listed k = true := by kernel_rfl) (hr : (Region.ready .any l.toArray listed).contains k = true := by kernel_rfl) (hQ : ∀ c a w, Q (.panic c) (a.put (some d) (cnd g (.pointer (some ad)))) w → Q (.panic c) a w := by exact fun _ _ _ h => h) : FH P l Q S (fuel + 1) listed a0 L w :=
  fh_op k hn hS h rfl hi hd hs hf hr hQ hw (fun hk hg _ _ => x_nc (lk_at hk hli hsi hg))
theorem h_nt (k : Nat) {d n : Nat} {i : Nat} {ty2 : TypeId} {gi b : Bool} {ty : TypeId} {p : String} {af : Array Edge} {gd : Option (Nat × Bool)} {g : Bool} (hn : a0.tmps.size = n) (hS : S w) (h : FH P l Q S fuel (listed.setIfInBounds k true) a0 ((d, g, (.bool !b)) :: L) w) (hi : l.toArray[k]? = some ⟨some d, .unOp .not ty2 (.tmp i), ty, p, af, gd⟩ := by rfl) (hli : lk L i = some (gi, .bool b) := by rfl) (hsi : g = true → gi = true := by first | exact fun _ => rfl | exact id | exact and_l | exact fun h => and_l (and_l h) | exact fun h => and_l (and_l (and_l h)) | exact fun h => and_l (and_l (and_l (and_l h)))) (hd : Nat.blt d n = true := by rfl) (hw : wtG l L gd = some g := by rfl) (hs : Region.noSelect l.toArray = true := by kernel_rfl) (hf : Region.free .any l.toArray listed k = true := by kernel_rfl) (hr : (Region.ready .any l.toArray listed).contains k = true := by kernel_rfl) (hQ : ∀ c a w, Q (.panic c) (a.put (some d) (cnd g (.bool !b))) w → Q (.panic c) a w := by exact fun _ _ _ h => h) : FH P l Q S (fuel + 1) listed a0 L w :=
  fh_op k hn hS h rfl hi hd hs hf hr hQ hw (fun hk hg _ _ => x_nt (lk_at hk hli hsi hg))
theorem h_fd (k : Nat) {d n : Nat} {i f : Nat} {t : TypeId} {gi : Bool} {ad ad2 : Addr} {ty : TypeId} {p : String} {af : Array Edge} {gd : Option (Nat × Bool)} {g : Bool} (hn : a0.tmps.size = n) (hS : S w) (h : FH P l Q S fuel (listed.setIfInBounds k true) a0 ((d, g, (.pointer (some ad2))) :: L) w) (hi : l.toArray[k]? = some ⟨some d, .fieldAddr t (.tmp i) f, ty, p, af, gd⟩ := by rfl) (hli : lk L i = some (gi, .pointer (some ad)) := by rfl) (hsi : g = true → gi = true := by first | exact fun _ => rfl | exact id | exact and_l | exact fun h => and_l (and_l h) | exact fun h => and_l (and_l (and_l h)) | exact fun h => and_l (and_l (and_l (and_l h)))) (hx : ∀ w, S w → (Instr.fieldAt t (.pointer (some ad)) f).run P w = .ok (.pointer (some ad2)) w := by with_reducible assumption) (hd : Nat.blt d n = true := by rfl) (hw : wtG l L gd = some g := by rfl) (hs : Region.noSelect l.toArray = true := by kernel_rfl) (hf : Region.free .any l.toArray listed k = true := by kernel_rfl) (hr : (Region.ready .any l.toArray listed).contains k = true := by kernel_rfl) (hQ : ∀ c a w, Q (.panic c) (a.put (some d) (cnd g (.pointer (some ad2)))) w → Q (.panic c) a w := by exact fun _ _ _ h => h) : FH P l Q S (fuel + 1) listed a0 L w :=
  fh_op k hn hS h rfl hi hd hs hf hr hQ hw (fun hk hg w hw => x_fd (lk_at hk hli hsi hg) (hx w hw))
theorem h_ld (k : Nat) {d n : Nat} {i : Nat} {t : TypeId} {gi : Bool} {ad : Addr} {v : Value} {ty : TypeId} {p : String} {af : Array Edge} {gd : Option (Nat × Bool)} {g : Bool} (hn : a0.tmps.size = n) (hS : S w) (h : FH P l Q S fuel (listed.setIfInBounds k true) a0 ((d, g, v) :: L) w) (hi : l.toArray[k]? = some ⟨some d, .load t (.tmp i), ty, p, af, gd⟩ := by rfl) (hli : lk L i = some (gi, .pointer (some ad)) := by rfl) (hsi : g = true → gi = true := by first | exact fun _ => rfl | exact id | exact and_l | exact fun h => and_l (and_l h) | exact fun h => and_l (and_l (and_l h)) | exact fun h => and_l (and_l (and_l (and_l h)))) (hx : ∀ w, S w → (Instr.loadAt t (.pointer (some ad))).run P w = .ok v w := by with_reducible assumption) (hd : Nat.blt d n = true := by rfl) (hw : wtG l L gd = some g := by rfl) (hs : Region.noSelect l.toArray = true := by kernel_rfl) (hf : Region.free .any l.toArray listed k = true := by kernel_rfl) (hr : (Region.ready .any l.toArray listed).contains k = true := by kernel_rfl) (hQ : ∀ c a w, Q (.panic c) (a.put (some d) (cnd g v)) w → Q (.panic c) a w := by exact fun _ _ _ h => h) : FH P l Q S (fuel + 1) listed a0 L w :=
  fh_op k hn hS h rfl hi hd hs hf hr hQ hw (fun hk hg w hw => x_ld (lk_at hk hli hsi hg) (hx w hw))
theorem h_lg (k : Nat) {d n : Nat} {i : Nat} {t : TypeId} {u v : Value} {ty : TypeId} {p : String} {af : Array Edge} {gd : Option (Nat × Bool)} {g : Bool} (hn : a0.tmps.size = n) (hS : S w) (h : FH P l Q S fuel (listed.setIfInBounds k true) a0 ((d, g, v) :: L) w) (hi : l.toArray[k]? = some ⟨some d, .load t (.global i), ty, p, af, gd⟩ := by rfl) (hu : (fr a0 L).eval (.global i) = u := by rfl) (hx : ∀ w, S w → (Instr.loadAt t u).run P w = .ok v w := by with_reducible assumption) (hd : Nat.blt d n = true := by rfl) (hw : wtG l L gd = some g := by rfl) (hs : Region.noSelect l.toArray = true := by kernel_rfl) (hf : Region.free .any l.toArray listed k = true := by kernel_rfl) (hr : (Region.ready .any l.toArray listed).contains k = true := by kernel_rfl) (hQ : ∀ c a w, Q (.panic c) (a.put (some d) (cnd g v)) w → Q (.panic c) a w := by exact fun _ _ _ h => h) : FH P l Q S (fuel + 1) listed a0 L w :=
  fh_op k hn hS h rfl hi hd hs hf hr hQ hw (fun _ _ w hw => x_lg hu (hx w hw))
theorem h_ix (k : Nat) {d n : Nat} {i j : Nat} {t : TypeId} {gi gj : Bool} {vi vj v : Value} {ty : TypeId} {p : String} {af : Array Edge} {gd : Option (Nat × Bool)} {g : Bool} (hn : a0.tmps.size = n) (hS : S w) (h : FH P l Q S fuel (listed.setIfInBounds k true) a0 ((d, g, v) :: L) w) (hi : l.toArray[k]? = some ⟨some d, .indexAddr t (.tmp i) (.tmp j), ty, p, af, gd⟩ := by rfl) (hli : lk L i = some (gi, vi) := by rfl) (hsi : g = true → gi = true := by first | exact fun _ => rfl | exact id | exact and_l | exact fun h => and_l (and_l h) | exact fun h => and_l (and_l (and_l h)) | exact fun h => and_l (and_l (and_l (and_l h)))) (hlj : lk L j = some (gj, vj) := by rfl) (hsj : g = true → gj = true := by first | exact fun _ => rfl | exact id | exact and_l | exact fun h => and_l (and_l h) | exact fun h => and_l (and_l (and_l h)) | exact fun h => and_l (and_l (and_l (and_l h)))) (hx : ∀ w, S w → (Instr.indexAt t vi vj).run P w = .ok v w := by with_reducible assumption) (hd : Nat.blt d n = true := by rfl) (hw : wtG l L gd = some g := by rfl) (hs : Region.noSelect l.toArray = true := by kernel_rfl) (hf : Region.free .any l.toArray listed k = true := by kernel_rfl) (hr : (Region.ready .any l.toArray listed).contains k = true := by kernel_rfl) (hQ : ∀ c a w, Q (.panic c) (a.put (some d) (cnd g v)) w → Q (.panic c) a w := by exact fun _ _ _ h => h) : FH P l Q S (fuel + 1) listed a0 L w :=
  fh_op k hn hS h rfl hi hd hs hf hr hQ hw (fun hk hg w hw => x_ix (lk_at hk hli hsi hg) (lk_at hk hlj hsj hg) (hx w hw))
theorem h_lk (k : Nat) {d n : Nat} {i j : Nat} {t : TypeId} {gi gj : Bool} {vi vj v : Value} {ty : TypeId} {p : String} {af : Array Edge} {gd : Option (Nat × Bool)} {g : Bool} (hn : a0.tmps.size = n) (hS : S w) (h : FH P l Q S fuel (listed.setIfInBounds k true) a0 ((d, g, v) :: L) w) (hi : l.toArray[k]? = some ⟨some d, .lookup t (.tmp i) (.tmp j) false, ty, p, af, gd⟩ := by rfl) (hli : lk L i = some (gi, vi) := by rfl) (hsi : g = true → gi = true := by first | exact fun _ => rfl | exact id | exact and_l | exact fun h => and_l (and_l h) | exact fun h => and_l (and_l (and_l h)) | exact fun h => and_l (and_l (and_l (and_l h)))) (hlj : lk L j = some (gj, vj) := by rfl) (hsj : g = true → gj = true := by first | exact fun _ => rfl | exact id | exact and_l | exact fun h => and_l (and_l h) | exact fun h => and_l (and_l (and_l h)) | exact fun h => and_l (and_l (and_l (and_l h)))) (hx : ∀ w, S w → (Instr.lookup t vi vj false).run P w = .ok v w := by with_reducible assumption) (hd : Nat.blt d n = true := by rfl) (hw : wtG l L gd = some g := by rfl) (hs : Region.noSelect l.toArray = true := by kernel_rfl) (hf : Region.free .any l.toArray listed k = true := by kernel_rfl) (hr : (Region.ready .any l.toArray listed).contains k = true := by kernel_rfl) (hQ : ∀ c a w, Q (.panic c) (a.put (some d) (cnd g v)) w → Q (.panic c) a w := by exact fun _ _ _ h => h) : FH P l Q S (fuel + 1) listed a0 L w :=
  fh_op k hn hS h rfl hi hd hs hf hr hQ hw (fun hk hg w hw => x_lk (lk_at hk hli hsi hg) (lk_at hk hlj hsj hg) (hx w hw))
theorem h_sl (k : Nat) {d n : Nat} {i : Nat} {t : TypeId} {gi : Bool} {vi v : Value} {ty : TypeId} {p : String} {af : Array Edge} {gd : Option (Nat × Bool)} {g : Bool} (hn : a0.tmps.size = n) (hS : S w) (h : FH P l Q S fuel (listed.setIfInBounds k true) a0 ((d, g, v) :: L) w) (hi : l.toArray[k]? = some ⟨some d, .slice t (.tmp i) none none none, ty, p, af, gd⟩ := by rfl) (hli : lk L i = some (gi, vi) := by rfl) (hsi : g = true → gi = true := by first | exact fun _ => rfl | exact id | exact and_l | exact fun h => and_l (and_l h) | exact fun h => and_l (and_l (and_l h)) | exact fun h => and_l (and_l (and_l (and_l h)))) (hx : ∀ w, S w → (Instr.sliceAt t vi none none none).run P w = .ok v w := by with_reducible assumption) (hd : Nat.blt d n = true := by rfl) (hw : wtG l L gd = some g := by rfl) (hs : Region.noSelect l.toArray = true := by kernel_rfl) (hf : Region.free .any l.toArray listed k = true := by kernel_rfl) (hr : (Region.ready .any l.toArray listed).contains k = true := by kernel_rfl) (hQ : ∀ c a w, Q (.panic c) (a.put (some d) (cnd g v)) w → Q (.panic c) a w := by exact fun _ _ _ h => h) : FH P l Q S (fuel + 1) listed a0 L w :=
  fh_op k hn hS h rfl hi hd hs hf hr hQ hw (fun hk hg w hw => x_sl (lk_at hk hli hsi hg) (hx w hw))
theorem h_cv (k : Nat) {d n : Nat} {i : Nat} {t t2 : TypeId} {gi : Bool} {vi v : Value} {ty : TypeId} {p : String} {af : Array Edge} {gd : Option (Nat × Bool)} {g : Bool} (hn : a0.tmps.size = n) (hS : S w) (h : FH P l Q S fuel (listed.setIfInBounds k true) a0 ((d, g, v) :: L) w) (hi : l.toArray[k]? = some ⟨some d, .convert t t2 (.tmp i), ty, p, af, gd⟩ := by rfl) (hli : lk L i = some (gi, vi) := by rfl) (hsi : g = true → gi = true := by first | exact fun _ => rfl | exact id | exact and_l | exact fun h => and_l (and_l h) | exact fun h => and_l (and_l (and_l h)) | exact fun h => and_l (and_l (and_l (and_l h)))) (hx : ∀ w, S w → (convert t t2 vi).run P w = .ok v w := by with_reducible assumption) (hd : Nat.blt d n = true := by rfl) (hw : wtG l L gd = some g := by rfl) (hs : Region.noSelect l.toArray = true := by kernel_rfl) (hf : Region.free .any l.toArray listed k = true := by kernel_rfl) (hr : (Region.ready .any l.toArray listed).contains k = true := by kernel_rfl) (hQ : ∀ c a w, Q (.panic c) (a.put (some d) (cnd g v)) w → Q (.panic c) a w := by exact fun _ _ _ h => h) : FH P l Q S (fuel + 1) listed a0 L w :=
  fh_op k hn hS h rfl hi hd hs hf hr hQ hw (fun hk hg w hw => run_cv (lk_at hk hli hsi hg) (hx w hw))
theorem h_ex (k : Nat) {d n : Nat} {i j : Nat} {gi : Bool} {cs : Array Value} {v : Value} {ty : TypeId} {p : String} {af : Array Edge} {gd : Option (Nat × Bool)} {g : Bool} (hn : a0.tmps.size = n) (hS : S w) (h : FH P l Q S fuel (listed.setIfInBounds k true) a0 ((d, g, v) :: L) w) (hi : l.toArray[k]? = some ⟨some d, .extract (.tmp i) j, ty, p, af, gd⟩ := by rfl) (hli : lk L i = some (gi, .tuple cs) := by rfl) (hsi : g = true → gi = true := by first | exact fun _ => rfl | exact id | exact and_l | exact fun h => and_l (and_l h) | exact fun h => and_l (and_l (and_l h)) | exact fun h => and_l (and_l (and_l (and_l h)))) (hx : cs[j]? = some v := by rfl) (hd : Nat.blt d n = true := by rfl) (hw : wtG l L gd = some g := by rfl) (hs : Region.noSelect l.toArray = true := by kernel_rfl) (hf : Region.free .any l.toArray listed k = true := by kernel_rfl) (hr : (Region.ready .any l.toArray listed).contains k = true := by kernel_rfl) (hQ : ∀ c a w, Q (.panic c) (a.put (some d) (cnd g v)) w → Q (.panic c) a w := by exact fun _ _ _ h => h) : FH P l Q S (fuel + 1) listed a0 L w :=
  fh_op k hn hS h rfl hi hd hs hf hr hQ hw (fun hk hg _ _ => run_ex (lk_at hk hli hsi hg) hx)
theorem h_bd (k : Nat) {d n : Nat} {t : TypeId} {ps : Array (Nat × Operand)} {qs : Array (Nat × Value)} {v : Value} {ty : TypeId} {p : String} {af : Array Edge} {gd : Option (Nat × Bool)} {g : Bool} (hn : a0.tmps.size = n) (hS : S w) (h : FH P l Q S fuel (listed.setIfInBounds k true) a0 ((d, g, v) :: L) w) (hi : l.toArray[k]? = some ⟨some d, .build t ps, ty, p, af, gd⟩ := by rfl) (hp : (∀ p, p ∈ L → p.1 < a0.tmps.size) → g = true → ps.map (fun q => (q.1, (fr a0 L).eval q.2)) = qs) (hx : ∀ w, S w → (Instr.build t qs).run P w = .ok v w := by with_reducible assumption) (hd : Nat.blt d n = true := by rfl) (hw : wtG l L gd = some g := by rfl) (hs : Region.noSelect l.toArray = true := by kernel_rfl) (hf : Region.free .any l.toArray listed k = true := by kernel_rfl) (hr : (Region.ready .any l.toArray listed).contains k = true := by kernel_rfl) (hQ : ∀ c a w, Q (.panic c) (a.put (some d) (cnd g v)) w → Q (.panic c) a w := by exact fun _ _ _ h => h) : FH P l Q S (fuel + 1) listed a0 L w :=
  fh_op k hn hS h rfl hi hd hs hf hr hQ hw (fun hk hg w hw => x_bd (hp hk hg) (hx w hw))
theorem h_ac (k : Nat) {d n : Nat} {v : Value} {ty : TypeId} {p : String} {af : Array Edge} {gd : Option (Nat × Bool)} {g : Bool} (hn : a0.tmps.size = n) (hS : S w) (h : FH P l Q S fuel (listed.setIfInBounds k true) a0 ((d, g, v) :: L) w) (hi : l.toArray[k]? = some ⟨some d, .assign (.const v), ty, p, af, gd⟩ := by rfl)  (hd : Nat.blt d n = true := by rfl) (hw : wtG l L gd = some g := by rfl) (hs : Region.noSelect l.toArray = true := by kernel_rfl) (hf : Region.free .any l.toArray listed k = true := by kernel_rfl) (hr : (Region.ready .any l.toArray listed).contains k = true := by kernel_rfl) (hQ : ∀ c a w, Q (.panic c) (a.put (some d) (cnd g v)) w → Q (.panic c) a w := by exact fun _ _ _ h => h) : FH P l Q S (fuel + 1) listed a0 L w :=
  fh_op k hn hS h rfl hi hd hs hf hr hQ hw (fun _ _ _ _ => rfl)
theorem h_mc (k : Nat) {d n : Nat} {v : Value} {ty : TypeId} {p : String} {af : Array Edge} {gd : Option (Nat × Bool)} {g : Bool} (hn : a0.tmps.size = n) (hS : S w) (h : FH P l Q S fuel (listed.setIfInBounds k true) a0 ((d, g, v) :: L) w) (hi : l.toArray[k]? = some ⟨some d, .move (.const v), ty, p, af, gd⟩ := by rfl)  (hd : Nat.blt d n = true := by rfl) (hw : wtG l L gd = some g := by rfl) (hs : Region.noSelect l.toArray = true := by kernel_rfl) (hf : Region.free .any l.toArray listed k = true := by kernel_rfl) (hr : (Region.ready .any l.toArray listed).contains k = true := by kernel_rfl) (hQ : ∀ c a w, Q (.panic c) (a.put (some d) (cnd g v)) w → Q (.panic c) a w := by exact fun _ _ _ h => h) : FH P l Q S (fuel + 1) listed a0 L w :=
  fh_op k hn hS h rfl hi hd hs hf hr hQ hw (fun _ _ _ _ => rfl)
theorem h_bc (k : Nat) {d n : Nat} {op : BinOp} {i : Nat} {t ty2 : TypeId} {gi : Bool} {vi c v : Value} {ty : TypeId} {p : String} {af : Array Edge} {gd : Option (Nat × Bool)} {g : Bool} (hn : a0.tmps.size = n) (hS : S w) (h : FH P l Q S fuel (listed.setIfInBounds k true) a0 ((d, g, v) :: L) w) (hi : l.toArray[k]? = some ⟨some d, .binOp op t (.tmp i) (.const c) ty2, ty, p, af, gd⟩ := by rfl) (hli : lk L i = some (gi, vi) := by rfl) (hsi : g = true → gi = true := by first | exact fun _ => rfl | exact id | exact and_l | exact fun h => and_l (and_l h) | exact fun h => and_l (and_l (and_l h)) | exact fun h => and_l (and_l (and_l (and_l h)))) (hx : ∀ w, S w → ((do eqGuard op t (.tmp i) (.const c) vi c; binOp op t vi c) : Sem Value).run P w = .ok v w := by with_reducible assumption) (hd : Nat.blt d n = true := by rfl) (hw : wtG l L gd = some g := by rfl) (hs : Region.noSelect l.toArray = true := by kernel_rfl) (hf : Region.free .any l.toArray listed k = true := by kernel_rfl) (hr : (Region.ready .any l.toArray listed).contains k = true := by kernel_rfl) (hQ : ∀ c a w, Q (.panic c) (a.put (some d) (cnd g v)) w → Q (.panic c) a w := by exact fun _ _ _ h => h) : FH P l Q S (fuel + 1) listed a0 L w :=
  fh_op k hn hS h rfl hi hd hs hf hr hQ hw (fun hk hg w hw => run_bc (lk_at hk hli hsi hg) (hx w hw))
end
section
variable {l : List Oper} {Q : Exit → Act → World → Prop} {S : World → Prop} {fuel : Nat} {listed : Array Bool} {a0 : Act} {L : List (Nat × Bool × Value)} {w : World}
theorem h_neq (k : Nat) {d n : Nat} {i : Nat} {m k2 : Int} {ty2 : TypeId} {gi : Bool} {ty : TypeId} {p : String} {af : Array Edge} {gd : Option (Nat × Bool)} {g : Bool} (hn : a0.tmps.size = n) (hS : S w) (h : FH Try.prog l Q S fuel (listed.setIfInBounds k true) a0 ((d, g, (.bool (m != k2))) :: L) w) (hi : l.toArray[k]? = some ⟨some d, .binOp .neq 3 (.tmp i) (.const (.int .i64 k2)) ty2, ty, p, af, gd⟩ := by rfl) (hli : lk L i = some (gi, .int .i64 m) := by rfl) (hsi : g = true → gi = true := by first | exact fun _ => rfl | exact id | exact and_l | exact fun h => and_l (and_l h) | exact fun h => and_l (and_l (and_l h)) | exact fun h => and_l (and_l (and_l (and_l h)))) (hd : Nat.blt d n = true := by rfl) (hw : wtG l L gd = some g := by rfl) (hs : Region.noSelect l.toArray = true := by kernel_rfl) (hf : Region.free .any l.toArray listed k = true := by kernel_rfl) (hr : (Region.ready .any l.toArray listed).contains k = true := by kernel_rfl) (hQ : ∀ c a w, Q (.panic c) (a.put (some d) (cnd g (.bool (m != k2)))) w → Q (.panic c) a w := by exact fun _ _ _ h => h) : FH Try.prog l Q S (fuel + 1) listed a0 L w :=
  fh_op k hn hS h rfl hi hd hs hf hr hQ hw (fun hk hg _ _ => bin_neq _ _ _ _ _ _ _ _ _ m k2 (lk_at hk hli hsi hg) rfl)
theorem h_neq2 (k : Nat) {d n : Nat} {i j : Nat} {m k2 : Int} {ty2 : TypeId} {gi gj : Bool} {ty : TypeId} {p : String} {af : Array Edge} {gd : Option (Nat × Bool)} {g : Bool} (hn : a0.tmps.size = n) (hS : S w) (h : FH Try.prog l Q S fuel (listed.setIfInBounds k true) a0 ((d, g, (.bool (m != k2))) :: L) w) (hi : l.toArray[k]? = some ⟨some d, .binOp .neq 3 (.tmp i) (.tmp j) ty2, ty, p, af, gd⟩ := by rfl) (hli : lk L i = some (gi, .int .i64 m) := by rfl) (hsi : g = true → gi = true := by first | exact fun _ => rfl | exact id | exact and_l | exact fun h => and_l (and_l h) | exact fun h => and_l (and_l (and_l h)) | exact fun h => and_l (and_l (and_l (and_l h)))) (hlj : lk L j = some (gj, .int .i64 k2) := by rfl) (hsj : g = true → gj = true := by first | exact fun _ => rfl | exact id | exact and_l | exact fun h => and_l (and_l h) | exact fun h => and_l (and_l (and_l h)) | exact fun h => and_l (and_l (and_l (and_l h)))) (hd : Nat.blt d n = true := by rfl) (hw : wtG l L gd = some g := by rfl) (hs : Region.noSelect l.toArray = true := by kernel_rfl) (hf : Region.free .any l.toArray listed k = true := by kernel_rfl) (hr : (Region.ready .any l.toArray listed).contains k = true := by kernel_rfl) (hQ : ∀ c a w, Q (.panic c) (a.put (some d) (cnd g (.bool (m != k2)))) w → Q (.panic c) a w := by exact fun _ _ _ h => h) : FH Try.prog l Q S (fuel + 1) listed a0 L w :=
  fh_op k hn hS h rfl hi hd hs hf hr hQ hw (fun hk hg _ _ => bin_neq _ _ _ _ _ _ _ _ _ m k2 (lk_at hk hli hsi hg) (lk_at hk hlj hsj hg))
theorem h_gtr (k : Nat) {d n : Nat} {i : Nat} {m k2 : Int} {ty2 : TypeId} {gi : Bool} {ty : TypeId} {p : String} {af : Array Edge} {gd : Option (Nat × Bool)} {g : Bool} (hn : a0.tmps.size = n) (hS : S w) (h : FH Try.prog l Q S fuel (listed.setIfInBounds k true) a0 ((d, g, (.bool (decide (k2 < m)))) :: L) w) (hi : l.toArray[k]? = some ⟨some d, .binOp .gtr 3 (.tmp i) (.const (.int .i64 k2)) ty2, ty, p, af, gd⟩ := by rfl) (hli : lk L i = some (gi, .int .i64 m) := by rfl) (hsi : g = true → gi = true := by first | exact fun _ => rfl | exact id | exact and_l | exact fun h => and_l (and_l h) | exact fun h => and_l (and_l (and_l h)) | exact fun h => and_l (and_l (and_l (and_l h)))) (hd : Nat.blt d n = true := by rfl) (hw : wtG l L gd = some g := by rfl) (hs : Region.noSelect l.toArray = true := by kernel_rfl) (hf : Region.free .any l.toArray listed k = true := by kernel_rfl) (hr : (Region.ready .any l.toArray listed).contains k = true := by kernel_rfl) (hQ : ∀ c a w, Q (.panic c) (a.put (some d) (cnd g (.bool (decide (k2 < m))))) w → Q (.panic c) a w := by exact fun _ _ _ h => h) : FH Try.prog l Q S (fuel + 1) listed a0 L w :=
  fh_op k hn hS h rfl hi hd hs hf hr hQ hw (fun hk hg _ _ => bin_gtr _ _ _ _ _ _ _ _ _ m k2 (lk_at hk hli hsi hg) rfl)
theorem h_gtr2 (k : Nat) {d n : Nat} {i j : Nat} {m k2 : Int} {ty2 : TypeId} {gi gj : Bool} {ty : TypeId} {p : String} {af : Array Edge} {gd : Option (Nat × Bool)} {g : Bool} (hn : a0.tmps.size = n) (hS : S w) (h : FH Try.prog l Q S fuel (listed.setIfInBounds k true) a0 ((d, g, (.bool (decide (k2 < m)))) :: L) w) (hi : l.toArray[k]? = some ⟨some d, .binOp .gtr 3 (.tmp i) (.tmp j) ty2, ty, p, af, gd⟩ := by rfl) (hli : lk L i = some (gi, .int .i64 m) := by rfl) (hsi : g = true → gi = true := by first | exact fun _ => rfl | exact id | exact and_l | exact fun h => and_l (and_l h) | exact fun h => and_l (and_l (and_l h)) | exact fun h => and_l (and_l (and_l (and_l h)))) (hlj : lk L j = some (gj, .int .i64 k2) := by rfl) (hsj : g = true → gj = true := by first | exact fun _ => rfl | exact id | exact and_l | exact fun h => and_l (and_l h) | exact fun h => and_l (and_l (and_l h)) | exact fun h => and_l (and_l (and_l (and_l h)))) (hd : Nat.blt d n = true := by rfl) (hw : wtG l L gd = some g := by rfl) (hs : Region.noSelect l.toArray = true := by kernel_rfl) (hf : Region.free .any l.toArray listed k = true := by kernel_rfl) (hr : (Region.ready .any l.toArray listed).contains k = true := by kernel_rfl) (hQ : ∀ c a w, Q (.panic c) (a.put (some d) (cnd g (.bool (decide (k2 < m))))) w → Q (.panic c) a w := by exact fun _ _ _ h => h) : FH Try.prog l Q S (fuel + 1) listed a0 L w :=
  fh_op k hn hS h rfl hi hd hs hf hr hQ hw (fun hk hg _ _ => bin_gtr _ _ _ _ _ _ _ _ _ m k2 (lk_at hk hli hsi hg) (lk_at hk hlj hsj hg))
theorem h_eql (k : Nat) {d n : Nat} {i : Nat} {m k2 : Int} {ty2 : TypeId} {gi : Bool} {ty : TypeId} {p : String} {af : Array Edge} {gd : Option (Nat × Bool)} {g : Bool} (hn : a0.tmps.size = n) (hS : S w) (h : FH Try.prog l Q S fuel (listed.setIfInBounds k true) a0 ((d, g, (.bool (m == k2))) :: L) w) (hi : l.toArray[k]? = some ⟨some d, .binOp .eql 3 (.tmp i) (.const (.int .i64 k2)) ty2, ty, p, af, gd⟩ := by rfl) (hli : lk L i = some (gi, .int .i64 m) := by rfl) (hsi : g = true → gi = true := by first | exact fun _ => rfl | exact id | exact and_l | exact fun h => and_l (and_l h) | exact fun h => and_l (and_l (and_l h)) | exact fun h => and_l (and_l (and_l (and_l h)))) (hd : Nat.blt d n = true := by rfl) (hw : wtG l L gd = some g := by rfl) (hs : Region.noSelect l.toArray = true := by kernel_rfl) (hf : Region.free .any l.toArray listed k = true := by kernel_rfl) (hr : (Region.ready .any l.toArray listed).contains k = true := by kernel_rfl) (hQ : ∀ c a w, Q (.panic c) (a.put (some d) (cnd g (.bool (m == k2)))) w → Q (.panic c) a w := by exact fun _ _ _ h => h) : FH Try.prog l Q S (fuel + 1) listed a0 L w :=
  fh_op k hn hS h rfl hi hd hs hf hr hQ hw (fun hk hg _ _ => bin_eql _ _ _ _ _ _ _ _ _ m k2 (lk_at hk hli hsi hg) rfl)
theorem h_eql2 (k : Nat) {d n : Nat} {i j : Nat} {m k2 : Int} {ty2 : TypeId} {gi gj : Bool} {ty : TypeId} {p : String} {af : Array Edge} {gd : Option (Nat × Bool)} {g : Bool} (hn : a0.tmps.size = n) (hS : S w) (h : FH Try.prog l Q S fuel (listed.setIfInBounds k true) a0 ((d, g, (.bool (m == k2))) :: L) w) (hi : l.toArray[k]? = some ⟨some d, .binOp .eql 3 (.tmp i) (.tmp j) ty2, ty, p, af, gd⟩ := by rfl) (hli : lk L i = some (gi, .int .i64 m) := by rfl) (hsi : g = true → gi = true := by first | exact fun _ => rfl | exact id | exact and_l | exact fun h => and_l (and_l h) | exact fun h => and_l (and_l (and_l h)) | exact fun h => and_l (and_l (and_l (and_l h)))) (hlj : lk L j = some (gj, .int .i64 k2) := by rfl) (hsj : g = true → gj = true := by first | exact fun _ => rfl | exact id | exact and_l | exact fun h => and_l (and_l h) | exact fun h => and_l (and_l (and_l h)) | exact fun h => and_l (and_l (and_l (and_l h)))) (hd : Nat.blt d n = true := by rfl) (hw : wtG l L gd = some g := by rfl) (hs : Region.noSelect l.toArray = true := by kernel_rfl) (hf : Region.free .any l.toArray listed k = true := by kernel_rfl) (hr : (Region.ready .any l.toArray listed).contains k = true := by kernel_rfl) (hQ : ∀ c a w, Q (.panic c) (a.put (some d) (cnd g (.bool (m == k2)))) w → Q (.panic c) a w := by exact fun _ _ _ h => h) : FH Try.prog l Q S (fuel + 1) listed a0 L w :=
  fh_op k hn hS h rfl hi hd hs hf hr hQ hw (fun hk hg _ _ => bin_eql _ _ _ _ _ _ _ _ _ m k2 (lk_at hk hli hsi hg) (lk_at hk hlj hsj hg))
theorem h_leq (k : Nat) {d n : Nat} {i : Nat} {m k2 : Int} {ty2 : TypeId} {gi : Bool} {ty : TypeId} {p : String} {af : Array Edge} {gd : Option (Nat × Bool)} {g : Bool} (hn : a0.tmps.size = n) (hS : S w) (h : FH Try.prog l Q S fuel (listed.setIfInBounds k true) a0 ((d, g, (.bool (decide (m ≤ k2)))) :: L) w) (hi : l.toArray[k]? = some ⟨some d, .binOp .leq 3 (.tmp i) (.const (.int .i64 k2)) ty2, ty, p, af, gd⟩ := by rfl) (hli : lk L i = some (gi, .int .i64 m) := by rfl) (hsi : g = true → gi = true := by first | exact fun _ => rfl | exact id | exact and_l | exact fun h => and_l (and_l h) | exact fun h => and_l (and_l (and_l h)) | exact fun h => and_l (and_l (and_l (and_l h)))) (hd : Nat.blt d n = true := by rfl) (hw : wtG l L gd = some g := by rfl) (hs : Region.noSelect l.toArray = true := by kernel_rfl) (hf : Region.free .any l.toArray listed k = true := by kernel_rfl) (hr : (Region.ready .any l.toArray listed).contains k = true := by kernel_rfl) (hQ : ∀ c a w, Q (.panic c) (a.put (some d) (cnd g (.bool (decide (m ≤ k2))))) w → Q (.panic c) a w := by exact fun _ _ _ h => h) : FH Try.prog l Q S (fuel + 1) listed a0 L w :=
  fh_op k hn hS h rfl hi hd hs hf hr hQ hw (fun hk hg _ _ => bin_leq _ _ _ _ _ _ _ _ _ m k2 (lk_at hk hli hsi hg) rfl)
theorem h_leq2 (k : Nat) {d n : Nat} {i j : Nat} {m k2 : Int} {ty2 : TypeId} {gi gj : Bool} {ty : TypeId} {p : String} {af : Array Edge} {gd : Option (Nat × Bool)} {g : Bool} (hn : a0.tmps.size = n) (hS : S w) (h : FH Try.prog l Q S fuel (listed.setIfInBounds k true) a0 ((d, g, (.bool (decide (m ≤ k2)))) :: L) w) (hi : l.toArray[k]? = some ⟨some d, .binOp .leq 3 (.tmp i) (.tmp j) ty2, ty, p, af, gd⟩ := by rfl) (hli : lk L i = some (gi, .int .i64 m) := by rfl) (hsi : g = true → gi = true := by first | exact fun _ => rfl | exact id | exact and_l | exact fun h => and_l (and_l h) | exact fun h => and_l (and_l (and_l h)) | exact fun h => and_l (and_l (and_l (and_l h)))) (hlj : lk L j = some (gj, .int .i64 k2) := by rfl) (hsj : g = true → gj = true := by first | exact fun _ => rfl | exact id | exact and_l | exact fun h => and_l (and_l h) | exact fun h => and_l (and_l (and_l h)) | exact fun h => and_l (and_l (and_l (and_l h)))) (hd : Nat.blt d n = true := by rfl) (hw : wtG l L gd = some g := by rfl) (hs : Region.noSelect l.toArray = true := by kernel_rfl) (hf : Region.free .any l.toArray listed k = true := by kernel_rfl) (hr : (Region.ready .any l.toArray listed).contains k = true := by kernel_rfl) (hQ : ∀ c a w, Q (.panic c) (a.put (some d) (cnd g (.bool (decide (m ≤ k2))))) w → Q (.panic c) a w := by exact fun _ _ _ h => h) : FH Try.prog l Q S (fuel + 1) listed a0 L w :=
  fh_op k hn hS h rfl hi hd hs hf hr hQ hw (fun hk hg _ _ => bin_leq _ _ _ _ _ _ _ _ _ m k2 (lk_at hk hli hsi hg) (lk_at hk hlj hsj hg))
theorem h_lss (k : Nat) {d n : Nat} {i : Nat} {m k2 : Int} {ty2 : TypeId} {gi : Bool} {ty : TypeId} {p : String} {af : Array Edge} {gd : Option (Nat × Bool)} {g : Bool} (hn : a0.tmps.size = n) (hS : S w) (h : FH Try.prog l Q S fuel (listed.setIfInBounds k true) a0 ((d, g, (.bool (decide (m < k2)))) :: L) w) (hi : l.toArray[k]? = some ⟨some d, .binOp .lss 3 (.tmp i) (.const (.int .i64 k2)) ty2, ty, p, af, gd⟩ := by rfl) (hli : lk L i = some (gi, .int .i64 m) := by rfl) (hsi : g = true → gi = true := by first | exact fun _ => rfl | exact id | exact and_l | exact fun h => and_l (and_l h) | exact fun h => and_l (and_l (and_l h)) | exact fun h => and_l (and_l (and_l (and_l h)))) (hd : Nat.blt d n = true := by rfl) (hw : wtG l L gd = some g := by rfl) (hs : Region.noSelect l.toArray = true := by kernel_rfl) (hf : Region.free .any l.toArray listed k = true := by kernel_rfl) (hr : (Region.ready .any l.toArray listed).contains k = true := by kernel_rfl) (hQ : ∀ c a w, Q (.panic c) (a.put (some d) (cnd g (.bool (decide (m < k2))))) w → Q (.panic c) a w := by exact fun _ _ _ h => h) : FH Try.prog l Q S (fuel + 1) listed a0 L w :=
  fh_op k hn hS h rfl hi hd hs hf hr hQ hw (fun hk hg _ _ => bin_lss _ _ _ _ _ _ _ _ _ m k2 (lk_at hk hli hsi hg) rfl)
theorem h_lss2 (k : Nat) {d n : Nat} {i j : Nat} {m k2 : Int} {ty2 : TypeId} {gi gj : Bool} {ty : TypeId} {p : String} {af : Array Edge} {gd : Option (Nat × Bool)} {g : Bool} (hn : a0.tmps.size = n) (hS : S w) (h : FH Try.prog l Q S fuel (listed.setIfInBounds k true) a0 ((d, g, (.bool (decide (m < k2)))) :: L) w) (hi : l.toArray[k]? = some ⟨some d, .binOp .lss 3 (.tmp i) (.tmp j) ty2, ty, p, af, gd⟩ := by rfl) (hli : lk L i = some (gi, .int .i64 m) := by rfl) (hsi : g = true → gi = true := by first | exact fun _ => rfl | exact id | exact and_l | exact fun h => and_l (and_l h) | exact fun h => and_l (and_l (and_l h)) | exact fun h => and_l (and_l (and_l (and_l h)))) (hlj : lk L j = some (gj, .int .i64 k2) := by rfl) (hsj : g = true → gj = true := by first | exact fun _ => rfl | exact id | exact and_l | exact fun h => and_l (and_l h) | exact fun h => and_l (and_l (and_l h)) | exact fun h => and_l (and_l (and_l (and_l h)))) (hd : Nat.blt d n = true := by rfl) (hw : wtG l L gd = some g := by rfl) (hs : Region.noSelect l.toArray = true := by kernel_rfl) (hf : Region.free .any l.toArray listed k = true := by kernel_rfl) (hr : (Region.ready .any l.toArray listed).contains k = true := by kernel_rfl) (hQ : ∀ c a w, Q (.panic c) (a.put (some d) (cnd g (.bool (decide (m < k2))))) w → Q (.panic c) a w := by exact fun _ _ _ h => h) : FH Try.prog l Q S (fuel + 1) listed a0 L w :=
  fh_op k hn hS h rfl hi hd hs hf hr hQ hw (fun hk hg _ _ => bin_lss _ _ _ _ _ _ _ _ _ m k2 (lk_at hk hli hsi hg) (lk_at hk hlj hsj hg))
theorem h_geq (k : Nat) {d n : Nat} {i : Nat} {m k2 : Int} {ty2 : TypeId} {gi : Bool} {ty : TypeId} {p : String} {af : Array Edge} {gd : Option (Nat × Bool)} {g : Bool} (hn : a0.tmps.size = n) (hS : S w) (h : FH Try.prog l Q S fuel (listed.setIfInBounds k true) a0 ((d, g, (.bool (decide (k2 ≤ m)))) :: L) w) (hi : l.toArray[k]? = some ⟨some d, .binOp .geq 3 (.tmp i) (.const (.int .i64 k2)) ty2, ty, p, af, gd⟩ := by rfl) (hli : lk L i = some (gi, .int .i64 m) := by rfl) (hsi : g = true → gi = true := by first | exact fun _ => rfl | exact id | exact and_l | exact fun h => and_l (and_l h) | exact fun h => and_l (and_l (and_l h)) | exact fun h => and_l (and_l (and_l (and_l h)))) (hd : Nat.blt d n = true := by rfl) (hw : wtG l L gd = some g := by rfl) (hs : Region.noSelect l.toArray = true := by kernel_rfl) (hf : Region.free .any l.toArray listed k = true := by kernel_rfl) (hr : (Region.ready .any l.toArray listed).contains k = true := by kernel_rfl) (hQ : ∀ c a w, Q (.panic c) (a.put (some d) (cnd g (.bool (decide (k2 ≤ m))))) w → Q (.panic c) a w := by exact fun _ _ _ h => h) : FH Try.prog l Q S (fuel + 1) listed a0 L w :=
  fh_op k hn hS h rfl hi hd hs hf hr hQ hw (fun hk hg _ _ => bin_geq _ _ _ _ _ _ _ _ _ m k2 (lk_at hk hli hsi hg) rfl)
theorem h_geq2 (k : Nat) {d n : Nat} {i j : Nat} {m k2 : Int} {ty2 : TypeId} {gi gj : Bool} {ty : TypeId} {p : String} {af : Array Edge} {gd : Option (Nat × Bool)} {g : Bool} (hn : a0.tmps.size = n) (hS : S w) (h : FH Try.prog l Q S fuel (listed.setIfInBounds k true) a0 ((d, g, (.bool (decide (k2 ≤ m)))) :: L) w) (hi : l.toArray[k]? = some ⟨some d, .binOp .geq 3 (.tmp i) (.tmp j) ty2, ty, p, af, gd⟩ := by rfl) (hli : lk L i = some (gi, .int .i64 m) := by rfl) (hsi : g = true → gi = true := by first | exact fun _ => rfl | exact id | exact and_l | exact fun h => and_l (and_l h) | exact fun h => and_l (and_l (and_l h)) | exact fun h => and_l (and_l (and_l (and_l h)))) (hlj : lk L j = some (gj, .int .i64 k2) := by rfl) (hsj : g = true → gj = true := by first | exact fun _ => rfl | exact id | exact and_l | exact fun h => and_l (and_l h) | exact fun h => and_l (and_l (and_l h)) | exact fun h => and_l (and_l (and_l (and_l h)))) (hd : Nat.blt d n = true := by rfl) (hw : wtG l L gd = some g := by rfl) (hs : Region.noSelect l.toArray = true := by kernel_rfl) (hf : Region.free .any l.toArray listed k = true := by kernel_rfl) (hr : (Region.ready .any l.toArray listed).contains k = true := by kernel_rfl) (hQ : ∀ c a w, Q (.panic c) (a.put (some d) (cnd g (.bool (decide (k2 ≤ m))))) w → Q (.panic c) a w := by exact fun _ _ _ h => h) : FH Try.prog l Q S (fuel + 1) listed a0 L w :=
  fh_op k hn hS h rfl hi hd hs hf hr hQ hw (fun hk hg _ _ => bin_geq _ _ _ _ _ _ _ _ _ m k2 (lk_at hk hli hsi hg) (lk_at hk hlj hsj hg))
theorem h_c1 (k : Nat) {f : FuncId} {i0 d n : Nat} {v0 : Value} {R : Value → World → Prop} {ts : Array TypeId} {ty : TypeId} {p : String} {af : Array Edge} {gd : Option (Nat × Bool)} {g0 : Bool} (he : ∀ args w, (callFunc f args).run Try.prog w = .ok (.enter f args) w) (hn : a0.tmps.size = n) (hc : Calls Try.prog f #[v0] w fun e w' => ∃ v, e = .returned v ∧ R v w') (h : ∀ v w2, R v w2 → S w2 ∧ FH Try.prog l Q S fuel (listed.setIfInBounds k true) a0 ((d, true, v) :: L) w2) (hi : l.toArray[k]? = some ⟨some d, .call { callee := .value (.func f), args := #[.tmp i0], argTypes := ts }, ty, p, af, gd⟩ := by rfl) (hd : Nat.blt d n = true := by rfl) (hw : wtG l L gd = some true := by rfl) (hr : Region.ready .any l.toArray listed = [k] := by kernel_rfl) (hl0 : lk L i0 = some (g0, v0) := by rfl) (hs0 : g0 = true := by rfl) : FH Try.prog l Q S (fuel + 1) listed a0 L w :=
  fh_callx k hn rfl (fun hk => call1_is he _ _ _ _ _ _ _ _ v0 (lk_at hk hl0 (fun _ => hs0) rfl) rfl) hc h hi hd hr hw
theorem h_c2 (k : Nat) {f : FuncId} {i0 i1 d n : Nat} {v0 v1 : Value} {R : Value → World → Prop} {ts : Array TypeId} {ty : TypeId} {p : String} {af : Array Edge} {gd : Option (Nat × Bool)} {g0 g1 : Bool} (he : ∀ args w, (callFunc f args).run Try.prog w = .ok (.enter f args) w) (hn : a0.tmps.size = n) (hc : Calls Try.prog f #[v0, v1] w fun e w' => ∃ v, e = .returned v ∧ R v w') (h : ∀ v w2, R v w2 → S w2 ∧ FH Try.prog l Q S fuel (listed.setIfInBounds k true) a0 ((d, true, v) :: L) w2) (hi : l.toArray[k]? = some ⟨some d, .call { callee := .value (.func f), args := #[.tmp i0, .tmp i1], argTypes := ts }, ty, p, af, gd⟩ := by rfl) (hd : Nat.blt d n = true := by rfl) (hw : wtG l L gd = some true := by rfl) (hr : Region.ready .any l.toArray listed = [k] := by kernel_rfl) (hl0 : lk L i0 = some (g0, v0) := by rfl) (hs0 : g0 = true := by rfl) (hl1 : lk L i1 = some (g1, v1) := by rfl) (hs1 : g1 = true := by rfl) : FH Try.prog l Q S (fuel + 1) listed a0 L w :=
  fh_callx k hn rfl (fun hk => call2_is he _ _ _ _ _ _ _ _ _ v0 v1 (lk_at hk hl0 (fun _ => hs0) rfl) (lk_at hk hl1 (fun _ => hs1) rfl) rfl) hc h hi hd hr hw
end
section
variable {P : Program} {l : List Oper} {Q : Exit → Act → World → Prop} {rest : List Oper} {a0 : Act} {L : List (Nat × Bool × Value)} {w : World}
theorem g_bd {d n : Nat} {t : TypeId} {ps : Array (Nat × Operand)} {qs : Array (Nat × Value)} {v : Value} {ty : TypeId} {p : String} {af : Array Edge} {gd : Option (Nat × Bool)} {g : Bool} (hn : a0.tmps.size = n) (h : FL P l Q rest a0 ((d, g, v) :: L) w) (hx : (Instr.build t qs).run P w = .ok v w) (hp : (∀ p, p ∈ L → p.1 < a0.tmps.size) → g = true → ps.map (fun q => (q.1, (fr a0 L).eval q.2)) = qs := by intro _ _; simp only [List.map_toArray, List.map_cons, List.map_nil]; rfl) (hd : Nat.blt d n = true := by rfl) (hw : wtG l L gd = some g := by rfl) : FL P l Q (⟨some d, .build t ps, ty, p, af, gd⟩ :: rest) a0 L w :=
  fl_op hn rfl hd hw (fun hk hg => x_bd (hp hk hg) hx) h
theorem g_ix {i j d n : Nat} {t : TypeId} {gi gj : Bool} {vi vj v : Value} {ty : TypeId} {p : String} {af : Array Edge} {gd : Option (Nat × Bool)} {g : Bool} (hn : a0.tmps.size = n) (h : FL P l Q rest a0 ((d, g, v) :: L) w) (hd : Nat.blt d n = true := by rfl) (hw : wtG l L gd = some g := by rfl) (hli : lk L i = some (gi, vi) := by rfl) (hsi : g = true → gi = true := by first | exact fun _ => rfl | exact id | exact and_l | exact fun h => and_l (and_l h) | exact fun h => and_l (and_l (and_l h)) | exact fun h => and_l (and_l (and_l (and_l h)))) (hlj : lk L j = some (gj, vj) := by rfl) (hsj : g = true → gj = true := by first | exact fun _ => rfl | exact id | exact and_l | exact fun h => and_l (and_l h) | exact fun h => and_l (and_l (and_l h)) | exact fun h => and_l (and_l (and_l (and_l h)))) (hr : (Instr.indexAt t vi vj).run P w = .ok v w := by with_reducible assumption) : FL P l Q (⟨some d, .indexAddr t (.tmp i) (.tmp j), ty, p, af, gd⟩ :: rest) a0 L w :=
  fl_op hn rfl hd hw (fun hk hg => x_ix (lk_at hk hli hsi hg) (lk_at hk hlj hsj hg) hr) h
theorem g_lk {i j d n : Nat} {t : TypeId} {gi gj : Bool} {vi vj v : Value} {ty : TypeId} {p : String} {af : Array Edge} {gd : Option (Nat × Bool)} {g : Bool} (hn : a0.tmps.size = n) (h : FL P l Q rest a0 ((d, g, v) :: L) w) (hd : Nat.blt d n = true := by rfl) (hw : wtG l L gd = some g := by rfl) (hli : lk L i = some (gi, vi) := by rfl) (hsi : g = true → gi = true := by first | exact fun _ => rfl | exact id | exact and_l | exact fun h => and_l (and_l h) | exact fun h => and_l (and_l (and_l h)) | exact fun h => and_l (and_l (and_l (and_l h)))) (hlj : lk L j = some (gj, vj) := by rfl) (hsj : g = true → gj = true := by first | exact fun _ => rfl | exact id | exact and_l | exact fun h => and_l (and_l h) | exact fun h => and_l (and_l (and_l h)) | exact fun h => and_l (and_l (and_l (and_l h)))) (hr : (Instr.lookup t vi vj false).run P w = .ok v w := by with_reducible assumption) : FL P l Q (⟨some d, .lookup t (.tmp i) (.tmp j) false, ty, p, af, gd⟩ :: rest) a0 L w :=
  fl_op hn rfl hd hw (fun hk hg => x_lk (lk_at hk hli hsi hg) (lk_at hk hlj hsj hg) hr) h
theorem g_sl {i d n : Nat} {t : TypeId} {gi : Bool} {vi v : Value} {ty : TypeId} {p : String} {af : Array Edge} {gd : Option (Nat × Bool)} {g : Bool} (hn : a0.tmps.size = n) (h : FL P l Q rest a0 ((d, g, v) :: L) w) (hd : Nat.blt d n = true := by rfl) (hw : wtG l L gd = some g := by rfl) (hli : lk L i = some (gi, vi) := by rfl) (hsi : g = true → gi = true := by first | exact fun _ => rfl | exact id | exact and_l | exact fun h => and_l (and_l h) | exact fun h => and_l (and_l (and_l h)) | exact fun h => and_l (and_l (and_l (and_l h)))) (hr : (Instr.sliceAt t vi none none none).run P w = .ok v w := by with_reducible assumption) : FL P l Q (⟨some d, .slice t (.tmp i) none none none, ty, p, af, gd⟩ :: rest) a0 L w :=
  fl_op hn rfl hd hw (fun hk hg => x_sl (lk_at hk hli hsi hg) hr) h
/-- An operation of one slot. -/
theorem g_o1 {o : Oper} {i d n : Nat} {gi g : Bool} {vi v : Value} (hn : a0.tmps.size = n) (hr : ∀ ρ : Operand → Value, ρ (.tmp i) = vi → (∀ c, ρ (.const c) = c) → (execOp ρ o).run P w = .ok (.value v) w) (h : FL P l Q rest a0 ((d, g, v) :: L) w) (ho : o.dst = some d := by rfl) (hd : Nat.blt d n = true := by rfl) (hw : wtG l L o.guard = some g := by rfl) (hli : lk L i = some (gi, vi) := by rfl) (hsi : g = true → gi = true := by first | exact fun _ => rfl | exact id | exact and_l | exact fun h => and_l (and_l h) | exact fun h => and_l (and_l (and_l h)) | exact fun h => and_l (and_l (and_l (and_l h)))) : FL P l Q (o :: rest) a0 L w :=
  fl_op hn ho hd hw (fun hk hg => hr _ (lk_at hk hli hsi hg) (fun _ => rfl)) h
/-- .. of two slots. -/
theorem g_o2 {o : Oper} {i j d n : Nat} {gi gj g : Bool} {vi vj v : Value} (hn : a0.tmps.size = n) (hr : ∀ ρ : Operand → Value, ρ (.tmp i) = vi → ρ (.tmp j) = vj → (∀ c, ρ (.const c) = c) → (execOp ρ o).run P w = .ok (.value v) w) (h : FL P l Q rest a0 ((d, g, v) :: L) w) (ho : o.dst = some d := by rfl) (hd : Nat.blt d n = true := by rfl) (hw : wtG l L o.guard = some g := by rfl) (hli : lk L i = some (gi, vi) := by rfl) (hsi : g = true → gi = true := by first | exact fun _ => rfl | exact id | exact and_l | exact fun h => and_l (and_l h) | exact fun h => and_l (and_l (and_l h)) | exact fun h => and_l (and_l (and_l (and_l h)))) (hlj : lk L j = some (gj, vj) := by rfl) (hsj : g = true → gj = true := by first | exact fun _ => rfl | exact id | exact and_l | exact fun h => and_l (and_l h) | exact fun h => and_l (and_l (and_l h)) | exact fun h => and_l (and_l (and_l (and_l h)))) : FL P l Q (o :: rest) a0 L w :=
  fl_op hn ho hd hw (fun hk hg => hr _ (lk_at hk hli hsi hg) (lk_at hk hlj hsj hg) (fun _ => rfl)) h
/-- .. that makes memory. -/
theorem g_w {o : Oper} {d n : Nat} {v : Value} {w2 : World} (hn : a0.tmps.size = n) (hr : (∀ p, p ∈ L → p.1 < a0.tmps.size) → (execOp (fr a0 L).eval o).run P w = .ok (.value v) w2) (h : FL P l Q rest a0 ((d, true, v) :: L) w2) (ho : o.dst = some d := by rfl) (hd : Nat.blt d n = true := by rfl) (hw : wtG l L o.guard = some true := by rfl) : FL P l Q (o :: rest) a0 L w :=
  fl_opw hn ho hd hw hr h
end
end Go.Proofs.Ytkfhkfddhijkcaa
