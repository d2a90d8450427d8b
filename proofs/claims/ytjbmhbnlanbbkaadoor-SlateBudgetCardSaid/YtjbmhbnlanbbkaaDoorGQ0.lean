/-
  WHAT IS PROVED: small lemmas used by many walks (own work, over any program). · words for slices of strings (own work): a slice that reads as a list of strings, nil let in; one that the call owns; append of such a slice onto such a row, in a plain region and in one that draws its order. Over any program that bears the types named. · small lemmas by which a law's walk, whatever its arguments (slices of strings among them), closes its row: each argument reads in a world that has only grown as it did; a slice of strings opened (own work, over any program). · what string(..) makes of one byte in a block of its own, and of a row of bytes that the call owns. · words for slices of bytes (own work): a slice that reads as a list of bytes, nil let in; one that the call owns; append of such a slice onto such a row, in a plain region and in one that draws its order. Over any program that bears the types named. · an argument that is a slice of bytes, or a uint64, opened (own work, over any program that bears the types named). · small lemmas by which a block of cells stays known in a world that only grows (own work, over any program). · words for slices of structs (own work): a slice that reads as a list of elements of so many cells each, nil let in; one that the call owns; append of one element onto such a row. Over any program that bears the types named.
-/
import Derived.Test.YtjbmhbnlanbbkaaDoorRows
import Derived.WalkKit
import Derived.WalkSpells
import Derived.WalkLawsBesides
import Derived.Deep.QuietTactic
import Derived.BigQuiet
import Derived.Lib.Hide
import Derived.Deep.Draws
import Derived.Maps.AppendAt
import Derived.Deep.AppendLies
import Derived.RegionTactic
import Derived.OwnWalk
import Derived.ProofKit
import Derived.OpenShut
import Derived.Below
import Derived.Carry
import Derived.ChangeSame
import Derived.Deep.Strs
import Derived.Laws.IdiomStrings
import Derived.Laws.BytesArg
import Derived.Laws.OwnMore
import Derived.Laws.AppendOwn
import Derived.ChangeSlices
namespace Go.Proofs.YtjbmhbnlanbbkaaDoor
open Go.RowKit

/-- Old blocks read as before. -/
theorem bcell {W w1 : World} (hb : Below W.heap.size W w1) : (∀ b o, b < W.heap.size → w1.cell? ⟨b, o, none⟩ = W.cell? ⟨b, o, none⟩) ∧ (∀ b o, b < W.heap.size → w1.frozen? ⟨b, o, none⟩ = W.frozen? ⟨b, o, none⟩) :=
  ⟨fun b o h => hb.cell (p := ⟨b, o, none⟩) h, fun b o h => hb.frozen (p := ⟨b, o, none⟩) h⟩

theorem bt {w a b : World} (h : Below w.heap.size w a) (k : Below a.heap.size a b) : Below w.heap.size w b := h.trans (k.mono h.size)
theorem ba {w a : World} (h : Below w.heap.size w a) (o : Obj) : Below w.heap.size w (a.alloc o) := h.alloc h.size o
theorem b0 (w : World) (o : Obj) : Below w.heap.size w (w.alloc o) := (Below.refl _ _).alloc (Nat.le_refl _) o

theorem below_up {w wr : World} {o : Obj} (h : Below (w.heap.size + 1) (w.alloc o) wr) : Below w.heap.size w wr := (b0 w o).trans (h.mono (by omega))
theorem below3 {w W : World} (h : Below w.heap.size w W) (v0 v1 v2 : Value) : Below w.heap.size w (((W.setCell ⟨w.heap.size, 0, none⟩ v0).setCell ⟨w.heap.size, 1, none⟩ v1).setCell ⟨w.heap.size, 2, none⟩ v2) :=
  ((h.setCell (p := ⟨w.heap.size, 0, none⟩) (Nat.le_refl _) v0).setCell (p := ⟨w.heap.size, 1, none⟩) (Nat.le_refl _) v1).setCell (p := ⟨w.heap.size, 2, none⟩) (Nat.le_refl _) v2
theorem res_cells {w wr : World} {v0 v1 v2 : Value} {t : TypeId} (h : Below (w.heap.size + 1) (w.alloc (.cells #[v0, v1, v2] t)) wr) :
    wr.cell? ⟨w.heap.size, 0, none⟩ = some v0 ∧ wr.cell? ⟨w.heap.size, 1, none⟩ = some v1 ∧ wr.cell? ⟨w.heap.size, 2, none⟩ = some v2 ∧ wr.frozen? ⟨w.heap.size, 0, none⟩ = false ∧ wr.frozen? ⟨w.heap.size, 1, none⟩ = false ∧ wr.frozen? ⟨w.heap.size, 2, none⟩ = false := by
  refine ⟨?_, ?_, ?_, ?_, ?_, ?_⟩
  · rw [h.cell (p := ⟨w.heap.size, 0, none⟩) (by simp)]; go_simp
  · rw [h.cell (p := ⟨w.heap.size, 1, none⟩) (by simp)]; go_simp
  · rw [h.cell (p := ⟨w.heap.size, 2, none⟩) (by simp)]; go_simp
  · rw [h.frozen (p := ⟨w.heap.size, 0, none⟩) (by simp)]; go_simp
  · rw [h.frozen (p := ⟨w.heap.size, 1, none⟩) (by simp)]; go_simp
  · rw [h.frozen (p := ⟨w.heap.size, 2, none⟩) (by simp)]; go_simp

theorem ret_bool {a b : Bool} (h : a = b) : Ending.returned (.bool a) = .returned (.bool b) := by rw [h]
theorem ret_i64 {a b : Int} (h : a = b) : Ending.returned (.int .i64 a) = .returned (.int .i64 b) := by rw [h]

theorem drop_cons (s : ByteArray) (k : Nat) (h : k < s.size) : s.data.toList.drop k = s[k] :: s.data.toList.drop (k + 1) := by
  rw [List.drop_eq_getElem_cons (by simpa using h)]; rfl

theorem wrap_byte (c : UInt8) : wrap64 (c.toNat : Int) = (c.toNat : Int) := by
  have := c.toNat_lt
  unfold wrap64
  omega

theorem bdn {B : Nat} {a w : World} (h : Below B a w) (n : Nat) : Below B a (w.drewN n) := ⟨h.os, h.tape, h.output, h.size, h.block⟩

/-- The world is as it was but for draws. -/
def Drn (w wr : World) : Prop := ∃ n, wr = w.drewN n
theorem Drn.refl (w : World) : Drn w w := ⟨0, rfl⟩
theorem Drn.draws {w wr : World} (h : Drn w wr) (k : Nat) : Drn w (wr.drewN k) := by
  obtain ⟨n, rfl⟩ := h
  exact ⟨n + k, by rw [World.drewN_drewN]⟩
theorem Drn.trans {w a b : World} (h : Drn w a) (k : Drn a b) : Drn w b := by
  obtain ⟨n, rfl⟩ := k
  exact h.draws n
theorem Drn.below {w wr : World} (h : Drn w wr) (B : Nat) : Below B w wr := by
  obtain ⟨n, rfl⟩ := h
  exact bdn (Below.refl B w) n
theorem Drn.size {w wr : World} (h : Drn w wr) : wr.heap.size = w.heap.size := by
  obtain ⟨n, rfl⟩ := h
  rfl
end Go.Proofs.YtjbmhbnlanbbkaaDoor

namespace Go.Proofs.YtjbmhbnlanbbkaaDoor
open Go.RowKit

/-- The cells of strings. -/
abbrev strV (l : List ByteArray) : List Value := l.map Value.string
/-- The slice at A reads as the strings l, in blocks below B. -/
def RdS (B : Nat) (W : World) (A : Option Addr) (l : List ByteArray) : Prop :=
  ∀ k x, l[k]? = some x → ∃ ad, A = some ad ∧ ad.block < B ∧ W.cell? (ad.add k) = some (.string x)
theorem add_block (a : Addr) (n : Nat) : (a.add n).block = a.block := by unfold Addr.add; split <;> rfl
theorem add_add' (a : Addr) (i j : Nat) : (a.add i).add j = a.add (i + j) := by
  unfold Addr.add
  by_cases hi : i = 0
  · subst hi; simp
  · by_cases hj : j = 0
    · subst hj; simp [hi]
    · simp [hi, hj, Nat.add_assoc]
theorem RdS.nil (B : Nat) (W : World) (A : Option Addr) : RdS B W A [] := fun k x h => by simp at h
theorem RdS.keep {B C : Nat} {W W' : World} {A : Option Addr} {l : List ByteArray} (h : RdS B W A l) (hb : Below C W W') (hBC : B ≤ C) : RdS B W' A l := by
  intro k x hx
  obtain ⟨ad, hA, hl, hc⟩ := h k x hx
  exact ⟨ad, hA, hl, (hb.cell (by rw [add_block]; omega)).trans hc⟩
theorem RdS.more {B C : Nat} {W : World} {A : Option Addr} {l : List ByteArray} (h : RdS B W A l) (hBC : B ≤ C) : RdS C W A l := by
  intro k x hx
  obtain ⟨ad, hA, hl, hc⟩ := h k x hx
  exact ⟨ad, hA, by omega, hc⟩
theorem RdS.draws {B : Nat} {W : World} {A : Option Addr} {l : List ByteArray} (h : RdS B W A l) (n : Nat) : RdS B (W.drewN n) A l := h
theorem RdS.at_ {B : Nat} {W : World} {A : Option Addr} {l : List ByteArray} (h : RdS B W A l) {k : Nat} (hk : k < l.length) : ∃ ad, A = some ad ∧ ad.block < B ∧ W.cell? (ad.add k) = some (.string l[k]) :=
  h k _ (List.getElem?_eq_getElem hk)
theorem RdS.take {B : Nat} {W : World} {A : Option Addr} {l : List ByteArray} (h : RdS B W A l) (m : Nat) : RdS B W A (l.take m) := by
  intro k x hx
  rw [List.getElem?_take] at hx
  split at hx
  · exact h k x hx
  · cases hx
/-- .. cut off at its front, as the model has it. -/
theorem RdS.drop {B : Nat} {W : World} {A : Option Addr} {l : List ByteArray} (h : RdS B W A l) {m c : Nat} (hc : l.length ≤ c) : RdS B W (if c = m then A else A.map (·.add m)) (l.drop m) := by
  intro k x hx
  rw [List.getElem?_drop] at hx
  have hlt := (List.getElem?_eq_some_iff.1 hx).1
  obtain ⟨ad, rfl, hl, hcell⟩ := h _ x hx
  rw [if_neg (by omega)]
  exact ⟨ad.add m, rfl, by rw [add_block]; exact hl, by rw [add_add']; exact hcell⟩

theorem RdS.grown {B : Nat} {W W' : World} {A : Option Addr} {l : List ByteArray} {row : Option Nat} (h : RdS B W A l) (hg : W.grownBy W' row) (hB : B ≤ W.heap.size) (hne : ∀ a, A = some a → some a.block ≠ row) : RdS B W' A l := by
  intro k x hx
  obtain ⟨ad, hA, hl, hc⟩ := h k x hx
  exact ⟨ad, hA, hl, (hg.cell_far _ (by rw [add_block]; omega) (by rw [add_block]; exact hne ad hA)).trans hc⟩
/-- A row of strings that the call owns, in blocks from base on. -/
def OwnS (base : Nat) (W : World) (A : Option Addr) (n c : Nat) (l : List ByteArray) : Prop := W.ownsRow base 9 1 (.slice A n c) n (strV l)
theorem OwnS.nil (base : Nat) (W : World) : OwnS base W none 0 0 [] := World.ownsRow_nil W base 9 1
theorem OwnS.len {base : Nat} {W : World} {A : Option Addr} {n c : Nat} {l : List ByteArray} (h : OwnS base W A n c l) : l.length = n := by
  have := h.1
  simpa using this
theorem OwnS.rd {base : Nat} {W : World} {A : Option Addr} {n c : Nat} {l : List ByteArray} (h : OwnS base W A n c l) : RdS W.heap.size W A l := by
  intro k x hx
  have hk := (List.getElem?_eq_some_iff.1 hx).1
  have hl := h.len
  obtain ⟨g, cap, hv, _, hlt⟩ := World.ownsRow.form h (by omega)
  injection hv with hv
  subst hv
  exact ⟨_, rfl, hlt, h.cells (g := g) rfl k _ (by rw [List.getElem?_map, hx]; rfl)⟩
theorem OwnS.cap {base : Nat} {W : World} {A : Option Addr} {n c : Nat} {l : List ByteArray} (h : OwnS base W A n c l) : n ≤ c ∧ c ≤ maxLen := by
  rcases h.2 with ⟨hv, _⟩ | ⟨g, cap, cur, hv, _, _, h1, h2, _⟩
  · injection hv with _ h1 h2
    subst h2
    rw [h1]
    exact ⟨Nat.le_refl _, Nat.zero_le _⟩
  · injection hv with _ _ h3
    subst h3
    exact ⟨h1, h2⟩
theorem OwnS.blk {base : Nat} {W : World} {A : Option Addr} {n c : Nat} {l : List ByteArray} (h : OwnS base W A n c l) {a : Addr} (ha : A = some a) : base ≤ a.block ∧ a.block < W.heap.size := by
  subst ha
  exact World.ownsRow.lt h a.block rfl
theorem OwnS.keep {base : Nat} {W W' : World} {A : Option Addr} {n c : Nat} {l : List ByteArray} (h : OwnS base W A n c l) (hb : Below W.heap.size W W') : OwnS base W' A n c l :=
  World.ownsRow.kept h (row := none) ⟨hb.os, hb.tape, hb.output, hb.size, fun k hk _ => hb.block k hk⟩ (by cases A <;> simp [Value.ownBlock])
theorem OwnS.draws {base : Nat} {W : World} {A : Option Addr} {n c : Nat} {l : List ByteArray} (h : OwnS base W A n c l) (k : Nat) : OwnS base (W.drewN k) A n c l := h
theorem OwnS.less {base b2 : Nat} {W : World} {A : Option Addr} {n c : Nat} {l : List ByteArray} (h : OwnS base W A n c l) (hb : b2 ≤ base) : OwnS b2 W A n c l := by
  refine ⟨h.1, ?_⟩
  rcases h.2 with h | ⟨g, cap, cur, h1, h2, h3⟩
  · exact .inl h
  · exact .inr ⟨g, cap, cur, h1, by omega, h3⟩
/-- A literal's row. -/
theorem OwnS.lit (W : World) {base n : Nat} (cs : Array Value) (l : List ByteArray) (hcs : cs.toList = strV l) (hn : l.length = n) (hb : base ≤ W.heap.size) (hm : n ≤ maxLen) : OwnS base (W.alloc (.cells cs 9)) (some ⟨W.heap.size, 0, none⟩) n n l := by
  subst hn
  unfold OwnS
  rw [← hcs]
  exact World.ownsRow_lit W cs l.length hb hm (by rw [← Array.length_toList, hcs]; simp)

theorem OwnS.drew_ {base : Nat} {W : World} {A : Option Addr} {n c : Nat} {l : List ByteArray} (h : OwnS base W A n c l) : OwnS base W.drew A n c l := h
theorem RdS.drew_ {B : Nat} {W : World} {A : Option Addr} {l : List ByteArray} (h : RdS B W A l) : RdS B W.drew A l := h
/-- One string in a block of its own. -/
theorem rdOne (w : World) (x : ByteArray) (g : Nat) (h : w.heap.size = g) : RdS (g + 1) (w.alloc (.cells #[.string x] 9)) (some ⟨g, 0, none⟩) [x] := by
  subst h
  intro k y hy
  have hk : k = 0 := by
    have := (List.getElem?_eq_some_iff.1 hy).1
    simp at this
    omega
  subst hk
  injection hy with hy
  subst hy
  exact ⟨_, rfl, by simp, cell_one_new w (.string x) 9 0 _ rfl⟩
theorem rdNow {H : Nat} {W w' : World} {A : Option Addr} {l : List ByteArray} {p : Addr} {v : Value} (h : RdS H W A l) (hS : w'.cell? p = some v ∧ Below H W w') : RdS H w' A l := h.keep hS.2 (Nat.le_refl _)
theorem szNow {H : Nat} {W w' : World} {p : Addr} {v : Value} (hS : w'.cell? p = some v ∧ Below H W w') : W.heap.size ≤ w'.heap.size := hS.2.size
theorem str_info : (Tryd.prog.info? 9).map (fun i => (i.zero, i.size, i.bytes)) = some (some (.string ⟨#[]⟩), 1, 16) := by kernel_rfl

/-- What an append does hangs on the first type alone, if both are slices. -/
theorem run_append_tt {P : Program} (w : World) {t t' e e' ty : TypeId} (ht : P.underlying t = some (.slice e)) (ht' : P.underlying t' = some (.slice e')) (A B : Option Addr) (n c m d : Nat) :
    (Builtin.append_ #[t, t'] ty #[.slice A n c, .slice B m d]).run P w = (Builtin.append_ #[t, t] ty #[.slice A n c, .slice B m d]).run P w := by
  have h1 : ∀ W : World, (underlying t').run P W = .ok (.slice e') W := fun W => run_underlying ht' W
  have h2 : ∀ W : World, (underlying t).run P W = .ok (.slice e) W := fun W => run_underlying ht W
  simp only [Builtin.append_, List.getElem?_toArray, List.getElem?_cons_zero, List.getElem?_cons_succ, Sem.run_bind, h1, h2, Result.andThen_ok, Sem.run_pure]

theorem strs_one (l : List ByteArray) : ∀ u ∈ strV l, u.oneCell' = true := by
  intro u hu
  obtain ⟨x, _, rfl⟩ := List.mem_map.1 hu
  rfl
/-- Append of what reads as strings onto a row of the call's own. -/
theorem run_apS {P : Program} (w : World) {t t' e' ty : TypeId} {i : TypeInfo} (ht : P.underlying t = some (.slice 9)) (ht' : P.underlying t' = some (.slice e')) (hi : P.info? 9 = some i) (hz : i.zero = some (.string ⟨#[]⟩)) (hs : i.size = 1) (hy : i.bytes = 16)
    {base B : Nat} {A A2 : Option Addr} {n c m d : Nat} {l l2 : List ByteArray} (hown : OwnS base w A n c l) (hr : RdS B w A2 l2) (hm : l2.length = m) (hsz : n + m ≤ 1099511627776) (hbase : base ≤ w.heap.size) :
    ∃ A' c' w', (Builtin.append_ #[t, t'] ty #[.slice A n c, .slice A2 m d]).run P w = .ok (.slice A' (n + m) c') w' ∧ OwnS base w' A' (n + m) c' (l ++ l2) ∧ Below base w w' ∧ w.grownBy w' (A.map (·.block)) := by
  subst hm
  cases A2 with
  | none =>
    have h0 : l2 = [] := by
      cases l2 with
      | nil => rfl
      | cons x r =>
        obtain ⟨ad, he, _⟩ := hr 0 x rfl
        cases he
    subst h0
    refine ⟨A, c, w, ?_, by simpa using hown, Below.refl _ _, World.grownBy.refl w _⟩
    rw [run_append_tt w ht ht']
    have hcap := hown.cap
    have hcond : n + 0 ≤ c := by omega
    have hne : ∀ W : World, (underlying t).run P W = .ok (.slice 9) W := fun W => run_underlying ht W
    cases A with
    | none => simp [Builtin.append_, run_underlying ht, sizeOf, typeInfo, hi, Builtin.lenOf, Builtin.firstCells, hcap.1]
    | some a => simp [Builtin.append_, run_underlying ht, sizeOf, typeInfo, hi, Builtin.lenOf, Builtin.firstCells, hcap.1, storeCells]
  | some ad =>
    have hc : ∀ j u, (strV l2)[j]? = some u → w.cell? (ad.add j) = some u := by
      intro j u hu
      rw [List.getElem?_map] at hu
      cases hx : l2[j]? with
      | none => rw [hx] at hu; cases hu
      | some x =>
        rw [hx] at hu
        injection hu with hu
        subst hu
        obtain ⟨a2, he, _, hcell⟩ := hr j x hx
        injection he with he
        subst he
        exact hcell
    obtain ⟨v', w', hrun, h2, h3, _, _⟩ := run_append_own_at (P := P) w base t ty 9 i (.string ⟨#[]⟩) 1 16 ht hi hz hs hy rfl (by omega) (.slice A n c) n (strV l) hown ad l2.length d (strV l2) (by simp) hc (strs_one l2)
      (by unfold maxLen; omega) (by omega) hbase
    have hb : Below base w w' := (Below.refl base w).grown h3 hbase (fun k hk => (World.ownsRow.lt hown k hk).1)
    have hv : ∃ A' c', v' = .slice A' (n + l2.length) c' := by
      rcases h2.2 with ⟨e1, e2⟩ | ⟨g, cap, cur, e1, _⟩
      · exact ⟨none, 0, by rw [e1, e2]⟩
      · exact ⟨_, _, e1⟩
    obtain ⟨A', c', rfl⟩ := hv
    refine ⟨A', c', w', by rw [run_append_tt w ht ht']; exact hrun, ?_, hb, by cases A <;> exact h3⟩
    unfold OwnS
    rw [show strV (l ++ l2) = strV l ++ strV l2 from List.map_append]
    exact h2
section
variable {P : Program} {w : World} {t t' e' : TypeId} {i : TypeInfo} {base B : Nat} {A A2 : Option Addr} {n c m d : Nat} {l l2 : List ByteArray} {o : Oper} {a : Act} {Q : Exit → Act → World → Prop} {ops : Array Oper}
/-- .. as an operation. -/
theorem wp_apS {K : Act → World → Prop} (s x : Operand) (ho : o.op = .call { callee := .builtin .append, args := #[s, x], argTypes := #[t, t'] })
    (ht : P.underlying t = some (.slice 9)) (ht' : P.underlying t' = some (.slice e')) (hi : P.info? 9 = some i) (hz : i.zero = some (.string ⟨#[]⟩)) (hs : i.size = 1) (hy : i.bytes = 16)
    (h1 : a.eval s = .slice A n c) (h2 : a.eval x = .slice A2 m d) (hown : OwnS base w A n c l) (hr : RdS B w A2 l2) (hm : l2.length = m) (N : Nat) (hN : n + m = N) (hsz : n + m ≤ 1099511627776) (hbase : base ≤ w.heap.size)
    (h : ∀ A' c' w', OwnS base w' A' N c' (l ++ l2) → Below base w w' → w.grownBy w' (A.map (·.block)) → K (a.put o.dst (.slice A' N c')) w') : o.wp P a w K Q := by
  subst hN
  obtain ⟨A', c', w', hrun, k1, k2, k3⟩ := run_apS (P := P) (ty := o.type) (d := d) w ht ht' hi hz hs hy hown hr hm hsz hbase
  unfold Oper.wp execOp
  simp only [ho, resolve, invoke, builtin, Sem.run_bind, Sem.run_pure, Result.andThen_ok, List.map_toArray, List.map_cons, List.map_nil, h1, h2, hrun]
  exact h A' c' w' k1 k2 k3
/-- .. in a plain region. -/
theorem wpList_apS {rest : List Oper} (hgd : o.guard = none) (s x : Operand) (ho : o.op = .call { callee := .builtin .append, args := #[s, x], argTypes := #[t, t'] })
    (ht : P.underlying t = some (.slice 9)) (ht' : P.underlying t' = some (.slice e')) (hi : P.info? 9 = some i) (hz : i.zero = some (.string ⟨#[]⟩)) (hs : i.size = 1) (hy : i.bytes = 16)
    (h1 : a.eval s = .slice A n c) (h2 : a.eval x = .slice A2 m d) (hown : OwnS base w A n c l) (hr : RdS B w A2 l2) (hm : l2.length = m) (N : Nat) (hN : n + m = N) (hsz : n + m ≤ 1099511627776) (hbase : base ≤ w.heap.size)
    (h : ∀ A' c' w', OwnS base w' A' N c' (l ++ l2) → Below base w w' → w.grownBy w' (A.map (·.block)) → wpList P ops Q rest (a.put o.dst (.slice A' N c')) w') : wpList P ops Q (o :: rest) a w :=
  wpList_plain hgd fun _ hK => wp_apS s x ho ht ht' hi hz hs hy h1 h2 hown hr hm N hN hsz hbase fun A' c' w' k1 k2 k3 => hK _ _ (h A' c' w' k1 k2 k3)
/-- .. at a step of a region that draws its order. -/
theorem step_apS {K : Act → World → Prop} {E : Prop} (hgd : o.guard = none) (s x : Operand) (ho : o.op = .call { callee := .builtin .append, args := #[s, x], argTypes := #[t, t'] })
    (ht : P.underlying t = some (.slice 9)) (ht' : P.underlying t' = some (.slice e')) (hi : P.info? 9 = some i) (hz : i.zero = some (.string ⟨#[]⟩)) (hs : i.size = 1) (hy : i.bytes = 16)
    (h1 : a.eval s = .slice A n c) (h2 : a.eval x = .slice A2 m d) (hown : OwnS base w A n c l) (hr : RdS B w A2 l2) (hm : l2.length = m) (N : Nat) (hN : n + m = N) (hsz : n + m ≤ 1099511627776) (hbase : base ≤ w.heap.size)
    (h : ∀ A' c' w', OwnS base w' A' N c' (l ++ l2) → Below base w w' → w.grownBy w' (A.map (·.block)) → K (a.put o.dst (.slice A' N c')) w') :
    if Region.wanted o (yielded ops a.tmps) = true then Oper.wp P o a w K Q else E := by
  have hw : Region.wanted o (yielded ops a.tmps) = true := by simp [Region.wanted, hgd]
  rw [if_pos hw]
  exact wp_apS s x ho ht ht' hi hz hs hy h1 h2 hown hr hm N hN hsz hbase h
end
end Go.Proofs.YtjbmhbnlanbbkaaDoor

namespace Go.Proofs.YtjbmhbnlanbbkaaDoor
open Go.RowKit Go.WideShapes Go.ChangeShapes

section
variable {H : Type} {enc : TypeId × Value → H} {P : Program}
/-- All arguments read in a grown world as they did. -/
theorem trodAll_grown (hl : laidOutB P = true) {W W' : World} (hb : Below W.heap.size W W') {sp : Nat → Bool} :
    ∀ (ts : List TypeId) (vs : List Value) (ds : List (DataW H)) (ps : List MemPlace), (∀ t ∈ ts, P.readableRec t = true ∧ t < P.types.size) → (∀ x ∈ ps, x.block < W.heap.size) → (∀ x ∈ ps, sp x.block = true) →
      DataW.TrodAll enc P W 0 (fun _ => true) true ts vs ds ps → DataW.TrodAll enc P W' 0 sp true ts vs ds ps
  | [], [], [], _, _, _, _, h => h
  | t :: ts, v :: vs, d :: ds, ps, hr, hlt, hsp, h => by
    obtain ⟨p, q, h1, h2, rfl⟩ := h
    refine ⟨p, q, ?_, trodAll_grown hl hb ts vs ds q (fun t ht => hr t (List.mem_cons_of_mem _ ht)) (fun x hx => hlt x (List.mem_append_right _ hx)) (fun x hx => hsp x (List.mem_append_right _ hx)) h2, rfl⟩
    exact WideElems.Trod_stays hl (hr t List.mem_cons_self).1 (hr t List.mem_cons_self).2 h1 (fun x hx => hb.same (hlt x (List.mem_append_left _ hx))) (fun x hx => hsp x (List.mem_append_left _ hx))
  | [], _ :: _, _, _, _, _, _, h => by cases h
  | [], [], _ :: _, _, _, _, _, h => by cases h
  | _ :: _, [], _, _, _, _, _, h => by cases h
  | _ :: _, _ :: _, [], _, _, _, _, h => by cases h

theorem all_readable {ts : List TypeId} (h : (ts.all fun t => P.readableRec t && decide (t < P.types.size)) = true) : ∀ t ∈ ts, P.readableRec t = true ∧ t < P.types.size := by
  intro t ht
  have := List.all_eq_true.1 h t ht
  rw [Bool.and_eq_true, decide_eq_true_eq] at this
  exact this

/-- A law that answers true in a world that has only grown. -/
theorem post_true {f : Func} {s : ChangeSpec} {apart fresh handsOn again : Bool} {W W' : World} {args : Array Value} {tb : TypeId} {ds : List (DataW H)} {before : List MemPlace} (hl : laidOutB P = true)
    (hall : (f.params.toList.all fun t => P.readableRec t && decide (t < P.types.size)) = true) (htb : P.underlying tb = some .bool) (hrt : f.resultTypes = #[tb])
    (hW : DataW.Whole enc P f.params.toList s.vars apart W args.toList ds [] before) (hvars : s.vars = [])
    (hspec : (s.fn H (ds ++ [])).results = [.lit (.bool true)] ∧ (s.fn H (ds ++ [])).args = ds ∧ (s.fn H (ds ++ [])).vars = []) (hb : Below W.heap.size W W') :
    s.post enc P f apart fresh handsOn again W args (.bool true) W' := by
  have hlt : ∀ p ∈ before, p.block < W.heap.size := fun p hp => hW.lt p hp
  have hW2 := hW
  obtain ⟨p, q, hA0, hV, rfl, hfz, hnd⟩ := hW
  have hA : DataW.TrodAll enc P W 0 (fun _ => true) true f.params.toList args.toList ds p := hA0
  rw [hvars] at hV
  obtain ⟨_, rfl⟩ := trodVars_none hV
  rw [List.append_nil] at hW2 hlt hfz hnd
  have hargs : ∀ sp : Nat → Bool, (∀ x ∈ p, sp x.block = true) → DataW.TrodAll enc P W' 0 sp true f.params.toList args.toList (s.fn H (ds ++ [])).args p := fun sp hsp => by
    rw [hspec.2.1]
    exact trodAll_grown hl hb _ _ _ _ (all_readable hall) hlt hsp hA
  have hold : ∀ x ∈ p, (fun b => decide (b < W.heap.size)) x.block = true := fun x hx => by simpa using hlt x hx
  have hres : ∀ (b : Nat) (sp : Nat → Bool) (hd : Bool), DataW.TrodAll enc P W' b sp hd f.resultTypes.toList ((Value.bool true).resultList f.resultTypes.size) (s.fn H (ds ++ [])).results [] := fun b sp hd => by
    rw [hspec.1, hrt]
    exact trodAll_cons_mk (shut_bool htb _) trodAll_mk0
  have hvs : ∀ sp : Nat → Bool, DataW.TrodVars enc P W' sp s.vars (s.fn H (ds ++ [])).vars [] := fun sp => by
    rw [hvars, hspec.2.2]
    exact rfl
  refine ⟨ds, [], p, [], p, [], hW2, hres _ _ _, hargs _ hold, hvs _, World.keptBut_mono (fun x hx => ⟨hx, ?_⟩) (hb.frame (· ∈ p)), fun _ => ?_⟩
  · exact Or.inr (Or.inl hx)
  · refine ⟨ok_one hrt rfl (okWide_bool_mk htb _), _, _, ([] ++ p) ++ [], ⟨[] ++ p, [], trodAll_append (hargs _ (fun _ _ => rfl)) (hres _ _ _), hvs _, rfl, ?_, ?_⟩, ?_⟩
    · intro b off hp
      have hin : MemPlace.cell b off ∈ p := by simpa using hp
      rw [hb.frozen (hlt _ hin)]
      exact hfz b off hin
    · intro ha
      simpa using hnd ha
    · intro x hx _
      simpa using hx
end

section
variable {H : Type} {enc : TypeId × Value → H}
theorem cellsStr1 : Tryd.prog.cellsOf 9 = 1 := by kernel_rfl
set_option maxRecDepth 100000 in
/-- An argument that is a slice of strings, opened. -/
theorem open_strl {t : TypeId} (ht : Tryd.prog.underlying t = some (.slice 9)) {W : World} {r : Reach} {b0 : Nat} {v : Value} {d : DataW H} {p : List MemPlace} (hv : Value.okWide Tryd.prog W r b0 t v) (h : DataW.Trod enc Tryd.prog W 0 (fun _ => true) true t v d p) :
    ∃ (A : Option Addr) (n c : Nat) (l : List ByteArray), v = .slice A n c ∧ l.length = n ∧ RdS W.heap.size W A l ∧ n ≤ maxLen ∧ ∀ x, x ∈ l → x.size ≤ maxLen := by
  obtain ⟨A, n, c, rfl⟩ := okWide_slice ht hv
  obtain ⟨fuel, hf⟩ := h
  rcases Go.Deep.open_strs ht Tryd.underlying9 cellsStr1 hf with ⟨hcs, _⟩ | ⟨a, len, cap, m, Sx, hcs, _, hl, hm, hmm, _, hcell⟩
  · simp [Value.cells] at hcs
    obtain ⟨rfl, rfl, rfl⟩ := hcs
    exact ⟨none, 0, 0, [], rfl, rfl, RdS.nil _ _ _, Nat.zero_le _, fun x hx => by simp at hx⟩
  · simp [Value.cells] at hcs
    obtain ⟨rfl, rfl, rfl⟩ := hcs
    have hle : n ≤ m := by rw [hmm]; simp; omega
    refine ⟨some a, n, c, (List.range n).map Sx, rfl, by simp, fun k x hx => ?_, by omega, fun x hx => ?_⟩
    · have hk : k < n := by
        have := (List.getElem?_eq_some_iff.1 hx).1
        simpa using this
      have e : x = Sx k := by
        rw [List.getElem?_map, List.getElem?_range hk] at hx
        injection hx with hx
        exact hx.symm
      subst e
      have hc := (hcell k (by omega)).1
      have hb := World.block_lt_of_cell? W _ hc
      rw [add_block] at hb
      exact ⟨a, rfl, hb, hc⟩
    · obtain ⟨k, hk, rfl⟩ := List.mem_map.1 hx
      exact (hcell k (by have := List.mem_range.1 hk; omega)).2
end
end Go.Proofs.YtjbmhbnlanbbkaaDoor

namespace Go.Proofs.YtjbmhbnlanbbkaaDoor
open Go.RowKit

/-- string of one byte. -/
theorem conv_one (W : World) (n : Int) (c : UInt8) (h : n = (c.toNat : Int)) :
    (convert 28 9 (.slice (some ⟨W.heap.size, 0, none⟩) 1 1)).run Tryd.prog (W.alloc (.cells #[.int .u8 n] 5)) = .ok (.string ⟨#[c]⟩) (W.alloc (.cells #[.int .u8 n] 5)) := by
  have := run_convert_bytes_back (P := Tryd.prog) (W.alloc (.cells #[.int .u8 n] 5)) 28 9 5 ⟨W.heap.size, 0, none⟩ 1 [c] Tryd.underlying28 Tryd.underlying5 Tryd.underlying9 (by
    intro j hj
    have hj0 : j = 0 := by simpa using hj
    subst hj0
    subst h
    have e : (⟨W.heap.size, 0, none⟩ : Addr).add 0 = ⟨W.heap.size, 0, none⟩ := by simp [Addr.add]
    rw [e]
    go_simp)
  simpa using this
/-- string of a row of the call's own. -/
theorem conv_own (W : World) (B : Nat) (v : Value) (l : List UInt8) (h : W.ownsRow B 5 1 v l.length (Lib.byteCells l)) :
    (convert 28 9 v).run Tryd.prog W = .ok (.string ⟨l.toArray⟩) W := by
  rcases h.2 with ⟨rfl, h0⟩ | ⟨g, cap, cur, rfl, _⟩
  · have : l = [] := List.length_eq_zero_iff.1 h0
    subst this
    exact run_convert_bytes_nil W 28 5 Tryd.underlying28 Tryd.underlying5 0 0 9 Tryd.underlying9
  · refine run_convert_bytes_back W 28 9 5 ⟨g, 0, none⟩ cap l Tryd.underlying28 Tryd.underlying5 Tryd.underlying9 ?_
    intro j hj
    have e : (⟨g, 0, none⟩ : Addr).add j = ⟨g, j, none⟩ := by unfold Addr.add; split <;> simp_all
    rw [e, h.cellAt j (by omega)]
    simp [Lib.byteCells, hj]

theorem str_add' {a b : ByteArray} (ha : a.size ≤ 100000) (hb : b.size ≤ 100000) : Op.stringOp .add a b = pure (.string (a ++ b)) := by
  unfold Op.stringOp
  have e : IntKind.i64.max = 9223372036854775807 := rfl
  simp only
  rw [if_neg]
  rw [e]
  omega
end Go.Proofs.YtjbmhbnlanbbkaaDoor

namespace Go.Proofs.YtjbmhbnlanbbkaaDoor
open Go.RowKit

/-- The cells of bytes. -/
abbrev bytV (l : List UInt8) : List Value := l.map fun c => Value.int .u8 (c.toNat : Int)
/-- The slice at A reads as the bytes l, in blocks below B. -/
def RdB (B : Nat) (W : World) (A : Option Addr) (l : List UInt8) : Prop :=
  ∀ k x, l[k]? = some x → ∃ ad, A = some ad ∧ ad.block < B ∧ W.cell? (ad.add k) = some (.int .u8 (x.toNat : Int))
theorem RdB.nil (B : Nat) (W : World) (A : Option Addr) : RdB B W A [] := fun k x h => by simp at h
theorem RdB.keep {B C : Nat} {W W' : World} {A : Option Addr} {l : List UInt8} (h : RdB B W A l) (hb : Below C W W') (hBC : B ≤ C) : RdB B W' A l := by
  intro k x hx
  obtain ⟨ad, hA, hl, hc⟩ := h k x hx
  exact ⟨ad, hA, hl, (hb.cell (by rw [add_block]; omega)).trans hc⟩
theorem RdB.more {B C : Nat} {W : World} {A : Option Addr} {l : List UInt8} (h : RdB B W A l) (hBC : B ≤ C) : RdB C W A l := by
  intro k x hx
  obtain ⟨ad, hA, hl, hc⟩ := h k x hx
  exact ⟨ad, hA, by omega, hc⟩
theorem RdB.draws {B : Nat} {W : World} {A : Option Addr} {l : List UInt8} (h : RdB B W A l) (n : Nat) : RdB B (W.drewN n) A l := h
theorem RdB.at_ {B : Nat} {W : World} {A : Option Addr} {l : List UInt8} (h : RdB B W A l) {k : Nat} (hk : k < l.length) : ∃ ad, A = some ad ∧ ad.block < B ∧ W.cell? (ad.add k) = some (.int .u8 (l[k].toNat : Int)) :=
  h k _ (List.getElem?_eq_getElem hk)
theorem RdB.take {B : Nat} {W : World} {A : Option Addr} {l : List UInt8} (h : RdB B W A l) (m : Nat) : RdB B W A (l.take m) := by
  intro k x hx
  rw [List.getElem?_take] at hx
  split at hx
  · exact h k x hx
  · cases hx
/-- .. cut off at its front, as the model has it. -/
theorem RdB.drop {B : Nat} {W : World} {A : Option Addr} {l : List UInt8} (h : RdB B W A l) {m c : Nat} (hc : l.length ≤ c) : RdB B W (if c = m then A else A.map (·.add m)) (l.drop m) := by
  intro k x hx
  rw [List.getElem?_drop] at hx
  have hlt := (List.getElem?_eq_some_iff.1 hx).1
  obtain ⟨ad, rfl, hl, hcell⟩ := h _ x hx
  rw [if_neg (by omega)]
  exact ⟨ad.add m, rfl, by rw [add_block]; exact hl, by rw [add_add']; exact hcell⟩

theorem RdB.grown {B : Nat} {W W' : World} {A : Option Addr} {l : List UInt8} {row : Option Nat} (h : RdB B W A l) (hg : W.grownBy W' row) (hB : B ≤ W.heap.size) (hne : ∀ a, A = some a → some a.block ≠ row) : RdB B W' A l := by
  intro k x hx
  obtain ⟨ad, hA, hl, hc⟩ := h k x hx
  exact ⟨ad, hA, hl, (hg.cell_far _ (by rw [add_block]; omega) (by rw [add_block]; exact hne ad hA)).trans hc⟩
/-- A row of bytes that the call owns, in blocks from base on. -/
def OwnB (base : Nat) (W : World) (A : Option Addr) (n c : Nat) (l : List UInt8) : Prop := W.ownsRow base 5 1 (.slice A n c) n (bytV l)
theorem OwnB.nil (base : Nat) (W : World) : OwnB base W none 0 0 [] := World.ownsRow_nil W base 5 1
theorem OwnB.len {base : Nat} {W : World} {A : Option Addr} {n c : Nat} {l : List UInt8} (h : OwnB base W A n c l) : l.length = n := by
  have := h.1
  simpa using this
theorem OwnB.rd {base : Nat} {W : World} {A : Option Addr} {n c : Nat} {l : List UInt8} (h : OwnB base W A n c l) : RdB W.heap.size W A l := by
  intro k x hx
  have hk := (List.getElem?_eq_some_iff.1 hx).1
  have hl := h.len
  obtain ⟨g, cap, hv, _, hlt⟩ := World.ownsRow.form h (by omega)
  injection hv with hv
  subst hv
  exact ⟨_, rfl, hlt, h.cells (g := g) rfl k _ (by rw [List.getElem?_map, hx]; rfl)⟩
theorem OwnB.cap {base : Nat} {W : World} {A : Option Addr} {n c : Nat} {l : List UInt8} (h : OwnB base W A n c l) : n ≤ c ∧ c ≤ maxLen := by
  rcases h.2 with ⟨hv, _⟩ | ⟨g, cap, cur, hv, _, _, h1, h2, _⟩
  · injection hv with _ h1 h2
    subst h2
    rw [h1]
    exact ⟨Nat.le_refl _, Nat.zero_le _⟩
  · injection hv with _ _ h3
    subst h3
    exact ⟨h1, h2⟩
theorem OwnB.blk {base : Nat} {W : World} {A : Option Addr} {n c : Nat} {l : List UInt8} (h : OwnB base W A n c l) {a : Addr} (ha : A = some a) : base ≤ a.block ∧ a.block < W.heap.size := by
  subst ha
  exact World.ownsRow.lt h a.block rfl
theorem OwnB.keep {base : Nat} {W W' : World} {A : Option Addr} {n c : Nat} {l : List UInt8} (h : OwnB base W A n c l) (hb : Below W.heap.size W W') : OwnB base W' A n c l :=
  World.ownsRow.kept h (row := none) ⟨hb.os, hb.tape, hb.output, hb.size, fun k hk _ => hb.block k hk⟩ (by cases A <;> simp [Value.ownBlock])
theorem OwnB.draws {base : Nat} {W : World} {A : Option Addr} {n c : Nat} {l : List UInt8} (h : OwnB base W A n c l) (k : Nat) : OwnB base (W.drewN k) A n c l := h
theorem OwnB.less {base b2 : Nat} {W : World} {A : Option Addr} {n c : Nat} {l : List UInt8} (h : OwnB base W A n c l) (hb : b2 ≤ base) : OwnB b2 W A n c l := by
  refine ⟨h.1, ?_⟩
  rcases h.2 with h | ⟨g, cap, cur, h1, h2, h3⟩
  · exact .inl h
  · exact .inr ⟨g, cap, cur, h1, by omega, h3⟩
/-- A literal's row. -/
theorem OwnB.lit (W : World) {base n : Nat} (cs : Array Value) (l : List UInt8) (hcs : cs.toList = bytV l) (hn : l.length = n) (hb : base ≤ W.heap.size) (hm : n ≤ maxLen) : OwnB base (W.alloc (.cells cs 5)) (some ⟨W.heap.size, 0, none⟩) n n l := by
  subst hn
  unfold OwnB
  rw [← hcs]
  exact World.ownsRow_lit W cs l.length hb hm (by rw [← Array.length_toList, hcs]; simp)

theorem OwnB.drew_ {base : Nat} {W : World} {A : Option Addr} {n c : Nat} {l : List UInt8} (h : OwnB base W A n c l) : OwnB base W.drew A n c l := h
theorem RdB.drew_ {B : Nat} {W : World} {A : Option Addr} {l : List UInt8} (h : RdB B W A l) : RdB B W.drew A l := h
/-- One byte in a block of its own. -/
theorem rdOneB (w : World) (x : UInt8) (g : Nat) (h : w.heap.size = g) : RdB (g + 1) (w.alloc (.cells #[.int .u8 (x.toNat : Int)] 5)) (some ⟨g, 0, none⟩) [x] := by
  subst h
  intro k y hy
  have hk : k = 0 := by
    have := (List.getElem?_eq_some_iff.1 hy).1
    simp at this
    omega
  subst hk
  injection hy with hy
  subst hy
  exact ⟨_, rfl, by simp, cell_one_new w (.int .u8 (x.toNat : Int)) 5 0 _ rfl⟩
theorem rdNowB {H : Nat} {W w' : World} {A : Option Addr} {l : List UInt8} {p : Addr} {v : Value} (h : RdB H W A l) (hS : w'.cell? p = some v ∧ Below H W w') : RdB H w' A l := h.keep hS.2 (Nat.le_refl _)
theorem szNowB {H : Nat} {W w' : World} {p : Addr} {v : Value} (hS : w'.cell? p = some v ∧ Below H W w') : W.heap.size ≤ w'.heap.size := hS.2.size
theorem byt_info : (Tryd.prog.info? 5).map (fun i => (i.zero, i.size, i.bytes)) = some (some (.int .u8 0), 1, 1) := by kernel_rfl

theorem byts_one (l : List UInt8) : ∀ u ∈ bytV l, u.oneCell' = true := by
  intro u hu
  obtain ⟨x, _, rfl⟩ := List.mem_map.1 hu
  rfl
/-- Append of what reads as bytes onto a row of the call's own. -/
theorem run_apB {P : Program} (w : World) {t t' e' ty : TypeId} {i : TypeInfo} (ht : P.underlying t = some (.slice 5)) (ht' : P.underlying t' = some (.slice e')) (hi : P.info? 5 = some i) (hz : i.zero = some (.int .u8 0)) (hs : i.size = 1) (hy : i.bytes = 1)
    {base B : Nat} {A A2 : Option Addr} {n c m d : Nat} {l l2 : List UInt8} (hown : OwnB base w A n c l) (hr : RdB B w A2 l2) (hm : l2.length = m) (hsz : n + m ≤ 1099511627776) (hbase : base ≤ w.heap.size) :
    ∃ A' c' w', (Builtin.append_ #[t, t'] ty #[.slice A n c, .slice A2 m d]).run P w = .ok (.slice A' (n + m) c') w' ∧ OwnB base w' A' (n + m) c' (l ++ l2) ∧ Below base w w' ∧ w.grownBy w' (A.map (·.block)) := by
  subst hm
  cases A2 with
  | none =>
    have h0 : l2 = [] := by
      cases l2 with
      | nil => rfl
      | cons x r =>
        obtain ⟨ad, he, _⟩ := hr 0 x rfl
        cases he
    subst h0
    refine ⟨A, c, w, ?_, by simpa using hown, Below.refl _ _, World.grownBy.refl w _⟩
    rw [run_append_tt w ht ht']
    have hcap := hown.cap
    have hcond : n + 0 ≤ c := by omega
    have hne : ∀ W : World, (underlying t).run P W = .ok (.slice 5) W := fun W => run_underlying ht W
    cases A with
    | none => simp [Builtin.append_, run_underlying ht, sizeOf, typeInfo, hi, Builtin.lenOf, Builtin.firstCells, hcap.1]
    | some a => simp [Builtin.append_, run_underlying ht, sizeOf, typeInfo, hi, Builtin.lenOf, Builtin.firstCells, hcap.1, storeCells]
  | some ad =>
    have hc : ∀ j u, (bytV l2)[j]? = some u → w.cell? (ad.add j) = some u := by
      intro j u hu
      rw [List.getElem?_map] at hu
      cases hx : l2[j]? with
      | none => rw [hx] at hu; cases hu
      | some x =>
        rw [hx] at hu
        injection hu with hu
        subst hu
        obtain ⟨a2, he, _, hcell⟩ := hr j x hx
        injection he with he
        subst he
        exact hcell
    obtain ⟨v', w', hrun, h2, h3, _, _⟩ := run_append_own_at (P := P) w base t ty 5 i (.int .u8 0) 1 1 ht hi hz hs hy rfl (by omega) (.slice A n c) n (bytV l) hown ad l2.length d (bytV l2) (by simp) hc (byts_one l2)
      (by unfold maxLen; omega) (by omega) hbase
    have hb : Below base w w' := (Below.refl base w).grown h3 hbase (fun k hk => (World.ownsRow.lt hown k hk).1)
    have hv : ∃ A' c', v' = .slice A' (n + l2.length) c' := by
      rcases h2.2 with ⟨e1, e2⟩ | ⟨g, cap, cur, e1, _⟩
      · exact ⟨none, 0, by rw [e1, e2]⟩
      · exact ⟨_, _, e1⟩
    obtain ⟨A', c', rfl⟩ := hv
    refine ⟨A', c', w', by rw [run_append_tt w ht ht']; exact hrun, ?_, hb, by cases A <;> exact h3⟩
    unfold OwnB
    rw [show bytV (l ++ l2) = bytV l ++ bytV l2 from List.map_append]
    exact h2
section
variable {P : Program} {w : World} {t t' e' : TypeId} {i : TypeInfo} {base B : Nat} {A A2 : Option Addr} {n c m d : Nat} {l l2 : List UInt8} {o : Oper} {a : Act} {Q : Exit → Act → World → Prop} {ops : Array Oper}
/-- .. as an operation. -/
theorem wp_apB {K : Act → World → Prop} (s x : Operand) (ho : o.op = .call { callee := .builtin .append, args := #[s, x], argTypes := #[t, t'] })
    (ht : P.underlying t = some (.slice 5)) (ht' : P.underlying t' = some (.slice e')) (hi : P.info? 5 = some i) (hz : i.zero = some (.int .u8 0)) (hs : i.size = 1) (hy : i.bytes = 1)
    (h1 : a.eval s = .slice A n c) (h2 : a.eval x = .slice A2 m d) (hown : OwnB base w A n c l) (hr : RdB B w A2 l2) (hm : l2.length = m) (N : Nat) (hN : n + m = N) (hsz : n + m ≤ 1099511627776) (hbase : base ≤ w.heap.size)
    (h : ∀ A' c' w', OwnB base w' A' N c' (l ++ l2) → Below base w w' → w.grownBy w' (A.map (·.block)) → K (a.put o.dst (.slice A' N c')) w') : o.wp P a w K Q := by
  subst hN
  obtain ⟨A', c', w', hrun, k1, k2, k3⟩ := run_apB (P := P) (ty := o.type) (d := d) w ht ht' hi hz hs hy hown hr hm hsz hbase
  unfold Oper.wp execOp
  simp only [ho, resolve, invoke, builtin, Sem.run_bind, Sem.run_pure, Result.andThen_ok, List.map_toArray, List.map_cons, List.map_nil, h1, h2, hrun]
  exact h A' c' w' k1 k2 k3
/-- .. in a plain region. -/
theorem wpList_apB {rest : List Oper} (hgd : o.guard = none) (s x : Operand) (ho : o.op = .call { callee := .builtin .append, args := #[s, x], argTypes := #[t, t'] })
    (ht : P.underlying t = some (.slice 5)) (ht' : P.underlying t' = some (.slice e')) (hi : P.info? 5 = some i) (hz : i.zero = some (.int .u8 0)) (hs : i.size = 1) (hy : i.bytes = 1)
    (h1 : a.eval s = .slice A n c) (h2 : a.eval x = .slice A2 m d) (hown : OwnB base w A n c l) (hr : RdB B w A2 l2) (hm : l2.length = m) (N : Nat) (hN : n + m = N) (hsz : n + m ≤ 1099511627776) (hbase : base ≤ w.heap.size)
    (h : ∀ A' c' w', OwnB base w' A' N c' (l ++ l2) → Below base w w' → w.grownBy w' (A.map (·.block)) → wpList P ops Q rest (a.put o.dst (.slice A' N c')) w') : wpList P ops Q (o :: rest) a w :=
  wpList_plain hgd fun _ hK => wp_apB s x ho ht ht' hi hz hs hy h1 h2 hown hr hm N hN hsz hbase fun A' c' w' k1 k2 k3 => hK _ _ (h A' c' w' k1 k2 k3)
/-- .. at a step of a region that draws its order. -/
theorem step_apB {K : Act → World → Prop} {E : Prop} (hgd : o.guard = none) (s x : Operand) (ho : o.op = .call { callee := .builtin .append, args := #[s, x], argTypes := #[t, t'] })
    (ht : P.underlying t = some (.slice 5)) (ht' : P.underlying t' = some (.slice e')) (hi : P.info? 5 = some i) (hz : i.zero = some (.int .u8 0)) (hs : i.size = 1) (hy : i.bytes = 1)
    (h1 : a.eval s = .slice A n c) (h2 : a.eval x = .slice A2 m d) (hown : OwnB base w A n c l) (hr : RdB B w A2 l2) (hm : l2.length = m) (N : Nat) (hN : n + m = N) (hsz : n + m ≤ 1099511627776) (hbase : base ≤ w.heap.size)
    (h : ∀ A' c' w', OwnB base w' A' N c' (l ++ l2) → Below base w w' → w.grownBy w' (A.map (·.block)) → K (a.put o.dst (.slice A' N c')) w') :
    if Region.wanted o (yielded ops a.tmps) = true then Oper.wp P o a w K Q else E := by
  have hw : Region.wanted o (yielded ops a.tmps) = true := by simp [Region.wanted, hgd]
  rw [if_pos hw]
  exact wp_apB s x ho ht ht' hi hz hs hy h1 h2 hown hr hm N hN hsz hbase h
end
end Go.Proofs.YtjbmhbnlanbbkaaDoor

namespace Go.Proofs.YtjbmhbnlanbbkaaDoor
open Go.RowKit Go.WideShapes Go.ChangeShapes

section
variable {H : Type} {enc : TypeId × Value → H}
theorem cellsB1 : Tryd.prog.cellsOf 5 = 1 := by kernel_rfl
theorem wf_u8 {z : Int} (h : (Lit.int .u8 z).wf = true) : z = ((UInt8.ofNat z.toNat).toNat : Int) := by
  have e1 : IntKind.u8.min = 0 := rfl
  have e2 : IntKind.u8.max = 255 := rfl
  simp [Lit.wf, e1, e2] at h
  rw [UInt8.toNat_ofNat']
  omega
theorem wf_i64 {n : Int} (h : (Lit.int .i64 n).wf = true) : -9223372036854775808 ≤ n ∧ n ≤ 9223372036854775807 := by
  have e1 : IntKind.i64.min = -9223372036854775808 := rfl
  have e2 : IntKind.i64.max = 9223372036854775807 := rfl
  simp [Lit.wf, e1, e2] at h
  omega
set_option maxRecDepth 100000 in
/-- An argument that is a slice of bytes, opened. -/
theorem open_bytl {t : TypeId} (ht : Tryd.prog.underlying t = some (.slice 5)) {W : World} {r : Reach} {b0 : Nat} {v : Value} {d : DataW H} {p : List MemPlace} (hv : Value.okWide Tryd.prog W r b0 t v) (h : DataW.Trod enc Tryd.prog W 0 (fun _ => true) true t v d p) :
    ∃ (A : Option Addr) (n c : Nat) (l : List UInt8), v = .slice A n c ∧ l.length = n ∧ RdB W.heap.size W A l ∧ n ≤ c ∧ c ≤ maxLen := by
  obtain ⟨A, n, c, rfl⟩ := okWide_slice ht hv
  obtain ⟨fuel, hf⟩ := h
  rcases open_ints ht Tryd.underlying5 cellsB1 hf with ⟨hcs, _⟩ | ⟨a, len, cap, zs, hcs, _, hl, hm, hmm, _, hcell, hwf⟩
  · simp [Value.cells] at hcs
    obtain ⟨rfl, rfl, rfl⟩ := hcs
    exact ⟨none, 0, 0, [], rfl, rfl, RdB.nil _ _ _, Nat.le_refl _, Nat.zero_le _⟩
  · simp [Value.cells] at hcs
    obtain ⟨rfl, rfl, rfl⟩ := hcs
    have hle : n ≤ zs.length := by rw [hmm]; simp; omega
    refine ⟨some a, n, c, (zs.take n).map (fun z => UInt8.ofNat z.toNat), rfl, by rw [List.length_map, List.length_take]; omega, fun k x hx => ?_, hl, hm⟩
    have hk : k < n := by
      have := (List.getElem?_eq_some_iff.1 hx).1
      rw [List.length_map, List.length_take] at this
      omega
    have hkz : k < zs.length := by omega
    have hc := hcell k hkz
    have e : zs.getD k 0 = zs[k] := by rw [List.getD_eq_getElem?_getD, List.getElem?_eq_getElem hkz]; rfl
    rw [List.getElem?_map, List.getElem?_take, if_pos hk, List.getElem?_eq_getElem hkz] at hx
    injection hx with hx
    subst hx
    have hb := World.block_lt_of_cell? W _ hc
    rw [add_block] at hb
    refine ⟨a, rfl, hb, ?_⟩
    rw [hc, e]
    have := wf_u8 (hwf zs[k] (List.getElem_mem hkz))
    rw [← this]
set_option maxRecDepth 100000 in
/-- An argument that is a uint64, opened. -/
theorem open_u64 {P : Program} {t : TypeId} (ht : P.underlying t = some (.int .u64)) {W : World} {base : Nat} {spare : Nat → Bool} {held : Bool} {r : Reach} {b0 : Nat} {v : Value} {d : DataW H} {p : List MemPlace} (hv : Value.okWide P W r b0 t v) (h : DataW.Trod enc P W base spare held t v d p) :
    ∃ x : Nat, v = .int .u64 x ∧ x < 18446744073709551616 := by
  obtain ⟨n, rfl, _, _, hw⟩ := open_int ht hv h
  have e1 : IntKind.u64.min = 0 := rfl
  have e2 : IntKind.u64.max = 18446744073709551615 := rfl
  simp [Lit.wf, e1, e2] at hw
  exact ⟨n.toNat, by rw [Int.toNat_of_nonneg hw.1], by omega⟩
end
end Go.Proofs.YtjbmhbnlanbbkaaDoor

namespace Go.Proofs.YtjbmhbnlanbbkaaDoor
open Go.RowKit

/-- A block, whole. -/
def Blk (W : World) (b : Nat) (cs : Array Value) (t : TypeId) : Prop := W.heap[b]? = some (.cells cs t)
theorem Blk.lt {W : World} {b : Nat} {cs : Array Value} {t : TypeId} (h : Blk W b cs t) : b < W.heap.size := (Array.getElem?_eq_some_iff.1 h).1
theorem Blk.keep {W W1 : World} {b : Nat} {cs : Array Value} {t : TypeId} (h : Blk W b cs t) (hb : Below W.heap.size W W1) : Blk W1 b cs t := (hb.block b h.lt).trans h
theorem blk_new (w : World) (cs : Array Value) (t : TypeId) : Blk (w.alloc (.cells cs t)) w.heap.size cs t := by
  show (w.heap.push _)[w.heap.size]? = _
  simp
theorem blk_at {w : World} {b : Nat} (h : b = w.heap.size) (cs : Array Value) (t : TypeId) : Blk (w.alloc (.cells cs t)) b cs t := by
  subst h
  exact blk_new w cs t
theorem Blk.alloc {W : World} {b : Nat} {cs : Array Value} {t : TypeId} (h : Blk W b cs t) (o : Obj) : Blk (W.alloc o) b cs t := h.keep (b0 W o)
theorem Blk.drew {W : World} {b : Nat} {cs : Array Value} {t : TypeId} (h : Blk W b cs t) (n : Nat) : Blk (W.drewN n) b cs t := h
theorem Blk.cell {W : World} {b : Nat} {cs : Array Value} {t : TypeId} (h : Blk W b cs t) (i : Nat) : W.cell? ⟨b, i, none⟩ = cs[i]? := by
  unfold Blk at h
  simp [World.cell?, h]
theorem Blk.free {W : World} {b : Nat} {cs : Array Value} {t : TypeId} (h : Blk W b cs t) (i : Nat) : W.frozen? ⟨b, i, none⟩ = false := by
  unfold Blk at h
  simp [World.frozen?, h]
/-- A value's three cells. -/
theorem Blk.c3 {W : World} {b : Nat} {v0 v1 v2 : Value} {t : TypeId} (h : Blk W b #[v0, v1, v2] t) :
    W.cell? ⟨b, 0, none⟩ = some v0 ∧ W.cell? ⟨b, 1, none⟩ = some v1 ∧ W.cell? ⟨b, 2, none⟩ = some v2 ∧ b < W.heap.size :=
  ⟨h.cell 0, h.cell 1, h.cell 2, h.lt⟩
theorem Blk.f3 {W : World} {b : Nat} {v0 v1 v2 : Value} {t : TypeId} (h : Blk W b #[v0, v1, v2] t) :
    W.frozen? ⟨b, 0, none⟩ = false ∧ W.frozen? ⟨b, 1, none⟩ = false ∧ W.frozen? ⟨b, 2, none⟩ = false :=
  ⟨h.free 0, h.free 1, h.free 2⟩
/-- An operation's eight cells. -/
theorem Blk.c8 {W : World} {b : Nat} {v0 v1 v2 v3 v4 v5 v6 v7 : Value} {t : TypeId} (h : Blk W b #[v0, v1, v2, v3, v4, v5, v6, v7] t) :
    W.cell? ⟨b, 0, none⟩ = some v0 ∧ W.cell? ⟨b, 1, none⟩ = some v1 ∧ W.cell? ⟨b, 2, none⟩ = some v2 ∧ W.cell? ⟨b, 3, none⟩ = some v3 ∧ W.cell? ⟨b, 4, none⟩ = some v4 ∧ W.cell? ⟨b, 5, none⟩ = some v5 ∧ W.cell? ⟨b, 6, none⟩ = some v6 ∧ W.cell? ⟨b, 7, none⟩ = some v7 ∧ b < W.heap.size :=
  ⟨h.cell 0, h.cell 1, h.cell 2, h.cell 3, h.cell 4, h.cell 5, h.cell 6, h.cell 7, h.lt⟩
theorem Blk.f8 {W : World} {b : Nat} {v0 v1 v2 v3 v4 v5 v6 v7 : Value} {t : TypeId} (h : Blk W b #[v0, v1, v2, v3, v4, v5, v6, v7] t) :
    W.frozen? ⟨b, 0, none⟩ = false ∧ W.frozen? ⟨b, 1, none⟩ = false ∧ W.frozen? ⟨b, 2, none⟩ = false ∧ W.frozen? ⟨b, 3, none⟩ = false ∧ W.frozen? ⟨b, 4, none⟩ = false ∧ W.frozen? ⟨b, 5, none⟩ = false ∧ W.frozen? ⟨b, 6, none⟩ = false ∧ W.frozen? ⟨b, 7, none⟩ = false :=
  ⟨h.free 0, h.free 1, h.free 2, h.free 3, h.free 4, h.free 5, h.free 6, h.free 7⟩
theorem below8 {B b : Nat} {w W : World} (h : Below B w W) (hb : B ≤ b) (v0 v1 v2 v3 v4 v5 v6 v7 : Value) : Below B w ((((((((W.setCell ⟨b, 0, none⟩ v0).setCell ⟨b, 1, none⟩ v1).setCell ⟨b, 2, none⟩ v2).setCell ⟨b, 3, none⟩ v3).setCell ⟨b, 4, none⟩ v4).setCell ⟨b, 5, none⟩ v5).setCell ⟨b, 6, none⟩ v6).setCell ⟨b, 7, none⟩ v7) := ((((((((h.setCell (p := ⟨b, 0, none⟩) hb v0).setCell (p := ⟨b, 1, none⟩) hb v1).setCell (p := ⟨b, 2, none⟩) hb v2).setCell (p := ⟨b, 3, none⟩) hb v3).setCell (p := ⟨b, 4, none⟩) hb v4).setCell (p := ⟨b, 5, none⟩) hb v5).setCell (p := ⟨b, 6, none⟩) hb v6).setCell (p := ⟨b, 7, none⟩) hb v7)

/-- A store into a block. -/
theorem Blk.set {W : World} {b : Nat} {cs : Array Value} {t : TypeId} (h : Blk W b cs t) (i : Nat) (v : Value) : Blk (W.setCell ⟨b, i, none⟩ v) b (cs.setIfInBounds i v) t := by
  unfold Blk at h ⊢
  simp [World.setCell, Array.getElem?_modify, h]
/-- .. into another one. -/
theorem Blk.other {W : World} {b : Nat} {cs : Array Value} {t : TypeId} (h : Blk W b cs t) {c : Nat} (hne : b ≠ c) (i : Nat) (v : Value) : Blk (W.setCell ⟨c, i, none⟩ v) b cs t :=
  (Below.heap_setCell W ⟨c, i, none⟩ v b hne).trans h
theorem Blk.other8 {W : World} {b c : Nat} {cs : Array Value} {t : TypeId} (h : Blk W b cs t) (hne : b ≠ c) (v0 v1 v2 v3 v4 v5 v6 v7 : Value) : Blk ((((((((W.setCell ⟨c, 0, none⟩ v0).setCell ⟨c, 1, none⟩ v1).setCell ⟨c, 2, none⟩ v2).setCell ⟨c, 3, none⟩ v3).setCell ⟨c, 4, none⟩ v4).setCell ⟨c, 5, none⟩ v5).setCell ⟨c, 6, none⟩ v6).setCell ⟨c, 7, none⟩ v7) b cs t := ((((((((h.other hne 0 v0).other hne 1 v1).other hne 2 v2).other hne 3 v3).other hne 4 v4).other hne 5 v5).other hne 6 v6).other hne 7 v7)
/-- Six cells. -/
theorem Blk.c6 {W : World} {b : Nat} {v0 v1 v2 v3 v4 v5 : Value} {t : TypeId} (h : Blk W b #[v0, v1, v2, v3, v4, v5] t) :
    W.cell? ⟨b, 0, none⟩ = some v0 ∧ W.cell? ⟨b, 1, none⟩ = some v1 ∧ W.cell? ⟨b, 2, none⟩ = some v2 ∧ W.cell? ⟨b, 3, none⟩ = some v3 ∧ W.cell? ⟨b, 4, none⟩ = some v4 ∧ W.cell? ⟨b, 5, none⟩ = some v5 ∧ b < W.heap.size :=
  ⟨h.cell 0, h.cell 1, h.cell 2, h.cell 3, h.cell 4, h.cell 5, h.lt⟩
theorem Blk.f6 {W : World} {b : Nat} {v0 v1 v2 v3 v4 v5 : Value} {t : TypeId} (h : Blk W b #[v0, v1, v2, v3, v4, v5] t) :
    W.frozen? ⟨b, 0, none⟩ = false ∧ W.frozen? ⟨b, 1, none⟩ = false ∧ W.frozen? ⟨b, 2, none⟩ = false ∧ W.frozen? ⟨b, 3, none⟩ = false ∧ W.frozen? ⟨b, 4, none⟩ = false ∧ W.frozen? ⟨b, 5, none⟩ = false :=
  ⟨h.free 0, h.free 1, h.free 2, h.free 3, h.free 4, h.free 5⟩
end Go.Proofs.YtjbmhbnlanbbkaaDoor

namespace Go.Proofs.YtjbmhbnlanbbkaaDoor
open Go.RowKit

/-- The cells of elements; are they of z cells each? -/
abbrev celV (l : List (Array Value)) : List Value := l.flatMap (·.toList)
def Szd (z : Nat) (l : List (Array Value)) : Prop := ∀ cs, cs ∈ l → cs.size = z
theorem celV_len {z : Nat} : ∀ (l : List (Array Value)), Szd z l → (celV l).length = l.length * z
  | [], _ => by simp
  | a :: t, h => by
    have h1 := h a (List.mem_cons_self ..)
    have h2 := celV_len t fun cs hc => h cs (List.mem_cons_of_mem _ hc)
    show (a.toList ++ celV t).length = _
    rw [List.length_append, h2, Array.length_toList, h1, List.length_cons, Nat.succ_mul]
    omega
theorem celV_get {z : Nat} : ∀ (l : List (Array Value)), Szd z l → ∀ (k j : Nat) (cs : Array Value) (v : Value), l[k]? = some cs → cs[j]? = some v → (celV l)[k * z + j]? = some v
  | [], _, k, j, cs, v, h, _ => by simp at h
  | a :: t, _, 0, j, cs, v, h, hv => by
    have e : a = cs := by simpa using h
    subst e
    have hj := (Array.getElem?_eq_some_iff.1 hv).1
    show (a.toList ++ celV t)[0 * z + j]? = _
    rw [Nat.zero_mul, Nat.zero_add, List.getElem?_append_left (by rw [Array.length_toList]; exact hj), Array.getElem?_toList]
    exact hv
  | a :: t, hs, k + 1, j, cs, v, h, hv => by
    have h1 := hs a (List.mem_cons_self ..)
    have h2 : t[k]? = some cs := by simpa using h
    have ih := celV_get t (fun cs hc => hs cs (List.mem_cons_of_mem _ hc)) k j cs v h2 hv
    show (a.toList ++ celV t)[(k + 1) * z + j]? = _
    rw [Nat.succ_mul, List.getElem?_append_right (by rw [Array.length_toList, h1]; omega), Array.length_toList, h1, show k * z + z + j - z = k * z + j by omega]
    exact ih
/-- The slice at A reads as the elements l, z cells each, in blocks below B. -/
def RdX (z B : Nat) (W : World) (A : Option Addr) (l : List (Array Value)) : Prop :=
  ∀ k cs, l[k]? = some cs → ∃ ad, A = some ad ∧ ad.block < B ∧ ∀ j v, cs[j]? = some v → W.cell? (ad.add (k * z + j)) = some v
theorem RdX.nil (z B : Nat) (W : World) (A : Option Addr) : RdX z B W A [] := fun k x h => by simp at h
theorem RdX.keep {z B C : Nat} {W W' : World} {A : Option Addr} {l : List (Array Value)} (h : RdX z B W A l) (hb : Below C W W') (hBC : B ≤ C) : RdX z B W' A l := by
  intro k x hx
  obtain ⟨ad, hA, hl, hc⟩ := h k x hx
  exact ⟨ad, hA, hl, fun j v hv => (hb.cell (by rw [add_block]; omega)).trans (hc j v hv)⟩
theorem RdX.more {z B C : Nat} {W : World} {A : Option Addr} {l : List (Array Value)} (h : RdX z B W A l) (hBC : B ≤ C) : RdX z C W A l := by
  intro k x hx
  obtain ⟨ad, hA, hl, hc⟩ := h k x hx
  exact ⟨ad, hA, by omega, hc⟩
theorem RdX.drews {z B : Nat} {W : World} {A : Option Addr} {l : List (Array Value)} (h : RdX z B W A l) (n : Nat) : RdX z B (W.drewN n) A l := h
theorem RdX.grown {z B : Nat} {W W' : World} {A : Option Addr} {l : List (Array Value)} {row : Option Nat} (h : RdX z B W A l) (hg : W.grownBy W' row) (hB : B ≤ W.heap.size) (hne : ∀ a, A = some a → some a.block ≠ row) : RdX z B W' A l := by
  intro k x hx
  obtain ⟨ad, hA, hl, hc⟩ := h k x hx
  exact ⟨ad, hA, hl, fun j v hv => (hg.cell_far _ (by rw [add_block]; omega) (by rw [add_block]; exact hne ad hA)).trans (hc j v hv)⟩
theorem addX_at (a : Addr) (i j : Nat) : a.add (i + (j + 1)) = ⟨(a.add i).block, (a.add i).off + (j + 1), none⟩ := by
  rw [← add_add', Addr.add, if_neg (by omega)]
/-- An element's cells, as a load asks for them. -/
theorem celX {W : World} {ad : Addr} {k z : Nat} {cs : Array Value} (hc : ∀ j v, cs[j]? = some v → W.cell? (ad.add (k * z + j)) = some v) :
    (∀ v, cs[0]? = some v → W.cell? (ad.add (k * z)) = some v) ∧ ∀ j v, cs[j + 1]? = some v → W.cell? ⟨(ad.add (k * z)).block, (ad.add (k * z)).off + (j + 1), none⟩ = some v :=
  ⟨fun v hv => hc 0 v hv, fun j v hv => by rw [← addX_at]; exact hc (j + 1) v hv⟩
/-- A row of elements that the call owns, in blocks from base on. -/
def OwnX (t : TypeId) (z base : Nat) (W : World) (A : Option Addr) (n c : Nat) (l : List (Array Value)) : Prop := W.ownsRow base t z (.slice A n c) n (celV l) ∧ Szd z l ∧ l.length = n
theorem OwnX.nil (t : TypeId) (z base : Nat) (W : World) : OwnX t z base W none 0 0 [] := ⟨World.ownsRow_nil W base t z, fun _ h => by simp at h, rfl⟩
theorem OwnX.len {t : TypeId} {z base : Nat} {W : World} {A : Option Addr} {n c : Nat} {l : List (Array Value)} (h : OwnX t z base W A n c l) : l.length = n := h.2.2
theorem OwnX.rd {t : TypeId} {z base : Nat} {W : World} {A : Option Addr} {n c : Nat} {l : List (Array Value)} (h : OwnX t z base W A n c l) : RdX z W.heap.size W A l := by
  intro k x hx
  have hk := (List.getElem?_eq_some_iff.1 hx).1
  have hl := h.len
  obtain ⟨g, cap, hv, _, hlt⟩ := World.ownsRow.form h.1 (by omega)
  injection hv with hv
  subst hv
  exact ⟨_, rfl, hlt, fun j v hj => h.1.cells (g := g) rfl _ _ (celV_get l h.2.1 k j x v hx hj)⟩
theorem OwnX.cap {t : TypeId} {z base : Nat} {W : World} {A : Option Addr} {n c : Nat} {l : List (Array Value)} (h : OwnX t z base W A n c l) : n ≤ c ∧ c ≤ maxLen := by
  rcases h.1.2 with ⟨hv, _⟩ | ⟨g, cap, cur, hv, _, _, h1, h2, _⟩
  · injection hv with _ h1 h2
    subst h2
    rw [h1]
    exact ⟨Nat.le_refl _, Nat.zero_le _⟩
  · injection hv with _ _ h3
    subst h3
    exact ⟨h1, h2⟩
theorem OwnX.blk {t : TypeId} {z base : Nat} {W : World} {A : Option Addr} {n c : Nat} {l : List (Array Value)} (h : OwnX t z base W A n c l) {a : Addr} (ha : A = some a) : base ≤ a.block ∧ a.block < W.heap.size := by
  subst ha
  exact World.ownsRow.lt h.1 a.block rfl
theorem OwnX.keep {t : TypeId} {z base : Nat} {W W' : World} {A : Option Addr} {n c : Nat} {l : List (Array Value)} (h : OwnX t z base W A n c l) (hb : Below W.heap.size W W') : OwnX t z base W' A n c l :=
  ⟨World.ownsRow.kept h.1 (row := none) ⟨hb.os, hb.tape, hb.output, hb.size, fun k hk _ => hb.block k hk⟩ (by cases A <;> simp [Value.ownBlock]), h.2⟩
theorem OwnX.keepG {t : TypeId} {z base : Nat} {W W' : World} {A : Option Addr} {n c : Nat} {l : List (Array Value)} {g : Nat} (h : OwnX t z base W A n c l) (hg : W.grownBy W' (some g)) (hlt : g < base) : OwnX t z base W' A n c l := by
  refine ⟨World.ownsRow.kept h.1 hg ?_, h.2⟩
  cases A with
  | none => simp [Value.ownBlock]
  | some a =>
    have := World.ownsRow.lt h.1 a.block rfl
    right
    intro e
    simp only [Value.ownBlock, Option.some.injEq] at e
    omega
theorem OwnX.less {t : TypeId} {z base b2 : Nat} {W : World} {A : Option Addr} {n c : Nat} {l : List (Array Value)} (h : OwnX t z base W A n c l) (hb : b2 ≤ base) : OwnX t z b2 W A n c l := by
  refine ⟨⟨h.1.1, ?_⟩, h.2⟩
  rcases h.1.2 with h | ⟨g, cap, cur, h1, h2, h3⟩
  · exact .inl h
  · exact .inr ⟨g, cap, cur, h1, by omega, h3⟩
/-- Append of one element onto a row of the call's own. -/
theorem run_apX {P : Program} (w : World) {t t' e' ty el : TypeId} {i : TypeInfo} {z y : Nat} {zv : Value} (ht : P.underlying t = some (.slice el)) (ht' : P.underlying t' = some (.slice e')) (hi : P.info? el = some i) (hz : i.zero = some zv) (hs : i.size = z) (hy : i.bytes = y) (hzs : zv.cells.size = z) (hz0 : 0 < z) (hy0 : y ≤ 1000)
    {base : Nat} {A : Option Addr} {ad : Addr} {n c d : Nat} {l : List (Array Value)} {x : Array Value} (hown : OwnX el z base w A n c l) (hx : x.size = z) (h1 : ∀ u ∈ x.toList, u.oneCell' = true) (hr : ∀ j v, x[j]? = some v → w.cell? (ad.add j) = some v) (hsz : n ≤ 1000000000) (hbase : base ≤ w.heap.size) :
    ∃ A' c' w', (Builtin.append_ #[t, t'] ty #[.slice A n c, .slice (some ad) 1 d]).run P w = .ok (.slice A' (n + 1) c') w' ∧ OwnX el z base w' A' (n + 1) c' (l ++ [x]) ∧ Below base w w' := by
  obtain ⟨v', w', hrun, h2, h3, _, _⟩ := run_append_own_at (P := P) w base t ty el i zv z y ht hi hz hs hy hzs hz0 (.slice A n c) n (celV l) hown.1 ad 1 d x.toList (by rw [Array.length_toList, hx, Nat.one_mul]) (fun j u hu => hr j u (by rw [← Array.getElem?_toList]; exact hu)) h1
    (by unfold maxLen; omega) (Nat.le_trans (Nat.mul_le_mul (show n + 1 ≤ 1000000001 by omega) hy0) (by omega)) hbase
  have hb : Below base w w' := (Below.refl base w).grown h3 hbase (fun k hk => (World.ownsRow.lt hown.1 k hk).1)
  have hv : ∃ A' c', v' = .slice A' (n + 1) c' := by
    rcases h2.2 with ⟨_, e2⟩ | ⟨g, cap, cur, e1, _⟩
    · omega
    · exact ⟨_, _, e1⟩
  obtain ⟨A', c', rfl⟩ := hv
  refine ⟨A', c', w', by rw [run_append_tt w ht ht']; exact hrun, ⟨?_, ?_, ?_⟩, hb⟩
  · rw [show celV (l ++ [x]) = celV l ++ x.toList by simp [celV]]
    exact h2
  · intro cs hc
    rcases List.mem_append.1 hc with h | h
    · exact hown.2.1 cs h
    · rw [List.mem_singleton.1 h]
      exact hx
  · rw [List.length_append, hown.2.2]
    rfl
section
variable {P : Program} {w : World} {t t' e' el : TypeId} {i : TypeInfo} {z y : Nat} {zv : Value} {base : Nat} {A : Option Addr} {ad : Addr} {n c d : Nat} {l : List (Array Value)} {xx : Array Value} {o : Oper} {a : Act} {Q : Exit → Act → World → Prop} {ops : Array Oper}
theorem wp_apX {K : Act → World → Prop} (s x : Operand) (ho : o.op = .call { callee := .builtin .append, args := #[s, x], argTypes := #[t, t'] })
    (ht : P.underlying t = some (.slice el)) (ht' : P.underlying t' = some (.slice e')) (hi : P.info? el = some i) (hz : i.zero = some zv) (hs : i.size = z) (hy : i.bytes = y) (hzs : zv.cells.size = z) (hz0 : 0 < z) (hy0 : y ≤ 1000)
    (h1 : a.eval s = .slice A n c) (h2 : a.eval x = .slice (some ad) 1 d) (hown : OwnX el z base w A n c l) (hx : xx.size = z) (hone : ∀ u ∈ xx.toList, u.oneCell' = true) (hr : ∀ j v, xx[j]? = some v → w.cell? (ad.add j) = some v) (hsz : n ≤ 1000000000) (hbase : base ≤ w.heap.size)
    (h : ∀ A' c' w', OwnX el z base w' A' (n + 1) c' (l ++ [xx]) → Below base w w' → K (a.put o.dst (.slice A' (n + 1) c')) w') : o.wp P a w K Q := by
  obtain ⟨A', c', w', hrun, k1, k2⟩ := run_apX (P := P) (ty := o.type) (d := d) w ht ht' hi hz hs hy hzs hz0 hy0 hown hx hone hr hsz hbase
  unfold Oper.wp execOp
  simp only [ho, resolve, invoke, builtin, Sem.run_bind, Sem.run_pure, Result.andThen_ok, List.map_toArray, List.map_cons, List.map_nil, h1, h2, hrun]
  exact h A' c' w' k1 k2
/-- .. in a plain region. -/
theorem wpList_apX {rest : List Oper} (hgd : o.guard = none) (s x : Operand) (ho : o.op = .call { callee := .builtin .append, args := #[s, x], argTypes := #[t, t'] })
    (ht : P.underlying t = some (.slice el)) (ht' : P.underlying t' = some (.slice e')) (hi : P.info? el = some i) (hz : i.zero = some zv) (hs : i.size = z) (hy : i.bytes = y) (hzs : zv.cells.size = z) (hz0 : 0 < z) (hy0 : y ≤ 1000)
    (h1 : a.eval s = .slice A n c) (h2 : a.eval x = .slice (some ad) 1 d) (hown : OwnX el z base w A n c l) (hx : xx.size = z) (hone : ∀ u ∈ xx.toList, u.oneCell' = true) (hr : ∀ j v, xx[j]? = some v → w.cell? (ad.add j) = some v) (hsz : n ≤ 1000000000) (hbase : base ≤ w.heap.size)
    (h : ∀ A' c' w', OwnX el z base w' A' (n + 1) c' (l ++ [xx]) → Below base w w' → wpList P ops Q rest (a.put o.dst (.slice A' (n + 1) c')) w') : wpList P ops Q (o :: rest) a w :=
  wpList_plain hgd fun _ hK => wp_apX s x ho ht ht' hi hz hs hy hzs hz0 hy0 h1 h2 hown hx hone hr hsz hbase fun A' c' w' k1 k2 => hK _ _ (h A' c' w' k1 k2)
/-- .. at a step of a region that draws its order. -/
theorem step_apX {K : Act → World → Prop} {E : Prop} (hgd : o.guard = none) (s x : Operand) (ho : o.op = .call { callee := .builtin .append, args := #[s, x], argTypes := #[t, t'] })
    (ht : P.underlying t = some (.slice el)) (ht' : P.underlying t' = some (.slice e')) (hi : P.info? el = some i) (hz : i.zero = some zv) (hs : i.size = z) (hy : i.bytes = y) (hzs : zv.cells.size = z) (hz0 : 0 < z) (hy0 : y ≤ 1000)
    (h1 : a.eval s = .slice A n c) (h2 : a.eval x = .slice (some ad) 1 d) (hown : OwnX el z base w A n c l) (hx : xx.size = z) (hone : ∀ u ∈ xx.toList, u.oneCell' = true) (hr : ∀ j v, xx[j]? = some v → w.cell? (ad.add j) = some v) (hsz : n ≤ 1000000000) (hbase : base ≤ w.heap.size)
    (h : ∀ A' c' w', OwnX el z base w' A' (n + 1) c' (l ++ [xx]) → Below base w w' → K (a.put o.dst (.slice A' (n + 1) c')) w') :
    if Region.wanted o (yielded ops a.tmps) = true then Oper.wp P o a w K Q else E := by
  have hw : Region.wanted o (yielded ops a.tmps) = true := by simp [Region.wanted, hgd]
  rw [if_pos hw]
  exact wp_apX s x ho ht ht' hi hz hs hy hzs hz0 hy0 h1 h2 hown hx hone hr hsz hbase h
end
/-- A block's cells, as an append asks for them. -/
theorem zeroX_at (g j : Nat) : (Addr.mk g 0 none).add j = Addr.mk g j none := by
  unfold Addr.add
  by_cases h : j = 0
  · rw [if_pos h, h]
  · rw [if_neg h]
    simp
theorem newX (W : World) (x : Array Value) (t : TypeId) : ∀ j v, x[j]? = some v → (W.alloc (.cells x t)).cell? ((⟨W.heap.size, 0, none⟩ : Addr).add j) = some v := by
  intro j v hv
  rw [zeroX_at, (blk_new W x t).cell j]
  exact hv
end Go.Proofs.YtjbmhbnlanbbkaaDoor
