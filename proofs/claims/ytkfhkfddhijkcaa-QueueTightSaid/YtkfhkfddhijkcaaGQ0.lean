/-
  WHAT IS PROVED: small lemmas by which a law's walk, whatever its arguments (slices of strings among them), closes its row: each argument reads in a world that has only grown as it did; a slice of strings opened (own work, over any program). · what string(..) makes of one byte in a block of its own, and of a row of bytes that the call owns. · words for slices of bytes (own work): a slice that reads as a list of bytes, nil let in; one that the call owns; append of such a slice onto such a row, in a plain region and in one that draws its order. Over any program that bears the types named. · an argument that is a slice of bytes, or a uint64, opened (own work, over any program that bears the types named). · the document's Good of values, named goodB here, for every value. No condition.
-/
import Derived.Test.YtkfhkfddhijkcaaStrs
import Derived.ProofKit
import Derived.OpenShut
import Derived.Below
import Derived.Carry
import Derived.ChangeSame
import Derived.Deep.Strs
import Derived.Test.YtkfhkfddhijkcaaBase
import Derived.Laws.IdiomStrings
import Derived.Laws.BytesArg
import Derived.Laws.OwnMore
import Derived.Laws.AppendOwn
import Derived.Maps.AppendAt
import Derived.Deep.AppendLies
import Derived.RegionTactic
import Derived.OwnWalk
import Derived.Deep.Draws
import Derived.ChangeSlices
namespace Go.Proofs.Ytkfhkfddhijkcaa
open Go.RowKit Go.WideShapes Go.ChangeShapes

section
variable {H : Type} {enc : TypeId × Value → H} {P : Program}
/-- All arguments read in a grown world as they did. -/
theorem trodAll_grown (hl : laidOutB P = true) {W W' : World} (hb : Below W.heap.size W W') {sp : Nat → Bool} :
    ∀ (ts : List TypeId) (vs : List Value) (ds : List (DataW H)) (ps : List MemPlace), (∀ t ∈ ts, P.readableRec t = true ∧ t < P.types.size) → (∀ x ∈ ps, x.block < W.heap.size) → (∀ x ∈ ps, sp x.block = true) →
      DataW.TrodAll enc P W 0 (fun _ => true) true ts vs ds ps → DataW.TrodAll enc P W' 0 sp true ts vs ds ps
  | [], [], [], _, _, _, _, h => h
  | t :: ts, v :: vs, d :: ds, ps, hr, hlt, hsp, h => by
    obtain ⟨p, q, h1, h2, rfl⟩ := h
    refine ⟨p, q, ?_, trodAll_grown hl hb ts vs ds q (fun t ht => hr t (List.mem_cons_of_mem _ ht)) (fun x hx => hlt x (List.mem_append_right _ hx)) (fun x hx => hsp x (List.mem_append_right _ hx)) h2, rfl⟩
    exact WideElems.Trod_stays hl (hr t List.mem_cons_self).1 (hr t List.mem_cons_self).2 h1 (fun x hx => hb.same (hlt x (List.mem_append_left _ hx))) (fun x hx => hsp x (List.mem_append_left _ hx))
  | [], _ :: _, _, _, _, _, _, h => by cases h
  | [], [], _ :: _, _, _, _, _, h => by cases h
  | _ :: _, [], _, _, _, _, _, h => by cases h
  | _ :: _, _ :: _, [], _, _, _, _, h => by cases h

theorem all_readable {ts : List TypeId} (h : (ts.all fun t => P.readableRec t && decide (t < P.types.size)) = true) : ∀ t ∈ ts, P.readableRec t = true ∧ t < P.types.size := by
  intro t ht
  have := List.all_eq_true.1 h t ht
  rw [Bool.and_eq_true, decide_eq_true_eq] at this
  exact this

/-- A law that answers true in a world that has only grown. -/
theorem post_true {f : Func} {s : ChangeSpec} {apart fresh handsOn again : Bool} {W W' : World} {args : Array Value} {tb : TypeId} {ds : List (DataW H)} {before : List MemPlace} (hl : laidOutB P = true)
    (hall : (f.params.toList.all fun t => P.readableRec t && decide (t < P.types.size)) = true) (htb : P.underlying tb = some .bool) (hrt : f.resultTypes = #[tb])
    (hW : DataW.Whole enc P f.params.toList s.vars apart W args.toList ds [] before) (hvars : s.vars = [])
    (hspec : (s.fn H (ds ++ [])).results = [.lit (.bool true)] ∧ (s.fn H (ds ++ [])).args = ds ∧ (s.fn H (ds ++ [])).vars = []) (hb : Below W.heap.size W W') :
    s.post enc P f apart fresh handsOn again W args (.bool true) W' := by
  have hlt : ∀ p ∈ before, p.block < W.heap.size := fun p hp => hW.lt p hp
  have hW2 := hW
  obtain ⟨p, q, hA0, hV, rfl, hfz, hnd⟩ := hW
  have hA : DataW.TrodAll enc P W 0 (fun _ => true) true f.params.toList args.toList ds p := hA0
  rw [hvars] at hV
  obtain ⟨_, rfl⟩ := trodVars_none hV
  rw [List.append_nil] at hW2 hlt hfz hnd
  have hargs : ∀ sp : Nat → Bool, (∀ x ∈ p, sp x.block = true) → DataW.TrodAll enc P W' 0 sp true f.params.toList args.toList (s.fn H (ds ++ [])).args p := fun sp hsp => by
    rw [hspec.2.1]
    exact trodAll_grown hl hb _ _ _ _ (all_readable hall) hlt hsp hA
  have hold : ∀ x ∈ p, (fun b => decide (b < W.heap.size)) x.block = true := fun x hx => by simpa using hlt x hx
  have hres : ∀ (b : Nat) (sp : Nat → Bool) (hd : Bool), DataW.TrodAll enc P W' b sp hd f.resultTypes.toList ((Value.bool true).resultList f.resultTypes.size) (s.fn H (ds ++ [])).results [] := fun b sp hd => by
    rw [hspec.1, hrt]
    exact trodAll_cons_mk (shut_bool htb _) trodAll_mk0
  have hvs : ∀ sp : Nat → Bool, DataW.TrodVars enc P W' sp s.vars (s.fn H (ds ++ [])).vars [] := fun sp => by
    rw [hvars, hspec.2.2]
    exact rfl
  refine ⟨ds, [], p, [], p, [], hW2, hres _ _ _, hargs _ hold, hvs _, World.keptBut_mono (fun x hx => ⟨hx, ?_⟩) (hb.frame (· ∈ p)), fun _ => ?_⟩
  · exact Or.inr (Or.inl hx)
  · refine ⟨ok_one hrt rfl (okWide_bool_mk htb _), _, _, ([] ++ p) ++ [], ⟨[] ++ p, [], trodAll_append (hargs _ (fun _ _ => rfl)) (hres _ _ _), hvs _, rfl, ?_, ?_⟩, ?_⟩
    · intro b off hp
      have hin : MemPlace.cell b off ∈ p := by simpa using hp
      rw [hb.frozen (hlt _ hin)]
      exact hfz b off hin
    · intro ha
      simpa using hnd ha
    · intro x hx _
      simpa using hx
end

section
variable {H : Type} {enc : TypeId × Value → H}
theorem cellsStr1 : Try.prog.cellsOf 9 = 1 := by kernel_rfl
set_option maxRecDepth 100000 in
/-- An argument that is a slice of strings, opened. -/
theorem open_strl {t : TypeId} (ht : Try.prog.underlying t = some (.slice 9)) {W : World} {r : Reach} {b0 : Nat} {v : Value} {d : DataW H} {p : List MemPlace} (hv : Value.okWide Try.prog W r b0 t v) (h : DataW.Trod enc Try.prog W 0 (fun _ => true) true t v d p) :
    ∃ (A : Option Addr) (n c : Nat) (l : List ByteArray), v = .slice A n c ∧ l.length = n ∧ RdS W.heap.size W A l ∧ n ≤ maxLen ∧ ∀ x, x ∈ l → x.size ≤ maxLen := by
  obtain ⟨A, n, c, rfl⟩ := okWide_slice ht hv
  obtain ⟨fuel, hf⟩ := h
  rcases Go.Deep.open_strs ht Try.underlying9 cellsStr1 hf with ⟨hcs, _⟩ | ⟨a, len, cap, m, Sx, hcs, _, hl, hm, hmm, _, hcell⟩
  · simp [Value.cells] at hcs
    obtain ⟨rfl, rfl, rfl⟩ := hcs
    exact ⟨none, 0, 0, [], rfl, rfl, RdS.nil _ _ _, Nat.zero_le _, fun x hx => by simp at hx⟩
  · simp [Value.cells] at hcs
    obtain ⟨rfl, rfl, rfl⟩ := hcs
    have hle : n ≤ m := by rw [hmm]; simp; omega
    refine ⟨some a, n, c, (List.range n).map Sx, rfl, by simp, fun k x hx => ?_, by omega, fun x hx => ?_⟩
    · have hk : k < n := by
        have := (List.getElem?_eq_some_iff.1 hx).1
        simpa using this
      have e : x = Sx k := by
        rw [List.getElem?_map, List.getElem?_range hk] at hx
        injection hx with hx
        exact hx.symm
      subst e
      have hc := (hcell k (by omega)).1
      have hb := World.block_lt_of_cell? W _ hc
      rw [add_block] at hb
      exact ⟨a, rfl, hb, hc⟩
    · obtain ⟨k, hk, rfl⟩ := List.mem_map.1 hx
      exact (hcell k (by have := List.mem_range.1 hk; omega)).2
end
end Go.Proofs.Ytkfhkfddhijkcaa

namespace Go.Proofs.Ytkfhkfddhijkcaa
open Go.RowKit

/-- string of one byte. -/
theorem conv_one (W : World) (n : Int) (c : UInt8) (h : n = (c.toNat : Int)) :
    (convert 105 9 (.slice (some ⟨W.heap.size, 0, none⟩) 1 1)).run Try.prog (W.alloc (.cells #[.int .u8 n] 5)) = .ok (.string ⟨#[c]⟩) (W.alloc (.cells #[.int .u8 n] 5)) := by
  have := run_convert_bytes_back (P := Try.prog) (W.alloc (.cells #[.int .u8 n] 5)) 105 9 5 ⟨W.heap.size, 0, none⟩ 1 [c] Try.underlying105 Try.underlying5 Try.underlying9 (by
    intro j hj
    have hj0 : j = 0 := by simpa using hj
    subst hj0
    subst h
    have e : (⟨W.heap.size, 0, none⟩ : Addr).add 0 = ⟨W.heap.size, 0, none⟩ := by simp [Addr.add]
    rw [e]
    go_simp)
  simpa using this
/-- string of a row of the call's own. -/
theorem conv_own (W : World) (B : Nat) (v : Value) (l : List UInt8) (h : W.ownsRow B 5 1 v l.length (Lib.byteCells l)) :
    (convert 105 9 v).run Try.prog W = .ok (.string ⟨l.toArray⟩) W := by
  rcases h.2 with ⟨rfl, h0⟩ | ⟨g, cap, cur, rfl, _⟩
  · have : l = [] := List.length_eq_zero_iff.1 h0
    subst this
    exact run_convert_bytes_nil W 105 5 Try.underlying105 Try.underlying5 0 0 9 Try.underlying9
  · refine run_convert_bytes_back W 105 9 5 ⟨g, 0, none⟩ cap l Try.underlying105 Try.underlying5 Try.underlying9 ?_
    intro j hj
    have e : (⟨g, 0, none⟩ : Addr).add j = ⟨g, j, none⟩ := by unfold Addr.add; split <;> simp_all
    rw [e, h.cellAt j (by omega)]
    simp [Lib.byteCells, hj]

theorem str_add' {a b : ByteArray} (ha : a.size ≤ 100000) (hb : b.size ≤ 100000) : Op.stringOp .add a b = pure (.string (a ++ b)) := by
  unfold Op.stringOp
  have e : IntKind.i64.max = 9223372036854775807 := rfl
  simp only
  rw [if_neg]
  rw [e]
  omega
end Go.Proofs.Ytkfhkfddhijkcaa

namespace Go.Proofs.Ytkfhkfddhijkcaa
open Go.RowKit

/-- The cells of bytes. -/
abbrev bytV (l : List UInt8) : List Value := l.map fun c => Value.int .u8 (c.toNat : Int)
/-- The slice at A reads as the bytes l, in blocks below B. -/
def RdB (B : Nat) (W : World) (A : Option Addr) (l : List UInt8) : Prop :=
  ∀ k x, l[k]? = some x → ∃ ad, A = some ad ∧ ad.block < B ∧ W.cell? (ad.add k) = some (.int .u8 (x.toNat : Int))
theorem RdB.nil (B : Nat) (W : World) (A : Option Addr) : RdB B W A [] := fun k x h => by simp at h
theorem RdB.keep {B C : Nat} {W W' : World} {A : Option Addr} {l : List UInt8} (h : RdB B W A l) (hb : Below C W W') (hBC : B ≤ C) : RdB B W' A l := by
  intro k x hx
  obtain ⟨ad, hA, hl, hc⟩ := h k x hx
  exact ⟨ad, hA, hl, (hb.cell (by rw [add_block]; omega)).trans hc⟩
theorem RdB.more {B C : Nat} {W : World} {A : Option Addr} {l : List UInt8} (h : RdB B W A l) (hBC : B ≤ C) : RdB C W A l := by
  intro k x hx
  obtain ⟨ad, hA, hl, hc⟩ := h k x hx
  exact ⟨ad, hA, by omega, hc⟩
theorem RdB.draws {B : Nat} {W : World} {A : Option Addr} {l : List UInt8} (h : RdB B W A l) (n : Nat) : RdB B (W.drewN n) A l := h
theorem RdB.at_ {B : Nat} {W : World} {A : Option Addr} {l : List UInt8} (h : RdB B W A l) {k : Nat} (hk : k < l.length) : ∃ ad, A = some ad ∧ ad.block < B ∧ W.cell? (ad.add k) = some (.int .u8 (l[k].toNat : Int)) :=
  h k _ (List.getElem?_eq_getElem hk)
theorem RdB.take {B : Nat} {W : World} {A : Option Addr} {l : List UInt8} (h : RdB B W A l) (m : Nat) : RdB B W A (l.take m) := by
  intro k x hx
  rw [List.getElem?_take] at hx
  split at hx
  · exact h k x hx
  · cases hx
/-- .. cut off at its front, as the model has it. -/
theorem RdB.drop {B : Nat} {W : World} {A : Option Addr} {l : List UInt8} (h : RdB B W A l) {m c : Nat} (hc : l.length ≤ c) : RdB B W (if c = m then A else A.map (·.add m)) (l.drop m) := by
  intro k x hx
  rw [List.getElem?_drop] at hx
  have hlt := (List.getElem?_eq_some_iff.1 hx).1
  obtain ⟨ad, rfl, hl, hcell⟩ := h _ x hx
  rw [if_neg (by omega)]
  exact ⟨ad.add m, rfl, by rw [add_block]; exact hl, by rw [add_add']; exact hcell⟩

theorem RdB.grown {B : Nat} {W W' : World} {A : Option Addr} {l : List UInt8} {row : Option Nat} (h : RdB B W A l) (hg : W.grownBy W' row) (hB : B ≤ W.heap.size) (hne : ∀ a, A = some a → some a.block ≠ row) : RdB B W' A l := by
  intro k x hx
  obtain ⟨ad, hA, hl, hc⟩ := h k x hx
  exact ⟨ad, hA, hl, (hg.cell_far _ (by rw [add_block]; omega) (by rw [add_block]; exact hne ad hA)).trans hc⟩
/-- A row of bytes that the call owns, in blocks from base on. -/
def OwnB (base : Nat) (W : World) (A : Option Addr) (n c : Nat) (l : List UInt8) : Prop := W.ownsRow base 5 1 (.slice A n c) n (bytV l)
theorem OwnB.nil (base : Nat) (W : World) : OwnB base W none 0 0 [] := World.ownsRow_nil W base 5 1
theorem OwnB.len {base : Nat} {W : World} {A : Option Addr} {n c : Nat} {l : List UInt8} (h : OwnB base W A n c l) : l.length = n := by
  have := h.1
  simpa using this
theorem OwnB.rd {base : Nat} {W : World} {A : Option Addr} {n c : Nat} {l : List UInt8} (h : OwnB base W A n c l) : RdB W.heap.size W A l := by
  intro k x hx
  have hk := (List.getElem?_eq_some_iff.1 hx).1
  have hl := h.len
  obtain ⟨g, cap, hv, _, hlt⟩ := World.ownsRow.form h (by omega)
  injection hv with hv
  subst hv
  exact ⟨_, rfl, hlt, h.cells (g := g) rfl k _ (by rw [List.getElem?_map, hx]; rfl)⟩
theorem OwnB.cap {base : Nat} {W : World} {A : Option Addr} {n c : Nat} {l : List UInt8} (h : OwnB base W A n c l) : n ≤ c ∧ c ≤ maxLen := by
  rcases h.2 with ⟨hv, _⟩ | ⟨g, cap, cur, hv, _, _, h1, h2, _⟩
  · injection hv with _ h1 h2
    subst h2
    rw [h1]
    exact ⟨Nat.le_refl _, Nat.zero_le _⟩
  · injection hv with _ _ h3
    subst h3
    exact ⟨h1, h2⟩
theorem OwnB.blk {base : Nat} {W : World} {A : Option Addr} {n c : Nat} {l : List UInt8} (h : OwnB base W A n c l) {a : Addr} (ha : A = some a) : base ≤ a.block ∧ a.block < W.heap.size := by
  subst ha
  exact World.ownsRow.lt h a.block rfl
theorem OwnB.keep {base : Nat} {W W' : World} {A : Option Addr} {n c : Nat} {l : List UInt8} (h : OwnB base W A n c l) (hb : Below W.heap.size W W') : OwnB base W' A n c l :=
  World.ownsRow.kept h (row := none) ⟨hb.os, hb.tape, hb.output, hb.size, fun k hk _ => hb.block k hk⟩ (by cases A <;> simp [Value.ownBlock])
theorem OwnB.draws {base : Nat} {W : World} {A : Option Addr} {n c : Nat} {l : List UInt8} (h : OwnB base W A n c l) (k : Nat) : OwnB base (W.drewN k) A n c l := h
theorem OwnB.less {base b2 : Nat} {W : World} {A : Option Addr} {n c : Nat} {l : List UInt8} (h : OwnB base W A n c l) (hb : b2 ≤ base) : OwnB b2 W A n c l := by
  refine ⟨h.1, ?_⟩
  rcases h.2 with h | ⟨g, cap, cur, h1, h2, h3⟩
  · exact .inl h
  · exact .inr ⟨g, cap, cur, h1, by omega, h3⟩
/-- A literal's row. -/
theorem OwnB.lit (W : World) {base n : Nat} (cs : Array Value) (l : List UInt8) (hcs : cs.toList = bytV l) (hn : l.length = n) (hb : base ≤ W.heap.size) (hm : n ≤ maxLen) : OwnB base (W.alloc (.cells cs 5)) (some ⟨W.heap.size, 0, none⟩) n n l := by
  subst hn
  unfold OwnB
  rw [← hcs]
  exact World.ownsRow_lit W cs l.length hb hm (by rw [← Array.length_toList, hcs]; simp)

theorem OwnB.drew_ {base : Nat} {W : World} {A : Option Addr} {n c : Nat} {l : List UInt8} (h : OwnB base W A n c l) : OwnB base W.drew A n c l := h
theorem RdB.drew_ {B : Nat} {W : World} {A : Option Addr} {l : List UInt8} (h : RdB B W A l) : RdB B W.drew A l := h
/-- One byte in a block of its own. -/
theorem rdOneB (w : World) (x : UInt8) (g : Nat) (h : w.heap.size = g) : RdB (g + 1) (w.alloc (.cells #[.int .u8 (x.toNat : Int)] 5)) (some ⟨g, 0, none⟩) [x] := by
  subst h
  intro k y hy
  have hk : k = 0 := by
    have := (List.getElem?_eq_some_iff.1 hy).1
    simp at this
    omega
  subst hk
  injection hy with hy
  subst hy
  exact ⟨_, rfl, by simp, cell_one_new w (.int .u8 (x.toNat : Int)) 5 0 _ rfl⟩
theorem rdNowB {H : Nat} {W w' : World} {A : Option Addr} {l : List UInt8} {p : Addr} {v : Value} (h : RdB H W A l) (hS : w'.cell? p = some v ∧ Below H W w') : RdB H w' A l := h.keep hS.2 (Nat.le_refl _)
theorem szNowB {H : Nat} {W w' : World} {p : Addr} {v : Value} (hS : w'.cell? p = some v ∧ Below H W w') : W.heap.size ≤ w'.heap.size := hS.2.size
theorem byt_info : (Try.prog.info? 5).map (fun i => (i.zero, i.size, i.bytes)) = some (some (.int .u8 0), 1, 1) := by kernel_rfl

theorem byts_one (l : List UInt8) : ∀ u ∈ bytV l, u.oneCell' = true := by
  intro u hu
  obtain ⟨x, _, rfl⟩ := List.mem_map.1 hu
  rfl
/-- Append of what reads as bytes onto a row of the call's own. -/
theorem run_apB {P : Program} (w : World) {t t' e' ty : TypeId} {i : TypeInfo} (ht : P.underlying t = some (.slice 5)) (ht' : P.underlying t' = some (.slice e')) (hi : P.info? 5 = some i) (hz : i.zero = some (.int .u8 0)) (hs : i.size = 1) (hy : i.bytes = 1)
    {base B : Nat} {A A2 : Option Addr} {n c m d : Nat} {l l2 : List UInt8} (hown : OwnB base w A n c l) (hr : RdB B w A2 l2) (hm : l2.length = m) (hsz : n + m ≤ 1099511627776) (hbase : base ≤ w.heap.size) :
    ∃ A' c' w', (Builtin.append_ #[t, t'] ty #[.slice A n c, .slice A2 m d]).run P w = .ok (.slice A' (n + m) c') w' ∧ OwnB base w' A' (n + m) c' (l ++ l2) ∧ Below base w w' ∧ w.grownBy w' (A.map (·.block)) := by
  subst hm
  cases A2 with
  | none =>
    have h0 : l2 = [] := by
      cases l2 with
      | nil => rfl
      | cons x r =>
        obtain ⟨ad, he, _⟩ := hr 0 x rfl
        cases he
    subst h0
    refine ⟨A, c, w, ?_, by simpa using hown, Below.refl _ _, World.grownBy.refl w _⟩
    rw [run_append_tt w ht ht']
    have hcap := hown.cap
    have hcond : n + 0 ≤ c := by omega
    have hne : ∀ W : World, (underlying t).run P W = .ok (.slice 5) W := fun W => run_underlying ht W
    cases A with
    | none => simp [Builtin.append_, run_underlying ht, sizeOf, typeInfo, hi, Builtin.lenOf, Builtin.firstCells, hcap.1]
    | some a => simp [Builtin.append_, run_underlying ht, sizeOf, typeInfo, hi, Builtin.lenOf, Builtin.firstCells, hcap.1, storeCells]
  | some ad =>
    have hc : ∀ j u, (bytV l2)[j]? = some u → w.cell? (ad.add j) = some u := by
      intro j u hu
      rw [List.getElem?_map] at hu
      cases hx : l2[j]? with
      | none => rw [hx] at hu; cases hu
      | some x =>
        rw [hx] at hu
        injection hu with hu
        subst hu
        obtain ⟨a2, he, _, hcell⟩ := hr j x hx
        injection he with he
        subst he
        exact hcell
    obtain ⟨v', w', hrun, h2, h3, _, _⟩ := run_append_own_at (P := P) w base t ty 5 i (.int .u8 0) 1 1 ht hi hz hs hy rfl (by omega) (.slice A n c) n (bytV l) hown ad l2.length d (bytV l2) (by simp) hc (byts_one l2)
      (by unfold maxLen; omega) (by omega) hbase
    have hb : Below base w w' := (Below.refl base w).grown h3 hbase (fun k hk => (World.ownsRow.lt hown k hk).1)
    have hv : ∃ A' c', v' = .slice A' (n + l2.length) c' := by
      rcases h2.2 with ⟨e1, e2⟩ | ⟨g, cap, cur, e1, _⟩
      · exact ⟨none, 0, by rw [e1, e2]⟩
      · exact ⟨_, _, e1⟩
    obtain ⟨A', c', rfl⟩ := hv
    refine ⟨A', c', w', by rw [run_append_tt w ht ht']; exact hrun, ?_, hb, by cases A <;> exact h3⟩
    unfold OwnB
    rw [show bytV (l ++ l2) = bytV l ++ bytV l2 from List.map_append]
    exact h2
section
variable {P : Program} {w : World} {t t' e' : TypeId} {i : TypeInfo} {base B : Nat} {A A2 : Option Addr} {n c m d : Nat} {l l2 : List UInt8} {o : Oper} {a : Act} {Q : Exit → Act → World → Prop} {ops : Array Oper}
/-- .. as an operation. -/
theorem wp_apB {K : Act → World → Prop} (s x : Operand) (ho : o.op = .call { callee := .builtin .append, args := #[s, x], argTypes := #[t, t'] })
    (ht : P.underlying t = some (.slice 5)) (ht' : P.underlying t' = some (.slice e')) (hi : P.info? 5 = some i) (hz : i.zero = some (.int .u8 0)) (hs : i.size = 1) (hy : i.bytes = 1)
    (h1 : a.eval s = .slice A n c) (h2 : a.eval x = .slice A2 m d) (hown : OwnB base w A n c l) (hr : RdB B w A2 l2) (hm : l2.length = m) (N : Nat) (hN : n + m = N) (hsz : n + m ≤ 1099511627776) (hbase : base ≤ w.heap.size)
    (h : ∀ A' c' w', OwnB base w' A' N c' (l ++ l2) → Below base w w' → w.grownBy w' (A.map (·.block)) → K (a.put o.dst (.slice A' N c')) w') : o.wp P a w K Q := by
  subst hN
  obtain ⟨A', c', w', hrun, k1, k2, k3⟩ := run_apB (P := P) (ty := o.type) (d := d) w ht ht' hi hz hs hy hown hr hm hsz hbase
  unfold Oper.wp execOp
  simp only [ho, resolve, invoke, builtin, Sem.run_bind, Sem.run_pure, Result.andThen_ok, List.map_toArray, List.map_cons, List.map_nil, h1, h2, hrun]
  exact h A' c' w' k1 k2 k3
/-- .. in a plain region. -/
theorem wpList_apB {rest : List Oper} (hgd : o.guard = none) (s x : Operand) (ho : o.op = .call { callee := .builtin .append, args := #[s, x], argTypes := #[t, t'] })
    (ht : P.underlying t = some (.slice 5)) (ht' : P.underlying t' = some (.slice e')) (hi : P.info? 5 = some i) (hz : i.zero = some (.int .u8 0)) (hs : i.size = 1) (hy : i.bytes = 1)
    (h1 : a.eval s = .slice A n c) (h2 : a.eval x = .slice A2 m d) (hown : OwnB base w A n c l) (hr : RdB B w A2 l2) (hm : l2.length = m) (N : Nat) (hN : n + m = N) (hsz : n + m ≤ 1099511627776) (hbase : base ≤ w.heap.size)
    (h : ∀ A' c' w', OwnB base w' A' N c' (l ++ l2) → Below base w w' → w.grownBy w' (A.map (·.block)) → wpList P ops Q rest (a.put o.dst (.slice A' N c')) w') : wpList P ops Q (o :: rest) a w :=
  wpList_plain hgd fun _ hK => wp_apB s x ho ht ht' hi hz hs hy h1 h2 hown hr hm N hN hsz hbase fun A' c' w' k1 k2 k3 => hK _ _ (h A' c' w' k1 k2 k3)
/-- .. at a step of a region that draws its order. -/
theorem step_apB {K : Act → World → Prop} {E : Prop} (hgd : o.guard = none) (s x : Operand) (ho : o.op = .call { callee := .builtin .append, args := #[s, x], argTypes := #[t, t'] })
    (ht : P.underlying t = some (.slice 5)) (ht' : P.underlying t' = some (.slice e')) (hi : P.info? 5 = some i) (hz : i.zero = some (.int .u8 0)) (hs : i.size = 1) (hy : i.bytes = 1)
    (h1 : a.eval s = .slice A n c) (h2 : a.eval x = .slice A2 m d) (hown : OwnB base w A n c l) (hr : RdB B w A2 l2) (hm : l2.length = m) (N : Nat) (hN : n + m = N) (hsz : n + m ≤ 1099511627776) (hbase : base ≤ w.heap.size)
    (h : ∀ A' c' w', OwnB base w' A' N c' (l ++ l2) → Below base w w' → w.grownBy w' (A.map (·.block)) → K (a.put o.dst (.slice A' N c')) w') :
    if Region.wanted o (yielded ops a.tmps) = true then Oper.wp P o a w K Q else E := by
  have hw : Region.wanted o (yielded ops a.tmps) = true := by simp [Region.wanted, hgd]
  rw [if_pos hw]
  exact wp_apB s x ho ht ht' hi hz hs hy h1 h2 hown hr hm N hN hsz hbase h
end
end Go.Proofs.Ytkfhkfddhijkcaa

namespace Go.Proofs.Ytkfhkfddhijkcaa
open Go.RowKit Go.WideShapes Go.ChangeShapes

section
variable {H : Type} {enc : TypeId × Value → H}
theorem cellsB1 : Try.prog.cellsOf 5 = 1 := by kernel_rfl
theorem wf_u8 {z : Int} (h : (Lit.int .u8 z).wf = true) : z = ((UInt8.ofNat z.toNat).toNat : Int) := by
  have e1 : IntKind.u8.min = 0 := rfl
  have e2 : IntKind.u8.max = 255 := rfl
  simp [Lit.wf, e1, e2] at h
  rw [UInt8.toNat_ofNat']
  omega
theorem wf_i64 {n : Int} (h : (Lit.int .i64 n).wf = true) : -9223372036854775808 ≤ n ∧ n ≤ 9223372036854775807 := by
  have e1 : IntKind.i64.min = -9223372036854775808 := rfl
  have e2 : IntKind.i64.max = 9223372036854775807 := rfl
  simp [Lit.wf, e1, e2] at h
  omega
set_option maxRecDepth 100000 in
/-- An argument that is a slice of bytes, opened. -/
theorem open_bytl {t : TypeId} (ht : Try.prog.underlying t = some (.slice 5)) {W : World} {r : Reach} {b0 : Nat} {v : Value} {d : DataW H} {p : List MemPlace} (hv : Value.okWide Try.prog W r b0 t v) (h : DataW.Trod enc Try.prog W 0 (fun _ => true) true t v d p) :
    ∃ (A : Option Addr) (n c : Nat) (l : List UInt8), v = .slice A n c ∧ l.length = n ∧ RdB W.heap.size W A l ∧ n ≤ c ∧ c ≤ maxLen := by
  obtain ⟨A, n, c, rfl⟩ := okWide_slice ht hv
  obtain ⟨fuel, hf⟩ := h
  rcases open_ints ht Try.underlying5 cellsB1 hf with ⟨hcs, _⟩ | ⟨a, len, cap, zs, hcs, _, hl, hm, hmm, _, hcell, hwf⟩
  · simp [Value.cells] at hcs
    obtain ⟨rfl, rfl, rfl⟩ := hcs
    exact ⟨none, 0, 0, [], rfl, rfl, RdB.nil _ _ _, Nat.le_refl _, Nat.zero_le _⟩
  · simp [Value.cells] at hcs
    obtain ⟨rfl, rfl, rfl⟩ := hcs
    have hle : n ≤ zs.length := by rw [hmm]; simp; omega
    refine ⟨some a, n, c, (zs.take n).map (fun z => UInt8.ofNat z.toNat), rfl, by rw [List.length_map, List.length_take]; omega, fun k x hx => ?_, hl, hm⟩
    have hk : k < n := by
      have := (List.getElem?_eq_some_iff.1 hx).1
      rw [List.length_map, List.length_take] at this
      omega
    have hkz : k < zs.length := by omega
    have hc := hcell k hkz
    have e : zs.getD k 0 = zs[k] := by rw [List.getD_eq_getElem?_getD, List.getElem?_eq_getElem hkz]; rfl
    rw [List.getElem?_map, List.getElem?_take, if_pos hk, List.getElem?_eq_getElem hkz] at hx
    injection hx with hx
    subst hx
    have hb := World.block_lt_of_cell? W _ hc
    rw [add_block] at hb
    refine ⟨a, rfl, hb, ?_⟩
    rw [hc, e]
    have := wf_u8 (hwf zs[k] (List.getElem_mem hkz))
    rw [← this]
set_option maxRecDepth 100000 in
/-- An argument that is a uint64, opened. -/
theorem open_u64 {P : Program} {t : TypeId} (ht : P.underlying t = some (.int .u64)) {W : World} {base : Nat} {spare : Nat → Bool} {held : Bool} {r : Reach} {b0 : Nat} {v : Value} {d : DataW H} {p : List MemPlace} (hv : Value.okWide P W r b0 t v) (h : DataW.Trod enc P W base spare held t v d p) :
    ∃ x : Nat, v = .int .u64 x ∧ x < 18446744073709551616 := by
  obtain ⟨n, rfl, _, _, hw⟩ := open_int ht hv h
  have e1 : IntKind.u64.min = 0 := rfl
  have e2 : IntKind.u64.max = 18446744073709551615 := rfl
  simp [Lit.wf, e1, e2] at hw
  exact ⟨n.toNat, by rw [Int.toNat_of_nonneg hw.1], by omega⟩
end
end Go.Proofs.Ytkfhkfddhijkcaa

namespace Go.Proofs.Ytkfhkfddhijkcaa
open Go.RowKit

def goodB (k n : Int) (s : ByteArray) : Bool :=
  decide ((k = 0 ∧ n = 0 ∧ s.size = 0) ∨ (k = 1 ∧ s.size = 0) ∨ (k = 2 ∧ n = 0 ∧ s.size ≤ 40))

theorem isEmpty_iff (s : ByteArray) : s.toList.isEmpty = true ↔ s.size = 0 := by
  have : s.data.toList.length = s.size := Array.length_toList
  rw [ByteArray.toList_eq, List.isEmpty_iff, ← List.length_eq_zero_iff, this]

set_option maxHeartbeats 1000000 in
theorem refGood_any (k n : Int) (s : ByteArray) (w : World) (hs : s.size ≤ maxLen) :
    Calls Try.prog 85 #[.agg #[.int .i64 k, .int .i64 n, .string s]] w fun e w' => e = .returned (.bool (goodB k n s)) ∧ Below w.heap.size w w' := by
  unfold maxLen at hs
  go_enter Try.func85, Try.ntmps85
  go_wp2
  all_goals go_ret
  all_goals refine ⟨ret_bool ?_, b0 _ _⟩
  all_goals unfold goodB
  all_goals rw [Bool.eq_iff_iff]
  all_goals simp only [beq_iff_eq, beq_eq_false_iff_ne, decide_eq_true_eq, isEmpty_iff, Bool.false_eq_true, false_iff] at *
  all_goals omega

end Go.Proofs.Ytkfhkfddhijkcaa
