/-
  WHAT IS PROVED: slices.ContainsFunc (and IndexFunc) of rows of structs tells whether a predicate holds of one of them, for every function value that answers so and leaves what lay there. Conditions: those typed in each theorem. · '==' and '!=' of arrays of twelve numbers. Conditions: none. · the cells of a letter that lies in a block of its own (the code's type). Over this program · words for a region that is one chain of guarded operations which only read: its frame as a list of what was written, each slot's value under the guard that it has; one law an operation. Over any program of these types.
-/
import Derived.Test.YtpjleeeligahaaaGreatDoorGQ5
import Derived.Test.YtpjleeeligahaaaGreatDoorGQ2
import Derived.Shelf.Abstract
import Derived.Test.YtpjleeeligahaaaGreatDoorGQ6
import Derived.ChangeKeysEq
import Derived.Deep.MidRow
import Derived.Test.YtpjleeeligahaaaGreatDoorGQ0
import Derived.Test.YtpjleeeligahaaaGreatDoorGQ1
namespace Go.Proofs.YtpjleeeligahaaaGreatDoor
open Go.RowKit

/-- A letter's number: which cell it points to, and from where to where it may be. -/
structure Nm where
  (b j : Nat)
  (lo hi : Int)
abbrev Nm.cells (x : Nm) : Array Value := #[.pointer (some ⟨x.b, x.j, none⟩), .int .i64 x.lo, .int .i64 x.hi]
theorem rdw_x {B : Nat} {W : World} {A : Option Addr} {l : List Wr} (h : RdW B W A l) : RdX 10 B W A (l.map Wr.cells) := by
  intro k cs hk
  obtain ⟨x, hx, rfl⟩ : ∃ x, l[k]? = some x ∧ x.cells = cs := by simpa using hk
  exact h k x hx
theorem mapx_get {α : Type} {f : α → Array Value} {l : List α} {k : Nat} {x : α} (h : l[k]? = some x) : (l.map f)[k]? = some (f x) := by simp [h]
/-- A function value that tells of each of these whether p holds, in whatever world that keeps w. -/
def PredX {α : Type} (cells : α → Array Value) (g : Nat) (lb : Array Value) (p : α → Bool) (l : List α) (w : World) : Prop :=
  ∀ x, x ∈ l → ∀ W, Below w.heap.size w W → Calls Tryz.prog g (#[.agg (cells x)] ++ lb) W fun e W' => e = .returned (.bool (p x)) ∧ Below W.heap.size W W'
theorem take_add {α : Type} {p : α → Bool} {l : List α} {k : Nat} {x : α} (h : ∀ y, y ∈ l.take k → p y = false) (hx : l[k]? = some x) (hb : p x = false) : ∀ y, y ∈ l.take (k + 1) → p y = false := fun y hy => by
  rw [List.take_add_one, hx] at hy
  rcases List.mem_append.1 hy with h' | h'
  · exact h y h'
  · have e : y = x := by simpa using h'
    rw [e]
    exact hb
theorem any_not {α : Type} {p : α → Bool} {l : List α} {n : Nat} (h : ∀ y, y ∈ l.take n → p y = false) (hn : l.length ≤ n) : l.any p = false := by
  rw [List.any_eq_false]
  intro x hx
  rw [h x (by rw [List.take_of_length_le hn]; exact hx)]
  exact Bool.false_ne_true

set_option maxRecDepth 100000 in
set_option maxHeartbeats 2000000 in
theorem idxN_any (g : Nat) (lb : Array Value) (eg : ∀ args w, (callFunc g args).run Tryz.prog w = .ok (.enter g args) w) (p : Nm → Bool) (A : Option Addr) (n c : Nat) (l : List Nm) (w : World) (hn : l.length = n) (hr : RdX 3 w.heap.size w A (l.map Nm.cells)) (hm : n ≤ maxLen) (hp : PredX Nm.cells g lb p l w) :
    Calls Tryz.prog 132 #[.slice A n c, .func (.func g) #[] lb] w fun e w' => (∃ z : Int, e = .returned (.int .i64 z) ∧ decide (0 ≤ z) = l.any p) ∧ Below w.heap.size w w' := by
  unfold maxLen at hm
  have HN := Lib.hid hn
  have HP := Lib.hid hp
  have HR := Lib.hid (fun W (h : Below w.heap.size w W) => hr.keep (W' := W) h (Nat.le_refl _))
  clear hn hp hr
  go_enter Tryz.func132, Tryz.ntmps132
  go_wp2_with fail
  go_loopw [5, 8] (fun _ i wr => ∃ k : Nat, k ≤ n ∧ i = .int .i64 k ∧ Hid (∀ x, x ∈ l.take k → p x = false) ∧ Below w.heap.size w wr) (fun _ i _ => n - (intOf i).toNat)
  case atStart => exact ⟨0, Nat.zero_le _, rfl, fun x hx => by simp at hx, Below.refl _ _⟩
  case round =>
    obtain ⟨k, hk, rfl, hA, hB⟩ := hrel
    by_cases hlt : k < n
    · obtain ⟨x, hx⟩ : ∃ x, l[k]? = some x := ⟨_, List.getElem?_eq_getElem (show k < l.length by have := HN.out; omega)⟩
      obtain ⟨ad, rfl, _, hc⟩ := HR.out wr hB k _ (mapx_get hx)
      have i1 : (0 : Int) ≤ (k : Int) := by omega
      have i2 : (k : Int) < (n : Int) := by omega
      have HX := Lib.hid hx
      have HG := Lib.hid (HP.out x (List.mem_of_getElem? hx))
      clear hx
      have q0 : wr.cell? (ad.add (k * 3)) = some (.pointer (some ⟨x.b, x.j, none⟩)) := (celX hc).1 _ rfl
      have q1 : wr.cell? ⟨(ad.add (k * 3)).block, (ad.add (k * 3)).off + 1, none⟩ = some (.int .i64 x.lo) := (celX hc).2 0 _ rfl
      have q2 : wr.cell? ⟨(ad.add (k * 3)).block, (ad.add (k * 3)).off + 2, none⟩ = some (.int .i64 x.hi) := (celX hc).2 1 _ rfl
      clear hc
      cases hb : p x with
      | true =>
        rw [hb] at HG
        have R : Hid (decide (0 ≤ (k : Int)) = l.any p) := by
          show _ = _
          rw [decide_eq_true i1]
          exact (List.any_eq_true.2 ⟨x, List.mem_of_getElem? HX.out, hb⟩).symm
        clear hb
        go_wp2_with (go_at_fn g; refine (HG.out wr hB).mono ?_; rintro e w2 ⟨rfl, hb2⟩)
        go_ret
        exact ⟨⟨_, rfl, R.out⟩, bt hB hb2⟩
      | false =>
        rw [hb] at HG
        have HA2 := Lib.hid (take_add hA.out HX.out hb)
        clear hb hA
        go_wp2_with (go_at_fn g; refine (HG.out wr hB).mono ?_; rintro e w2 ⟨rfl, hb2⟩)
        go_roundw
        case rel => exact ⟨k + 1, by omega, by go_num, HA2, bt hB hb2⟩
        case measure => simp [intOf]; omega
    · have hq : ¬ (k : Int) < (n : Int) := by omega
      have R : Hid (decide ((0 : Int) ≤ -1) = l.any p) := by
        show _ = _
        rw [any_not hA.out (by have := HN.out; omega)]
        rfl
      clear hA
      go_wp2_with fail
      go_ret
      exact ⟨⟨_, rfl, R.out⟩, hB⟩
set_option maxRecDepth 100000 in
theorem contN_any (g : Nat) (lb : Array Value) (eg : ∀ args w, (callFunc g args).run Tryz.prog w = .ok (.enter g args) w) (p : Nm → Bool) (A : Option Addr) (n c : Nat) (l : List Nm) (w : World) (hn : l.length = n) (hr : RdX 3 w.heap.size w A (l.map Nm.cells)) (hm : n ≤ maxLen) (hp : PredX Nm.cells g lb p l w) :
    Calls Tryz.prog 90 #[.slice A n c, .func (.func g) #[] lb] w fun e w' => e = .returned (.bool (l.any p)) ∧ Below w.heap.size w w' := by
  have HI := Lib.hid (idxN_any g lb eg p A n c l w hn hr hm hp)
  generalize l.any p = v at HI ⊢
  clear hn hr hm hp
  go_enter Tryz.func90, Tryz.ntmps90
  go_wp2_with fail
  refine HI.out.mono ?_
  rintro e w2 ⟨⟨z, rfl, hz⟩, hb2⟩
  have HZ := Lib.hid hz
  clear hz
  go_wp2_with fail
  go_ret
  exact ⟨ret_bool HZ.out, hb2⟩

set_option maxRecDepth 100000 in
set_option maxHeartbeats 2000000 in
theorem idxW_any (g : Nat) (lb : Array Value) (eg : ∀ args w, (callFunc g args).run Tryz.prog w = .ok (.enter g args) w) (p : Wr → Bool) (A : Option Addr) (n c : Nat) (l : List Wr) (w : World) (hn : l.length = n) (hr : RdX 10 w.heap.size w A (l.map Wr.cells)) (hm : n ≤ maxLen) (hp : PredX Wr.cells g lb p l w) :
    Calls Tryz.prog 165 #[.slice A n c, .func (.func g) #[] lb] w fun e w' => (∃ z : Int, e = .returned (.int .i64 z) ∧ decide (0 ≤ z) = l.any p) ∧ Below w.heap.size w w' := by
  unfold maxLen at hm
  have HN := Lib.hid hn
  have HP := Lib.hid hp
  have HR := Lib.hid (fun W (h : Below w.heap.size w W) => hr.keep (W' := W) h (Nat.le_refl _))
  clear hn hp hr
  go_enter Tryz.func165, Tryz.ntmps165
  go_wp2_with fail
  go_loopw [5, 8] (fun _ i wr => ∃ k : Nat, k ≤ n ∧ i = .int .i64 k ∧ Hid (∀ x, x ∈ l.take k → p x = false) ∧ Below w.heap.size w wr) (fun _ i _ => n - (intOf i).toNat)
  case atStart => exact ⟨0, Nat.zero_le _, rfl, fun x hx => by simp at hx, Below.refl _ _⟩
  case round =>
    obtain ⟨k, hk, rfl, hA, hB⟩ := hrel
    by_cases hlt : k < n
    · obtain ⟨x, hx⟩ : ∃ x, l[k]? = some x := ⟨_, List.getElem?_eq_getElem (show k < l.length by have := HN.out; omega)⟩
      obtain ⟨ad, rfl, _, hc⟩ := HR.out wr hB k _ (mapx_get hx)
      have i1 : (0 : Int) ≤ (k : Int) := by omega
      have i2 : (k : Int) < (n : Int) := by omega
      have HX := Lib.hid hx
      have HG := Lib.hid (HP.out x (List.mem_of_getElem? hx))
      clear hx
      have q0 : wr.cell? (ad.add (k * 10)) = some (.int .i64 x.dev) := (celX hc).1 _ rfl
      have q1 : wr.cell? ⟨(ad.add (k * 10)).block, (ad.add (k * 10)).off + 1, none⟩ = some (.int .i64 x.seq) := (celX hc).2 0 _ rfl
      have q2 : wr.cell? ⟨(ad.add (k * 10)).block, (ad.add (k * 10)).off + 2, none⟩ = some (.int .i64 x.K) := (celX hc).2 1 _ rfl
      have q3 : wr.cell? ⟨(ad.add (k * 10)).block, (ad.add (k * 10)).off + 3, none⟩ = some (.string x.ky) := (celX hc).2 2 _ rfl
      have q4 : wr.cell? ⟨(ad.add (k * 10)).block, (ad.add (k * 10)).off + 4, none⟩ = some (.int .i64 x.ka) := (celX hc).2 3 _ rfl
      have q5 : wr.cell? ⟨(ad.add (k * 10)).block, (ad.add (k * 10)).off + 5, none⟩ = some (.int .i64 x.na) := (celX hc).2 4 _ rfl
      have q6 : wr.cell? ⟨(ad.add (k * 10)).block, (ad.add (k * 10)).off + 6, none⟩ = some (.string x.sa) := (celX hc).2 5 _ rfl
      have q7 : wr.cell? ⟨(ad.add (k * 10)).block, (ad.add (k * 10)).off + 7, none⟩ = some (.int .i64 x.kb) := (celX hc).2 6 _ rfl
      have q8 : wr.cell? ⟨(ad.add (k * 10)).block, (ad.add (k * 10)).off + 8, none⟩ = some (.int .i64 x.nb) := (celX hc).2 7 _ rfl
      have q9 : wr.cell? ⟨(ad.add (k * 10)).block, (ad.add (k * 10)).off + 9, none⟩ = some (.string x.sb) := (celX hc).2 8 _ rfl
      clear hc
      cases hb : p x with
      | true =>
        rw [hb] at HG
        have R : Hid (decide (0 ≤ (k : Int)) = l.any p) := by
          show _ = _
          rw [decide_eq_true i1]
          exact (List.any_eq_true.2 ⟨x, List.mem_of_getElem? HX.out, hb⟩).symm
        clear hb
        go_wp2_with (go_at_fn g; refine (HG.out wr hB).mono ?_; rintro e w2 ⟨rfl, hb2⟩)
        go_ret
        exact ⟨⟨_, rfl, R.out⟩, bt hB hb2⟩
      | false =>
        rw [hb] at HG
        have HA2 := Lib.hid (take_add hA.out HX.out hb)
        clear hb hA
        go_wp2_with (go_at_fn g; refine (HG.out wr hB).mono ?_; rintro e w2 ⟨rfl, hb2⟩)
        go_roundw
        case rel => exact ⟨k + 1, by omega, by go_num, HA2, bt hB hb2⟩
        case measure => simp [intOf]; omega
    · have hq : ¬ (k : Int) < (n : Int) := by omega
      have R : Hid (decide ((0 : Int) ≤ -1) = l.any p) := by
        show _ = _
        rw [any_not hA.out (by have := HN.out; omega)]
        rfl
      clear hA
      go_wp2_with fail
      go_ret
      exact ⟨⟨_, rfl, R.out⟩, hB⟩
set_option maxRecDepth 100000 in
theorem contW_any (g : Nat) (lb : Array Value) (eg : ∀ args w, (callFunc g args).run Tryz.prog w = .ok (.enter g args) w) (p : Wr → Bool) (A : Option Addr) (n c : Nat) (l : List Wr) (w : World) (hn : l.length = n) (hr : RdX 10 w.heap.size w A (l.map Wr.cells)) (hm : n ≤ maxLen) (hp : PredX Wr.cells g lb p l w) :
    Calls Tryz.prog 137 #[.slice A n c, .func (.func g) #[] lb] w fun e w' => e = .returned (.bool (l.any p)) ∧ Below w.heap.size w w' := by
  have HI := Lib.hid (idxW_any g lb eg p A n c l w hn hr hm hp)
  generalize l.any p = v at HI ⊢
  clear hn hr hm hp
  go_enter Tryz.func137, Tryz.ntmps137
  go_wp2_with fail
  refine HI.out.mono ?_
  rintro e w2 ⟨⟨z, rfl, hz⟩, hb2⟩
  have HZ := Lib.hid hz
  clear hz
  go_wp2_with fail
  go_ret
  exact ⟨ret_bool HZ.out, hb2⟩

set_option maxRecDepth 100000 in
set_option maxHeartbeats 2000000 in
theorem idxQ_any (g : Nat) (lb : Array Value) (eg : ∀ args w, (callFunc g args).run Tryz.prog w = .ok (.enter g args) w) (p : Ln → Bool) (A : Option Addr) (n c : Nat) (l : List Ln) (w : World) (hn : l.length = n) (hr : RdX 11 w.heap.size w A (l.map Ln.cells)) (hm : n ≤ maxLen) (hp : PredX Ln.cells g lb p l w) :
    Calls Tryz.prog 131 #[.slice A n c, .func (.func g) #[] lb] w fun e w' => (∃ z : Int, e = .returned (.int .i64 z) ∧ decide (0 ≤ z) = l.any p) ∧ Below w.heap.size w w' := by
  unfold maxLen at hm
  have HN := Lib.hid hn
  have HP := Lib.hid hp
  have HR := Lib.hid (fun W (h : Below w.heap.size w W) => hr.keep (W' := W) h (Nat.le_refl _))
  clear hn hp hr
  go_enter Tryz.func131, Tryz.ntmps131
  go_wp2_with fail
  go_loopw [5, 8] (fun _ i wr => ∃ k : Nat, k ≤ n ∧ i = .int .i64 k ∧ Hid (∀ x, x ∈ l.take k → p x = false) ∧ Below w.heap.size w wr) (fun _ i _ => n - (intOf i).toNat)
  case atStart => exact ⟨0, Nat.zero_le _, rfl, fun x hx => by simp at hx, Below.refl _ _⟩
  case round =>
    obtain ⟨k, hk, rfl, hA, hB⟩ := hrel
    by_cases hlt : k < n
    · obtain ⟨x, hx⟩ : ∃ x, l[k]? = some x := ⟨_, List.getElem?_eq_getElem (show k < l.length by have := HN.out; omega)⟩
      obtain ⟨ad, rfl, _, hc⟩ := HR.out wr hB k _ (mapx_get hx)
      have i1 : (0 : Int) ≤ (k : Int) := by omega
      have i2 : (k : Int) < (n : Int) := by omega
      have HX := Lib.hid hx
      have HG := Lib.hid (HP.out x (List.mem_of_getElem? hx))
      clear hx
      have q0 : wr.cell? (ad.add (k * 11)) = some (.int .i64 x.pl) := (celX hc).1 _ rfl
      have q1 : wr.cell? ⟨(ad.add (k * 11)).block, (ad.add (k * 11)).off + 1, none⟩ = some (.int .i64 x.w.dev) := (celX hc).2 0 _ rfl
      have q2 : wr.cell? ⟨(ad.add (k * 11)).block, (ad.add (k * 11)).off + 2, none⟩ = some (.int .i64 x.w.seq) := (celX hc).2 1 _ rfl
      have q3 : wr.cell? ⟨(ad.add (k * 11)).block, (ad.add (k * 11)).off + 3, none⟩ = some (.int .i64 x.w.K) := (celX hc).2 2 _ rfl
      have q4 : wr.cell? ⟨(ad.add (k * 11)).block, (ad.add (k * 11)).off + 4, none⟩ = some (.string x.w.ky) := (celX hc).2 3 _ rfl
      have q5 : wr.cell? ⟨(ad.add (k * 11)).block, (ad.add (k * 11)).off + 5, none⟩ = some (.int .i64 x.w.ka) := (celX hc).2 4 _ rfl
      have q6 : wr.cell? ⟨(ad.add (k * 11)).block, (ad.add (k * 11)).off + 6, none⟩ = some (.int .i64 x.w.na) := (celX hc).2 5 _ rfl
      have q7 : wr.cell? ⟨(ad.add (k * 11)).block, (ad.add (k * 11)).off + 7, none⟩ = some (.string x.w.sa) := (celX hc).2 6 _ rfl
      have q8 : wr.cell? ⟨(ad.add (k * 11)).block, (ad.add (k * 11)).off + 8, none⟩ = some (.int .i64 x.w.kb) := (celX hc).2 7 _ rfl
      have q9 : wr.cell? ⟨(ad.add (k * 11)).block, (ad.add (k * 11)).off + 9, none⟩ = some (.int .i64 x.w.nb) := (celX hc).2 8 _ rfl
      have q10 : wr.cell? ⟨(ad.add (k * 11)).block, (ad.add (k * 11)).off + 10, none⟩ = some (.string x.w.sb) := (celX hc).2 9 _ rfl
      clear hc
      cases hb : p x with
      | true =>
        rw [hb] at HG
        have R : Hid (decide (0 ≤ (k : Int)) = l.any p) := by
          show _ = _
          rw [decide_eq_true i1]
          exact (List.any_eq_true.2 ⟨x, List.mem_of_getElem? HX.out, hb⟩).symm
        clear hb
        go_wp2_with (go_at_fn g; refine (HG.out wr hB).mono ?_; rintro e w2 ⟨rfl, hb2⟩)
        go_ret
        exact ⟨⟨_, rfl, R.out⟩, bt hB hb2⟩
      | false =>
        rw [hb] at HG
        have HA2 := Lib.hid (take_add hA.out HX.out hb)
        clear hb hA
        go_wp2_with (go_at_fn g; refine (HG.out wr hB).mono ?_; rintro e w2 ⟨rfl, hb2⟩)
        go_roundw
        case rel => exact ⟨k + 1, by omega, by go_num, HA2, bt hB hb2⟩
        case measure => simp [intOf]; omega
    · have hq : ¬ (k : Int) < (n : Int) := by omega
      have R : Hid (decide ((0 : Int) ≤ -1) = l.any p) := by
        show _ = _
        rw [any_not hA.out (by have := HN.out; omega)]
        rfl
      clear hA
      go_wp2_with fail
      go_ret
      exact ⟨⟨_, rfl, R.out⟩, hB⟩
set_option maxRecDepth 100000 in
theorem contQ_any (g : Nat) (lb : Array Value) (eg : ∀ args w, (callFunc g args).run Tryz.prog w = .ok (.enter g args) w) (p : Ln → Bool) (A : Option Addr) (n c : Nat) (l : List Ln) (w : World) (hn : l.length = n) (hr : RdX 11 w.heap.size w A (l.map Ln.cells)) (hm : n ≤ maxLen) (hp : PredX Ln.cells g lb p l w) :
    Calls Tryz.prog 88 #[.slice A n c, .func (.func g) #[] lb] w fun e w' => e = .returned (.bool (l.any p)) ∧ Below w.heap.size w w' := by
  have HI := Lib.hid (idxQ_any g lb eg p A n c l w hn hr hm hp)
  generalize l.any p = v at HI ⊢
  clear hn hr hm hp
  go_enter Tryz.func88, Tryz.ntmps88
  go_wp2_with fail
  refine HI.out.mono ?_
  rintro e w2 ⟨⟨z, rfl, hz⟩, hb2⟩
  have HZ := Lib.hid hz
  clear hz
  go_wp2_with fail
  go_ret
  exact ⟨ret_bool HZ.out, hb2⟩
end Go.Proofs.YtpjleeeligahaaaGreatDoor

namespace Go.Proofs.YtpjleeeligahaaaGreatDoor
open Go.RowKit

theorem if_ok {p : Prop} [Decidable p] {W : World} {b : Bool} {r : Result Bool} (h : r = .ok b W) : (if p then r else .ok false W) = .ok (decide p && b) W := by
  by_cases hp : p <;> simp [hp, h]
theorem if_ok1 {p : Prop} [Decidable p] {W : World} : (if p then Result.ok true W else .ok false W) = .ok (decide p) W := by
  by_cases hp : p <;> simp [hp]
theorem int_infoT : (Tryz.prog.info? 3).map (fun i => (i.zero, i.size, i.bytes)) = some (some (.int .i64 0), 1, 8) := by kernel_rfl
theorem cells_intT : Tryz.prog.cellsOf 3 = 1 := by kernel_rfl
theorem la_eqI (v0 v1 v2 v3 v4 v5 v6 v7 v8 v9 v10 v11 u0 u1 u2 u3 u4 u5 u6 u7 u8 u9 u10 u11 : Int) (W : World) : (Op.equalIn 10000 55 (.agg (laI v0 v1 v2 v3 v4 v5 v6 v7 v8 v9 v10 v11)) (.agg (laI u0 u1 u2 u3 u4 u5 u6 u7 u8 u9 u10 u11))).run Tryz.prog W = .ok (decide (laL v0 v1 v2 v3 v4 v5 v6 v7 v8 v9 v10 v11 = laL u0 u1 u2 u3 u4 u5 u6 u7 u8 u9 u10 u11)) W := by
  obtain ⟨i0, hi0, _, _, _⟩ := info_parts int_infoT
  rw [run_equalIn_array W 9999 _ _ Tryz.underlying55 hi0, cells_intT, show List.range 12 = [0, 1, 2, 3, 4, 5, 6, 7, 8, 9, 10, 11] from rfl]
  simp only [Op.eqItems]
  go_simp
  iterate 11 (refine if_ok ?_)
  exact if_ok1
theorem la_neqA (v0 v1 v2 v3 v4 v5 v6 v7 v8 v9 v10 v11 u0 u1 u2 u3 u4 u5 u6 u7 u8 u9 u10 u11 : Int) (W : World) : (binOp .neq 55 (.agg (laI v0 v1 v2 v3 v4 v5 v6 v7 v8 v9 v10 v11)) (.agg (laI u0 u1 u2 u3 u4 u5 u6 u7 u8 u9 u10 u11))).run Tryz.prog W = .ok (.bool (!decide (laL v0 v1 v2 v3 v4 v5 v6 v7 v8 v9 v10 v11 = laL u0 u1 u2 u3 u4 u5 u6 u7 u8 u9 u10 u11))) W := by
  rw [run_neq_struct, la_eqI]
  rfl
theorem la_eqlA (v0 v1 v2 v3 v4 v5 v6 v7 v8 v9 v10 v11 u0 u1 u2 u3 u4 u5 u6 u7 u8 u9 u10 u11 : Int) (W : World) : (binOp .eql 55 (.agg (laI v0 v1 v2 v3 v4 v5 v6 v7 v8 v9 v10 v11)) (.agg (laI u0 u1 u2 u3 u4 u5 u6 u7 u8 u9 u10 u11))).run Tryz.prog W = .ok (.bool (decide (laL v0 v1 v2 v3 v4 v5 v6 v7 v8 v9 v10 v11 = laL u0 u1 u2 u3 u4 u5 u6 u7 u8 u9 u10 u11))) W := by
  rw [run_eql_struct, la_eqI]
  rfl
theorem la_eqIL (v0 v1 v2 v3 v4 v5 v6 v7 v8 v9 v10 v11 u0 u1 u2 u3 u4 u5 u6 u7 u8 u9 u10 u11 : Int) (W : World) : (Op.equalIn 10000 56 (.agg (laI v0 v1 v2 v3 v4 v5 v6 v7 v8 v9 v10 v11)) (.agg (laI u0 u1 u2 u3 u4 u5 u6 u7 u8 u9 u10 u11))).run Tryz.prog W = .ok (decide (laL v0 v1 v2 v3 v4 v5 v6 v7 v8 v9 v10 v11 = laL u0 u1 u2 u3 u4 u5 u6 u7 u8 u9 u10 u11)) W := by
  obtain ⟨i0, hi0, _, _, _⟩ := info_parts int_infoT
  rw [run_equalIn_array W 9999 _ _ Tryz.underlying56 hi0, cells_intT, show List.range 12 = [0, 1, 2, 3, 4, 5, 6, 7, 8, 9, 10, 11] from rfl]
  simp only [Op.eqItems]
  go_simp
  iterate 11 (refine if_ok ?_)
  exact if_ok1
theorem la_neqAL (v0 v1 v2 v3 v4 v5 v6 v7 v8 v9 v10 v11 u0 u1 u2 u3 u4 u5 u6 u7 u8 u9 u10 u11 : Int) (W : World) : (binOp .neq 56 (.agg (laI v0 v1 v2 v3 v4 v5 v6 v7 v8 v9 v10 v11)) (.agg (laI u0 u1 u2 u3 u4 u5 u6 u7 u8 u9 u10 u11))).run Tryz.prog W = .ok (.bool (!decide (laL v0 v1 v2 v3 v4 v5 v6 v7 v8 v9 v10 v11 = laL u0 u1 u2 u3 u4 u5 u6 u7 u8 u9 u10 u11))) W := by
  rw [run_neq_struct, la_eqIL]
  rfl
theorem la_eqlAL (v0 v1 v2 v3 v4 v5 v6 v7 v8 v9 v10 v11 u0 u1 u2 u3 u4 u5 u6 u7 u8 u9 u10 u11 : Int) (W : World) : (binOp .eql 56 (.agg (laI v0 v1 v2 v3 v4 v5 v6 v7 v8 v9 v10 v11)) (.agg (laI u0 u1 u2 u3 u4 u5 u6 u7 u8 u9 u10 u11))).run Tryz.prog W = .ok (.bool (decide (laL v0 v1 v2 v3 v4 v5 v6 v7 v8 v9 v10 v11 = laL u0 u1 u2 u3 u4 u5 u6 u7 u8 u9 u10 u11))) W := by
  rw [run_eql_struct, la_eqIL]
  rfl
theorem li_eqL {a b : List Int} (ha : a.length = 12) (hb : b.length = 12) (W : World) : (binOp .eql 56 (.agg (liA a)) (.agg (liA b))).run Tryz.prog W = .ok (.bool (decide (a = b))) W := by
  obtain ⟨a0, a1, a2, a3, a4, a5, a6, a7, a8, a9, a10, a11, rfl⟩ := li_cases ha
  obtain ⟨b0, b1, b2, b3, b4, b5, b6, b7, b8, b9, b10, b11, rfl⟩ := li_cases hb
  exact la_eqlAL a0 a1 a2 a3 a4 a5 a6 a7 a8 a9 a10 a11 b0 b1 b2 b3 b4 b5 b6 b7 b8 b9 b10 b11 W
theorem li_eqA {a b : List Int} (ha : a.length = 12) (hb : b.length = 12) (W : World) : (binOp .eql 55 (.agg (liA a)) (.agg (liA b))).run Tryz.prog W = .ok (.bool (decide (a = b))) W := by
  obtain ⟨a0, a1, a2, a3, a4, a5, a6, a7, a8, a9, a10, a11, rfl⟩ := li_cases ha
  obtain ⟨b0, b1, b2, b3, b4, b5, b6, b7, b8, b9, b10, b11, rfl⟩ := li_cases hb
  exact la_eqlA a0 a1 a2 a3 a4 a5 a6 a7 a8 a9 a10 a11 b0 b1 b2 b3 b4 b5 b6 b7 b8 b9 b10 b11 W
theorem li_eqC (i j : Nat) {x y : List Int} (hx : x.length = 12) (hy : y.length = 12) (W : World) : ((do eqGuard .eql 56 (.tmp i) (.tmp j) (.agg (liA x)) (.agg (liA y)); binOp .eql 56 (.agg (liA x)) (.agg (liA y))) : Sem Value).run Tryz.prog W = .ok (.bool (decide (x = y))) W := by
  obtain ⟨a0, a1, a2, a3, a4, a5, a6, a7, a8, a9, a10, a11, rfl⟩ := li_cases hx
  obtain ⟨b0, b1, b2, b3, b4, b5, b6, b7, b8, b9, b10, b11, rfl⟩ := li_cases hy
  have h := la_eqIL a0 a1 a2 a3 a4 a5 a6 a7 a8 a9 a10 a11 b0 b1 b2 b3 b4 b5 b6 b7 b8 b9 b10 b11 W
  show ((do eqGuard .eql 56 (.tmp i) (.tmp j) (.agg (laI a0 a1 a2 a3 a4 a5 a6 a7 a8 a9 a10 a11)) (.agg (laI b0 b1 b2 b3 b4 b5 b6 b7 b8 b9 b10 b11)); binOp .eql 56 (.agg (laI a0 a1 a2 a3 a4 a5 a6 a7 a8 a9 a10 a11)) (.agg (laI b0 b1 b2 b3 b4 b5 b6 b7 b8 b9 b10 b11))) : Sem Value).run Tryz.prog W = _
  generalize laI a0 a1 a2 a3 a4 a5 a6 a7 a8 a9 a10 a11 = a at h ⊢
  generalize laI b0 b1 b2 b3 b4 b5 b6 b7 b8 b9 b10 b11 = c at h ⊢
  go_simp
theorem li_eqCA (i j : Nat) {x y : List Int} (hx : x.length = 12) (hy : y.length = 12) (W : World) : ((do eqGuard .eql 55 (.tmp i) (.tmp j) (.agg (liA x)) (.agg (liA y)); binOp .eql 55 (.agg (liA x)) (.agg (liA y))) : Sem Value).run Tryz.prog W = .ok (.bool (decide (x = y))) W := by
  obtain ⟨a0, a1, a2, a3, a4, a5, a6, a7, a8, a9, a10, a11, rfl⟩ := li_cases hx
  obtain ⟨b0, b1, b2, b3, b4, b5, b6, b7, b8, b9, b10, b11, rfl⟩ := li_cases hy
  have h := la_eqI a0 a1 a2 a3 a4 a5 a6 a7 a8 a9 a10 a11 b0 b1 b2 b3 b4 b5 b6 b7 b8 b9 b10 b11 W
  show ((do eqGuard .eql 55 (.tmp i) (.tmp j) (.agg (laI a0 a1 a2 a3 a4 a5 a6 a7 a8 a9 a10 a11)) (.agg (laI b0 b1 b2 b3 b4 b5 b6 b7 b8 b9 b10 b11)); binOp .eql 55 (.agg (laI a0 a1 a2 a3 a4 a5 a6 a7 a8 a9 a10 a11)) (.agg (laI b0 b1 b2 b3 b4 b5 b6 b7 b8 b9 b10 b11))) : Sem Value).run Tryz.prog W = _
  generalize laI a0 a1 a2 a3 a4 a5 a6 a7 a8 a9 a10 a11 = a at h ⊢
  generalize laI b0 b1 b2 b3 b4 b5 b6 b7 b8 b9 b10 b11 = c at h ⊢
  go_simp
end Go.Proofs.YtpjleeeligahaaaGreatDoor

namespace Go.Proofs.YtpjleeeligahaaaGreatDoor
open Go.RowKit

abbrev tLt : TypeId := 58
section
variable {W : World} {b : Nat} {x : Lt} {h : Hn}
theorem lc_a0 (W : World) (b : Nat) : (Instr.fieldAt 58 (.pointer (some ⟨b, 0, none⟩)) 0).run Tryz.prog W = .ok (.pointer (some ⟨b, 0, none⟩)) W := by kernel_rfl
theorem lc_a1 (W : World) (b : Nat) : (Instr.fieldAt 58 (.pointer (some ⟨b, 0, none⟩)) 1).run Tryz.prog W = .ok (.pointer (some ⟨b, 1, none⟩)) W := by kernel_rfl
theorem lc_a2 (W : World) (b : Nat) : (Instr.fieldAt 58 (.pointer (some ⟨b, 0, none⟩)) 2).run Tryz.prog W = .ok (.pointer (some ⟨b, 2, none⟩)) W := by kernel_rfl
theorem lc_a3 (W : World) (b : Nat) : (Instr.fieldAt 58 (.pointer (some ⟨b, 0, none⟩)) 3).run Tryz.prog W = .ok (.pointer (some ⟨b, 3, none⟩)) W := by kernel_rfl
theorem lc_a4 (W : World) (b : Nat) : (Instr.fieldAt 58 (.pointer (some ⟨b, 0, none⟩)) 4).run Tryz.prog W = .ok (.pointer (some ⟨b, 4, none⟩)) W := by kernel_rfl
theorem lc_a5 (W : World) (b : Nat) : (Instr.fieldAt 58 (.pointer (some ⟨b, 0, none⟩)) 5).run Tryz.prog W = .ok (.pointer (some ⟨b, 5, none⟩)) W := by kernel_rfl
theorem lc_a6 (W : World) (b : Nat) : (Instr.fieldAt 58 (.pointer (some ⟨b, 0, none⟩)) 6).run Tryz.prog W = .ok (.pointer (some ⟨b, 6, none⟩)) W := by kernel_rfl
theorem lc_a7 (W : World) (b : Nat) : (Instr.fieldAt 58 (.pointer (some ⟨b, 0, none⟩)) 7).run Tryz.prog W = .ok (.pointer (some ⟨b, 7, none⟩)) W := by kernel_rfl
theorem lc_a8 (W : World) (b : Nat) : (Instr.fieldAt 58 (.pointer (some ⟨b, 0, none⟩)) 8).run Tryz.prog W = .ok (.pointer (some ⟨b, 8, none⟩)) W := by kernel_rfl
theorem lc_a9 (W : World) (b : Nat) : (Instr.fieldAt 58 (.pointer (some ⟨b, 0, none⟩)) 9).run Tryz.prog W = .ok (.pointer (some ⟨b, 9, none⟩)) W := by kernel_rfl
theorem lc_a10 (W : World) (b : Nat) : (Instr.fieldAt 58 (.pointer (some ⟨b, 0, none⟩)) 10).run Tryz.prog W = .ok (.pointer (some ⟨b, 10, none⟩)) W := by kernel_rfl
theorem lc_a11 (W : World) (b : Nat) : (Instr.fieldAt 58 (.pointer (some ⟨b, 0, none⟩)) 11).run Tryz.prog W = .ok (.pointer (some ⟨b, 11, none⟩)) W := by kernel_rfl
theorem lc_a12 (W : World) (b : Nat) : (Instr.fieldAt 58 (.pointer (some ⟨b, 0, none⟩)) 12).run Tryz.prog W = .ok (.pointer (some ⟨b, 12, none⟩)) W := by kernel_rfl
theorem lc_a13 (W : World) (b : Nat) : (Instr.fieldAt 58 (.pointer (some ⟨b, 0, none⟩)) 13).run Tryz.prog W = .ok (.pointer (some ⟨b, 13, none⟩)) W := by kernel_rfl
theorem lc_a14 (W : World) (b : Nat) : (Instr.fieldAt 58 (.pointer (some ⟨b, 0, none⟩)) 14).run Tryz.prog W = .ok (.pointer (some ⟨b, 14, none⟩)) W := by kernel_rfl
theorem lc_a15 (W : World) (b : Nat) : (Instr.fieldAt 58 (.pointer (some ⟨b, 0, none⟩)) 15).run Tryz.prog W = .ok (.pointer (some ⟨b, 15, none⟩)) W := by kernel_rfl
theorem lc_a16 (W : World) (b : Nat) : (Instr.fieldAt 58 (.pointer (some ⟨b, 0, none⟩)) 16).run Tryz.prog W = .ok (.pointer (some ⟨b, 16, none⟩)) W := by kernel_rfl
theorem lc_a17 (W : World) (b : Nat) : (Instr.fieldAt 58 (.pointer (some ⟨b, 0, none⟩)) 17).run Tryz.prog W = .ok (.pointer (some ⟨b, 17, none⟩)) W := by kernel_rfl
theorem lc_l0 (hX : Blk W b (ltI x h) 58) : (Instr.loadAt 3 (.pointer (some ⟨b, 0, none⟩))).run Tryz.prog W = .ok (.int .i64 x.k) W := by
  have q : W.cell? ⟨b, 0, none⟩ = some (.int .i64 x.k) := hX.cell 0
  clear hX
  go_simp
theorem lc_l1 (hX : Blk W b (ltI x h) 58) : (Instr.loadAt 3 (.pointer (some ⟨b, 1, none⟩))).run Tryz.prog W = .ok (.int .i64 x.fr) W := by
  have q : W.cell? ⟨b, 1, none⟩ = some (.int .i64 x.fr) := hX.cell 1
  clear hX
  go_simp
theorem lc_l2 (hX : Blk W b (ltI x h) 58) : (Instr.loadAt 3 (.pointer (some ⟨b, 2, none⟩))).run Tryz.prog W = .ok (.int .i64 x.tt) W := by
  have q : W.cell? ⟨b, 2, none⟩ = some (.int .i64 x.tt) := hX.cell 2
  clear hX
  go_simp
theorem lc_l3 (hX : Blk W b (ltI x h) 58) : (Instr.loadAt 3 (.pointer (some ⟨b, 3, none⟩))).run Tryz.prog W = .ok (.int .i64 x.li) W := by
  have q : W.cell? ⟨b, 3, none⟩ = some (.int .i64 x.li) := hX.cell 3
  clear hX
  go_simp
theorem lc_l4 (hX : Blk W b (ltI x h) 58) : (Instr.loadAt 3 (.pointer (some ⟨b, 4, none⟩))).run Tryz.prog W = .ok (.int .i64 x.tu) W := by
  have q : W.cell? ⟨b, 4, none⟩ = some (.int .i64 x.tu) := hX.cell 4
  clear hX
  go_simp
theorem lc_l5 (hX : Blk W b (ltI x h) 58) : (Instr.loadAt 3 (.pointer (some ⟨b, 5, none⟩))).run Tryz.prog W = .ok (.int .i64 x.pr) W := by
  have q : W.cell? ⟨b, 5, none⟩ = some (.int .i64 x.pr) := hX.cell 5
  clear hX
  go_simp
theorem lc_l6 (hX : Blk W b (ltI x h) 58) : (Instr.loadAt 3 (.pointer (some ⟨b, 6, none⟩))).run Tryz.prog W = .ok (.int .i64 x.lo) W := by
  have q : W.cell? ⟨b, 6, none⟩ = some (.int .i64 x.lo) := hX.cell 6
  clear hX
  go_simp
theorem lc_l7 (hX : Blk W b (ltI x h) 58) : (Instr.loadAt 3 (.pointer (some ⟨b, 7, none⟩))).run Tryz.prog W = .ok (.int .i64 x.fi) W := by
  have q : W.cell? ⟨b, 7, none⟩ = some (.int .i64 x.fi) := hX.cell 7
  clear hX
  go_simp
theorem lc_l8 (hX : Blk W b (ltI x h) 58) : (Instr.loadAt 3 (.pointer (some ⟨b, 8, none⟩))).run Tryz.prog W = .ok (.int .i64 x.st) W := by
  have q : W.cell? ⟨b, 8, none⟩ = some (.int .i64 x.st) := hX.cell 8
  clear hX
  go_simp
theorem lc_l9 (hX : Blk W b (ltI x h) 58) : (Instr.loadAt 3 (.pointer (some ⟨b, 9, none⟩))).run Tryz.prog W = .ok (.int .i64 x.ta) W := by
  have q : W.cell? ⟨b, 9, none⟩ = some (.int .i64 x.ta) := hX.cell 9
  clear hX
  go_simp
theorem lc_l10 (hX : Blk W b (ltI x h) 58) : (Instr.loadAt 3 (.pointer (some ⟨b, 10, none⟩))).run Tryz.prog W = .ok (.int .i64 x.sr) W := by
  have q : W.cell? ⟨b, 10, none⟩ = some (.int .i64 x.sr) := hX.cell 10
  clear hX
  go_simp
theorem lc_l11 (hX : Blk W b (ltI x h) 58) : (Instr.loadAt 3 (.pointer (some ⟨b, 11, none⟩))).run Tryz.prog W = .ok (.int .i64 x.en) W := by
  have q : W.cell? ⟨b, 11, none⟩ = some (.int .i64 x.en) := hX.cell 11
  clear hX
  go_simp
theorem lc_l12 (hX : Blk W b (ltI x h) 58) : (Instr.loadAt 4 (.pointer (some ⟨b, 12, none⟩))).run Tryz.prog W = .ok (.bool x.sn) W := by
  have q : W.cell? ⟨b, 12, none⟩ = some (.bool x.sn) := hX.cell 12
  clear hX
  go_simp
theorem lc_l13 (hX : Blk W b (ltI x h) 58) : (Instr.loadAt 53 (.pointer (some ⟨b, 13, none⟩))).run Tryz.prog W = .ok (.slice h.A1 h.n1 h.c1) W := by
  have q : W.cell? ⟨b, 13, none⟩ = some (.slice h.A1 h.n1 h.c1) := hX.cell 13
  clear hX
  go_simp
theorem lc_l14 (hX : Blk W b (ltI x h) 58) : (Instr.loadAt 37 (.pointer (some ⟨b, 14, none⟩))).run Tryz.prog W = .ok (.slice h.A2 h.n2 h.c2) W := by
  have q : W.cell? ⟨b, 14, none⟩ = some (.slice h.A2 h.n2 h.c2) := hX.cell 14
  clear hX
  go_simp
theorem lc_l15 (hX : Blk W b (ltI x h) 58) : (Instr.loadAt 22 (.pointer (some ⟨b, 15, none⟩))).run Tryz.prog W = .ok (.slice h.A3 h.n3 h.c3) W := by
  have q : W.cell? ⟨b, 15, none⟩ = some (.slice h.A3 h.n3 h.c3) := hX.cell 15
  clear hX
  go_simp
theorem lc_l16 (hX : Blk W b (ltI x h) 58) : (Instr.loadAt 54 (.pointer (some ⟨b, 16, none⟩))).run Tryz.prog W = .ok (.slice h.A4 h.n4 h.c4) W := by
  have q : W.cell? ⟨b, 16, none⟩ = some (.slice h.A4 h.n4 h.c4) := hX.cell 16
  clear hX
  go_simp
theorem lc_l17 (hX : Blk W b (ltI x h) 58) : (Instr.loadAt 56 (.pointer (some ⟨b, 17, none⟩))).run Tryz.prog W = .ok (.agg (laI x.a0 x.a1 x.a2 x.a3 x.a4 x.a5 x.a6 x.a7 x.a8 x.a9 x.a10 x.a11)) W :=
  run_loadAt_mid W b 17 _ (laI x.a0 x.a1 x.a2 x.a3 x.a4 x.a5 x.a6 x.a7 x.a8 x.a9 x.a10 x.a11).toList _ (fun j v hv => (hX.cell (17 + j)).trans (by
    have hj : j < 12 := by have := (List.getElem?_eq_some_iff.1 hv).1; simpa using this
    match j, hj with
    | 0, _ => exact hv | 1, _ => exact hv | 2, _ => exact hv | 3, _ => exact hv | 4, _ => exact hv | 5, _ => exact hv | 6, _ => exact hv | 7, _ => exact hv | 8, _ => exact hv | 9, _ => exact hv | 10, _ => exact hv | 11, _ => exact hv)) Tryz.underlying56 rfl (by kernel_rfl)
theorem lc_all (hX : Blk W b (ltI x h) 58) : (Instr.loadAt 58 (.pointer (some ⟨b, 0, none⟩))).run Tryz.prog W = .ok (.agg (ltI x h)) W :=
  run_loadAt_mid W b 0 _ (ltI x h).toList _ (fun j v hv => by rw [Nat.zero_add, hX.cell j]; exact (Array.getElem?_toList ..).symm.trans hv) Tryz.underlying58 rfl (by kernel_rfl)
end
end Go.Proofs.YtpjleeeligahaaaGreatDoor

namespace Go.Proofs.YtpjleeeligahaaaGreatDoor
open Go.RowKit

theorem blt_lt {a b : Nat} (h : Nat.blt a b = true) : a < b := by rw [← Nat.blt_eq]; exact h
/-- A slot's value under its guard. -/
def cnd (g : Bool) (v : Value) : Value := bif g then v else undef
/-- A frame with slots written, the last one first: the slot, the guard, the value. -/
def fr (a0 : Act) : List (Nat × Bool × Value) → Act
  | [] => a0
  | p :: L => (fr a0 L).put (some p.1) (cnd p.2.1 p.2.2)
/-- What was written into a slot. -/
def lk : List (Nat × Bool × Value) → Nat → Option (Bool × Value)
  | [], _ => none
  | p :: L, i => bif Nat.beq p.1 i then some p.2 else lk L i
theorem fr_size (a0 : Act) : ∀ L, (fr a0 L).tmps.size = a0.tmps.size
  | [] => rfl
  | p :: L => by
    show ((fr a0 L).tmps.setIfInBounds p.1 (cnd p.2.1 p.2.2)).size = _
    rw [Array.size_setIfInBounds, fr_size a0 L]
theorem ev_fr {a0 : Act} {i : Nat} {g : Bool} {v : Value} : ∀ {L : List (Nat × Bool × Value)}, (∀ p, p ∈ L → p.1 < a0.tmps.size) → lk L i = some (g, v) → (fr a0 L).eval (.tmp i) = cnd g v
  | [], _, h => by cases h
  | p :: L, h, hl => by
    have h1 := h p (List.mem_cons_self ..)
    show ((fr a0 L).tmps.setIfInBounds p.1 (cnd p.2.1 p.2.2)).getD i undef = _
    have hs := fr_size a0 L
    have hl' : (bif Nat.beq p.1 i then some p.2 else lk L i) = some (g, v) := hl
    by_cases e : p.1 = i
    · subst e
      rw [Nat.beq_refl, cond_true] at hl'
      have hp : p.2 = (g, v) := Option.some.inj hl'
      rw [hp, Array.getD_eq_getD_getElem?, Array.getElem?_setIfInBounds_self_of_lt (by omega)]
      rfl
    · have e2 : Nat.beq p.1 i = false := by
        cases hb : Nat.beq p.1 i with
        | false => rfl
        | true => exact absurd (Nat.eq_of_beq_eq_true hb) e
      rw [e2, cond_false] at hl'
      rw [Array.getD_eq_getD_getElem?, Array.getElem?_setIfInBounds_ne e, ← Array.getD_eq_getD_getElem?]
      exact ev_fr (fun q hq => h q (List.mem_cons_of_mem _ hq)) hl'
theorem lk_at {a0 : Act} {L : List (Nat × Bool × Value)} {i : Nat} {g gi : Bool} {v : Value} (hk : ∀ p, p ∈ L → p.1 < a0.tmps.size) (hl : lk L i = some (gi, v)) (hs : g = true → gi = true) (hg : g = true) : (fr a0 L).eval (.tmp i) = v := by
  rw [ev_fr hk hl, hs hg]
  rfl
def nthO : List Oper → Nat → Option Oper
  | [], _ => none
  | o :: _, 0 => some o
  | _ :: t, j + 1 => nthO t j
theorem nthO_is : ∀ (l : List Oper) (j : Nat), l[j]? = nthO l j
  | [], j => by simp [nthO]
  | o :: t, 0 => by simp [nthO]
  | o :: t, j + 1 => by rw [List.getElem?_cons_succ, nthO_is t j]; rfl
/-- The guard of an operation that stands under another one's result. -/
def gdOf (want : Bool) : Option (Bool × Value) → Option Bool
  | some (g0, .bool b) => some (bif want then g0 && b else g0 && !b)
  | _ => none
def gdAt (L : List (Nat × Bool × Value)) (want : Bool) : Option Nat → Option Bool
  | some d => gdOf want (lk L d)
  | none => none
/-- When is an operation wanted? -/
def wtG (l : List Oper) (L : List (Nat × Bool × Value)) : Option (Nat × Bool) → Option Bool
  | none => some true
  | some (j, want) => gdAt L want ((nthO l j).bind (·.dst))
theorem lk_mem : ∀ {L : List (Nat × Bool × Value)} {d : Nat} {q : Bool × Value}, lk L d = some q → ∃ p, p ∈ L ∧ p.1 = d
  | [], _, _, h => by cases h
  | p :: L, d, q, h => by
    by_cases e : p.1 = d
    · exact ⟨p, List.mem_cons_self .., e⟩
    · have e2 : Nat.beq p.1 d = false := by
        cases hb : Nat.beq p.1 d with
        | false => rfl
        | true => exact absurd (Nat.eq_of_beq_eq_true hb) e
      have h' : (bif Nat.beq p.1 d then some p.2 else lk L d) = some q := h
      rw [e2, cond_false] at h'
      obtain ⟨p', h1, h2⟩ := lk_mem h'
      exact ⟨p', List.mem_cons_of_mem _ h1, h2⟩
theorem wt_is {l : List Oper} {a0 : Act} {L : List (Nat × Bool × Value)} {o : Oper} {g : Bool} (hk : ∀ p, p ∈ L → p.1 < a0.tmps.size) (h : wtG l L o.guard = some g) : Region.wanted o (yielded l.toArray (fr a0 L).tmps) = g := by
  unfold Region.wanted
  cases hg : o.guard with
  | none => rw [hg] at h; exact Option.some.inj h
  | some q =>
    obtain ⟨j, want⟩ := q
    rw [hg] at h
    have h0 : gdAt L want ((nthO l j).bind (·.dst)) = some g := h
    cases hd : (nthO l j).bind (·.dst) with
    | none => rw [hd] at h0; cases h0
    | some d =>
      rw [hd] at h0
      have h1 : gdOf want (lk L d) = some g := h0
      cases hl : lk L d with
      | none => rw [hl] at h1; cases h1
      | some q =>
        obtain ⟨g0, v⟩ := q
        rw [hl] at h1
        cases v with
        | bool b =>
          have h2 : (bif want then g0 && b else g0 && !b) = g := Option.some.inj h1
          obtain ⟨p, hp, hpd⟩ := lk_mem hl
          have h5 : d < (fr a0 L).tmps.size := by rw [fr_size, ← hpd]; exact hk p hp
          have hv : (fr a0 L).tmps[d]? = some (cnd g0 (.bool b)) := by
            have h4 : (fr a0 L).tmps.getD d undef = cnd g0 (.bool b) := ev_fr hk hl
            rw [Array.getElem?_eq_getElem h5]
            rw [Array.getD_eq_getD_getElem?, Array.getElem?_eq_getElem h5] at h4
            exact congrArg some h4
          show (yielded l.toArray (fr a0 L).tmps j == some want) = _
          unfold yielded
          rw [List.getElem?_toArray, nthO_is, hd]
          show ((match (fr a0 L).tmps[d]? with | some (.bool b) => some b | _ => none) == some want) = _
          rw [hv, ← h2]
          cases g0
          · cases want <;> rfl
          · cases b <;> cases want <;> rfl
        | _ => cases h1
section
variable {P : Program} {l : List Oper} {Q : Exit → Act → World → Prop} {rest : List Oper} {a0 : Act} {L : List (Nat × Bool × Value)} {w : World}
/-- The operations that are left, over a frame so written. -/
structure FL (P : Program) (l : List Oper) (Q : Exit → Act → World → Prop) (rest : List Oper) (a0 : Act) (L : List (Nat × Bool × Value)) (w : World) : Prop where
  go : (∀ p, p ∈ L → p.1 < a0.tmps.size) → wpList P l.toArray Q rest (fr a0 L) w
theorem fl_start (h : FL P l Q rest a0 [] w) : wpList P l.toArray Q rest a0 w := h.go fun p hp => by cases hp
theorem fl_know {i n : Nat} {v : Value} (hn : a0.tmps.size = n) (hi : Nat.blt i n = true) (hv : (fr a0 L).eval (.tmp i) = v) (h : FL P l Q rest a0 ((i, true, v) :: L) w) : FL P l Q rest a0 L w := by
  refine ⟨fun hk => ?_⟩
  have hi' : i < a0.tmps.size := by rw [hn]; exact blt_lt hi
  have h2 := h.go (fun p hp => by
    rcases List.mem_cons.1 hp with e | e
    · rw [e]; exact hi'
    · exact hk p e)
  have e : fr a0 ((i, true, v) :: L) = fr a0 L := by
    show (fr a0 L).put (some i) v = fr a0 L
    have h5 : i < (fr a0 L).tmps.size := by rw [fr_size]; exact hi'
    have h4 : (fr a0 L).tmps.getD i undef = v := hv
    rw [Array.getD_eq_getD_getElem?, Array.getElem?_eq_getElem h5] at h4
    have h6 : (fr a0 L).tmps.setIfInBounds i v = (fr a0 L).tmps := by
      apply Array.ext (by simp)
      intro j h1 h2
      by_cases e : i = j
      · subst e
        rw [Array.getElem_setIfInBounds_self]
        exact h4.symm
      · rw [Array.getElem_setIfInBounds_ne _ e]
    show ({ fr a0 L with tmps := (fr a0 L).tmps.setIfInBounds i v } : Act) = fr a0 L
    rw [h6]
  rw [e] at h2
  exact h2
theorem fl_end (h : Q .normal (fr a0 L) w) : FL P l Q [] a0 L w := ⟨fun _ => h⟩
theorem fl_endb {d : Nat} {g b c : Bool} (e : b = c) (h : Q .normal (fr a0 ((d, g, .bool c) :: L)) w) : FL P l Q [] a0 ((d, g, .bool b) :: L) w := by
  subst e
  exact ⟨fun _ => h⟩
theorem fl_op {o : Oper} {d n : Nat} {g : Bool} {v : Value} (hn : a0.tmps.size = n) (ho : o.dst = some d) (hd : Nat.blt d n = true) (hw : wtG l L o.guard = some g)
    (hr : (∀ p, p ∈ L → p.1 < a0.tmps.size) → g = true → (execOp (fr a0 L).eval o).run P w = .ok (.value v) w) (h : FL P l Q rest a0 ((d, g, v) :: L) w) : FL P l Q (o :: rest) a0 L w := by
  refine ⟨fun hk => ?_⟩
  have h2 : wpList P l.toArray Q rest ((fr a0 L).put (some d) (cnd g v)) w := h.go (fun p hp => by
    rcases List.mem_cons.1 hp with e | e
    · rw [e, hn]; exact blt_lt hd
    · exact hk p e)
  refine wpList_step fun K hK => ?_
  rw [wt_is hk hw]
  cases g with
  | false => exact hK _ _ (by rw [ho]; exact h2)
  | true =>
    show o.wp P (fr a0 L) w K Q
    unfold Oper.wp
    rw [hr hk rfl]
    exact hK _ _ (by rw [ho]; exact h2)
theorem fl_callq {o : Oper} {d n : Nat} {g : Bool} {v : Value} {f : FuncId} {args : Array Value} (hn : a0.tmps.size = n) (ho : o.dst = some d) (hd : Nat.blt d n = true) (hw : wtG l L o.guard = some g)
    (hr : (∀ p, p ∈ L → p.1 < a0.tmps.size) → g = true → (execOp (fr a0 L).eval o).run P w = .ok (.enter f args) w) (hc : g = true → Calls P f args w fun e w' => e = .returned v ∧ w = w') (h : FL P l Q rest a0 ((d, g, v) :: L) w) : FL P l Q (o :: rest) a0 L w := by
  refine ⟨fun hk => ?_⟩
  have h2 : wpList P l.toArray Q rest ((fr a0 L).put (some d) (cnd g v)) w := h.go (fun p hp => by
    rcases List.mem_cons.1 hp with e | e
    · rw [e, hn]; exact blt_lt hd
    · exact hk p e)
  refine wpList_step fun K hK => ?_
  rw [wt_is hk hw]
  cases g with
  | false => exact hK _ _ (by rw [ho]; exact h2)
  | true =>
    show o.wp P (fr a0 L) w K Q
    unfold Oper.wp
    rw [hr hk rfl, Oper.upon_enter]
    refine (hc rfl).mono ?_
    rintro e w' ⟨rfl, rfl⟩
    exact hK _ _ (by rw [ho]; exact h2)
theorem fl_move {i d n : Nat} {ty : TypeId} {p : String} {af : Array Edge} {gd : Option (Nat × Bool)} {g gi : Bool} {v : Value} (hn : a0.tmps.size = n) (hd : Nat.blt d n = true) (hw : wtG l L gd = some g) (hl : lk L i = some (gi, v)) (hs : g = true → gi = true)
    (h : FL P l Q rest a0 ((d, g, v) :: L) w) : FL P l Q (⟨some d, .move (.tmp i), ty, p, af, gd⟩ :: rest) a0 L w :=
  fl_op hn rfl hd hw (fun hk hg => by show Result.ok (Next.value ((fr a0 L).eval (.tmp i))) w = _; rw [lk_at hk hl hs hg]) h
theorem fl_not {i d n : Nat} {ty ty' : TypeId} {p : String} {af : Array Edge} {gd : Option (Nat × Bool)} {g gi b : Bool} (hn : a0.tmps.size = n) (hd : Nat.blt d n = true) (hw : wtG l L gd = some g) (hl : lk L i = some (gi, (.bool b))) (hs : g = true → gi = true)
    (h : FL P l Q rest a0 ((d, g, (.bool !b)) :: L) w) : FL P l Q (⟨some d, .unOp .not ty' (.tmp i), ty, p, af, gd⟩ :: rest) a0 L w :=
  fl_op hn rfl hd hw (fun hk hg => by
    have e := lk_at hk hl hs hg
    unfold execOp
    dsimp only
    rw [e]
    rfl) h
theorem fl_or {c i d n : Nat} {ty : TypeId} {p : String} {af : Array Edge} {gd : Option (Nat × Bool)} {g gc gi b b2 : Bool} (hn : a0.tmps.size = n) (hd : Nat.blt d n = true) (hw : wtG l L gd = some g) (hc : lk L c = some (gc, (.bool b))) (hs : g = true → gc = true) (hl : lk L i = some (gi, (.bool b2))) (hs2 : g = true → b = false → gi = true)
    (h : FL P l Q rest a0 ((d, g, (.bool (b || b2))) :: L) w) : FL P l Q (⟨some d, .pick (.tmp c) (.const (.bool true)) (.tmp i), ty, p, af, gd⟩ :: rest) a0 L w :=
  fl_op hn rfl hd hw (fun hk hg => by
    have e := lk_at hk hc hs hg
    unfold execOp
    dsimp only
    rw [e]
    cases b with
    | true => rfl
    | false =>
      have e2 := lk_at hk hl (fun _ => hs2 hg rfl) hg
      rw [e2]
      rfl) h
theorem fl_and {c i d n : Nat} {ty : TypeId} {p : String} {af : Array Edge} {gd : Option (Nat × Bool)} {g gc gi b b2 : Bool} (hn : a0.tmps.size = n) (hd : Nat.blt d n = true) (hw : wtG l L gd = some g) (hc : lk L c = some (gc, (.bool b))) (hs : g = true → gc = true) (hl : lk L i = some (gi, (.bool b2))) (hs2 : g = true → b = true → gi = true)
    (h : FL P l Q rest a0 ((d, g, (.bool (b && b2))) :: L) w) : FL P l Q (⟨some d, .pick (.tmp c) (.tmp i) (.const (.bool false)), ty, p, af, gd⟩ :: rest) a0 L w :=
  fl_op hn rfl hd hw (fun hk hg => by
    have e := lk_at hk hc hs hg
    unfold execOp
    dsimp only
    rw [e]
    cases b with
    | false => rfl
    | true =>
      have e2 := lk_at hk hl (fun _ => hs2 hg rfl) hg
      rw [e2]
      rfl) h
theorem fl_load {i d n : Nat} {t ty : TypeId} {p : String} {af : Array Edge} {gd : Option (Nat × Bool)} {g gi : Bool} {ad : Addr} {v : Value} (hn : a0.tmps.size = n) (hd : Nat.blt d n = true) (hw : wtG l L gd = some g) (hl : lk L i = some (gi, (.pointer (some ad)))) (hs : g = true → gi = true) (hr : (Instr.loadAt t (.pointer (some ad))).run P w = .ok v w)
    (h : FL P l Q rest a0 ((d, g, v) :: L) w) : FL P l Q (⟨some d, .load t (.tmp i), ty, p, af, gd⟩ :: rest) a0 L w :=
  fl_op hn rfl hd hw (fun hk hg => by
    have e := lk_at hk hl hs hg
    unfold execOp
    dsimp only
    rw [e, Sem.run_bind, hr]
    rfl) h
theorem fl_field {i f d n : Nat} {t ty : TypeId} {p : String} {af : Array Edge} {gd : Option (Nat × Bool)} {g gi : Bool} {ad ad' : Addr} (hn : a0.tmps.size = n) (hd : Nat.blt d n = true) (hw : wtG l L gd = some g) (hl : lk L i = some (gi, (.pointer (some ad)))) (hs : g = true → gi = true) (hr : (Instr.fieldAt t (.pointer (some ad)) f).run P w = .ok (.pointer (some ad')) w)
    (h : FL P l Q rest a0 ((d, g, (.pointer (some ad'))) :: L) w) : FL P l Q (⟨some d, .fieldAddr t (.tmp i) f, ty, p, af, gd⟩ :: rest) a0 L w :=
  fl_op hn rfl hd hw (fun hk hg => by
    have e := lk_at hk hl hs hg
    unfold execOp
    dsimp only
    rw [e, Sem.run_bind, hr]
    rfl) h
theorem fl_build0 {d n : Nat} {t ty : TypeId} {p : String} {af : Array Edge} {gd : Option (Nat × Bool)} {g : Bool} {v : Value} (hn : a0.tmps.size = n) (hd : Nat.blt d n = true) (hw : wtG l L gd = some g) (hr : (Instr.build t #[]).run P w = .ok v w)
    (h : FL P l Q rest a0 ((d, g, v) :: L) w) : FL P l Q (⟨some d, .build t #[], ty, p, af, gd⟩ :: rest) a0 L w :=
  fl_op hn rfl hd hw (fun _ _ => by
    unfold execOp
    dsimp only
    simp only [List.map_toArray, List.map_nil]
    rw [Sem.run_bind, hr]
    rfl) h
theorem fl_bin {op : BinOp} {i j d n : Nat} {t ty ty2 : TypeId} {p : String} {af : Array Edge} {gd : Option (Nat × Bool)} {g gi gj : Bool} {vi vj v : Value} (hn : a0.tmps.size = n) (hd : Nat.blt d n = true) (hw : wtG l L gd = some g) (hl : lk L i = some (gi, vi)) (hs : g = true → gi = true) (hl2 : lk L j = some (gj, vj)) (hs2 : g = true → gj = true)
    (hr : ((do eqGuard op t (.tmp i) (.tmp j) vi vj; binOp op t vi vj) : Sem Value).run P w = .ok v w)
    (h : FL P l Q rest a0 ((d, g, v) :: L) w) : FL P l Q (⟨some d, .binOp op t (.tmp i) (.tmp j) ty2, ty, p, af, gd⟩ :: rest) a0 L w :=
  fl_op hn rfl hd hw (fun hk hg => by
    have e := lk_at hk hl hs hg
    have e2 := lk_at hk hl2 hs2 hg
    unfold execOp
    dsimp only
    rw [e, e2, Sem.run_bind, hr]
    rfl) h
theorem and_l {a b : Bool} (h : (a && b) = true) : a = true := by cases a <;> simp_all
end
/-! Over the seat's program: comparisons of numbers, lengths, calls. -/
section
variable {l : List Oper} {Q : Exit → Act → World → Prop} {rest : List Oper} {a0 : Act} {L : List (Nat × Bool × Value)} {w : World}
theorem bin_neq (d : Option Tmp) (x y : Operand) (ty ty2 : TypeId) (p : String) (af : Array Edge) (gd : Option (Nat × Bool)) (ρ : Operand → Value) (m k : Int) (h1 : ρ x = .int .i64 m) (h2 : ρ y = .int .i64 k) : (execOp ρ ⟨d, .binOp .neq 3 x y ty2, ty, p, af, gd⟩).run Tryz.prog w = .ok (.value (.bool (m != k))) w := by
  unfold execOp
  dsimp only
  rw [h1, h2]
  go_simp
theorem fl_neq {i d n : Nat} {m k : Int} {ty ty2 : TypeId} {p : String} {af : Array Edge} {gd : Option (Nat × Bool)} {g gi : Bool} (hn : a0.tmps.size = n) (hd : Nat.blt d n = true) (hw : wtG l L gd = some g) (hl : lk L i = some (gi, (.int .i64 m))) (hs : g = true → gi = true)
    (h : FL Tryz.prog l Q rest a0 ((d, g, (.bool (m != k))) :: L) w) : FL Tryz.prog l Q (⟨some d, .binOp .neq 3 (.tmp i) (.const (.int .i64 k)) ty2, ty, p, af, gd⟩ :: rest) a0 L w :=
  fl_op hn rfl hd hw (fun hk hg => bin_neq _ _ _ _ _ _ _ _ _ m k (lk_at hk hl hs hg) rfl) h
theorem fl_neq2 {i j d n : Nat} {m k : Int} {ty ty2 : TypeId} {p : String} {af : Array Edge} {gd : Option (Nat × Bool)} {g gi gj : Bool} (hn : a0.tmps.size = n) (hd : Nat.blt d n = true) (hw : wtG l L gd = some g) (hl : lk L i = some (gi, (.int .i64 m))) (hs : g = true → gi = true) (hl2 : lk L j = some (gj, (.int .i64 k))) (hs2 : g = true → gj = true)
    (h : FL Tryz.prog l Q rest a0 ((d, g, (.bool (m != k))) :: L) w) : FL Tryz.prog l Q (⟨some d, .binOp .neq 3 (.tmp i) (.tmp j) ty2, ty, p, af, gd⟩ :: rest) a0 L w :=
  fl_op hn rfl hd hw (fun hk hg => bin_neq _ _ _ _ _ _ _ _ _ m k (lk_at hk hl hs hg) (lk_at hk hl2 hs2 hg)) h
theorem bin_eql (d : Option Tmp) (x y : Operand) (ty ty2 : TypeId) (p : String) (af : Array Edge) (gd : Option (Nat × Bool)) (ρ : Operand → Value) (m k : Int) (h1 : ρ x = .int .i64 m) (h2 : ρ y = .int .i64 k) : (execOp ρ ⟨d, .binOp .eql 3 x y ty2, ty, p, af, gd⟩).run Tryz.prog w = .ok (.value (.bool (m == k))) w := by
  unfold execOp
  dsimp only
  rw [h1, h2]
  go_simp
theorem fl_eql {i d n : Nat} {m k : Int} {ty ty2 : TypeId} {p : String} {af : Array Edge} {gd : Option (Nat × Bool)} {g gi : Bool} (hn : a0.tmps.size = n) (hd : Nat.blt d n = true) (hw : wtG l L gd = some g) (hl : lk L i = some (gi, (.int .i64 m))) (hs : g = true → gi = true)
    (h : FL Tryz.prog l Q rest a0 ((d, g, (.bool (m == k))) :: L) w) : FL Tryz.prog l Q (⟨some d, .binOp .eql 3 (.tmp i) (.const (.int .i64 k)) ty2, ty, p, af, gd⟩ :: rest) a0 L w :=
  fl_op hn rfl hd hw (fun hk hg => bin_eql _ _ _ _ _ _ _ _ _ m k (lk_at hk hl hs hg) rfl) h
theorem fl_eql2 {i j d n : Nat} {m k : Int} {ty ty2 : TypeId} {p : String} {af : Array Edge} {gd : Option (Nat × Bool)} {g gi gj : Bool} (hn : a0.tmps.size = n) (hd : Nat.blt d n = true) (hw : wtG l L gd = some g) (hl : lk L i = some (gi, (.int .i64 m))) (hs : g = true → gi = true) (hl2 : lk L j = some (gj, (.int .i64 k))) (hs2 : g = true → gj = true)
    (h : FL Tryz.prog l Q rest a0 ((d, g, (.bool (m == k))) :: L) w) : FL Tryz.prog l Q (⟨some d, .binOp .eql 3 (.tmp i) (.tmp j) ty2, ty, p, af, gd⟩ :: rest) a0 L w :=
  fl_op hn rfl hd hw (fun hk hg => bin_eql _ _ _ _ _ _ _ _ _ m k (lk_at hk hl hs hg) (lk_at hk hl2 hs2 hg)) h
theorem bin_gtr (d : Option Tmp) (x y : Operand) (ty ty2 : TypeId) (p : String) (af : Array Edge) (gd : Option (Nat × Bool)) (ρ : Operand → Value) (m k : Int) (h1 : ρ x = .int .i64 m) (h2 : ρ y = .int .i64 k) : (execOp ρ ⟨d, .binOp .gtr 3 x y ty2, ty, p, af, gd⟩).run Tryz.prog w = .ok (.value (.bool (decide (k < m)))) w := by
  unfold execOp
  dsimp only
  rw [h1, h2]
  go_simp
theorem fl_gtr {i d n : Nat} {m k : Int} {ty ty2 : TypeId} {p : String} {af : Array Edge} {gd : Option (Nat × Bool)} {g gi : Bool} (hn : a0.tmps.size = n) (hd : Nat.blt d n = true) (hw : wtG l L gd = some g) (hl : lk L i = some (gi, (.int .i64 m))) (hs : g = true → gi = true)
    (h : FL Tryz.prog l Q rest a0 ((d, g, (.bool (decide (k < m)))) :: L) w) : FL Tryz.prog l Q (⟨some d, .binOp .gtr 3 (.tmp i) (.const (.int .i64 k)) ty2, ty, p, af, gd⟩ :: rest) a0 L w :=
  fl_op hn rfl hd hw (fun hk hg => bin_gtr _ _ _ _ _ _ _ _ _ m k (lk_at hk hl hs hg) rfl) h
theorem fl_gtr2 {i j d n : Nat} {m k : Int} {ty ty2 : TypeId} {p : String} {af : Array Edge} {gd : Option (Nat × Bool)} {g gi gj : Bool} (hn : a0.tmps.size = n) (hd : Nat.blt d n = true) (hw : wtG l L gd = some g) (hl : lk L i = some (gi, (.int .i64 m))) (hs : g = true → gi = true) (hl2 : lk L j = some (gj, (.int .i64 k))) (hs2 : g = true → gj = true)
    (h : FL Tryz.prog l Q rest a0 ((d, g, (.bool (decide (k < m)))) :: L) w) : FL Tryz.prog l Q (⟨some d, .binOp .gtr 3 (.tmp i) (.tmp j) ty2, ty, p, af, gd⟩ :: rest) a0 L w :=
  fl_op hn rfl hd hw (fun hk hg => bin_gtr _ _ _ _ _ _ _ _ _ m k (lk_at hk hl hs hg) (lk_at hk hl2 hs2 hg)) h
theorem bin_leq (d : Option Tmp) (x y : Operand) (ty ty2 : TypeId) (p : String) (af : Array Edge) (gd : Option (Nat × Bool)) (ρ : Operand → Value) (m k : Int) (h1 : ρ x = .int .i64 m) (h2 : ρ y = .int .i64 k) : (execOp ρ ⟨d, .binOp .leq 3 x y ty2, ty, p, af, gd⟩).run Tryz.prog w = .ok (.value (.bool (decide (m ≤ k)))) w := by
  unfold execOp
  dsimp only
  rw [h1, h2]
  go_simp
theorem fl_leq {i d n : Nat} {m k : Int} {ty ty2 : TypeId} {p : String} {af : Array Edge} {gd : Option (Nat × Bool)} {g gi : Bool} (hn : a0.tmps.size = n) (hd : Nat.blt d n = true) (hw : wtG l L gd = some g) (hl : lk L i = some (gi, (.int .i64 m))) (hs : g = true → gi = true)
    (h : FL Tryz.prog l Q rest a0 ((d, g, (.bool (decide (m ≤ k)))) :: L) w) : FL Tryz.prog l Q (⟨some d, .binOp .leq 3 (.tmp i) (.const (.int .i64 k)) ty2, ty, p, af, gd⟩ :: rest) a0 L w :=
  fl_op hn rfl hd hw (fun hk hg => bin_leq _ _ _ _ _ _ _ _ _ m k (lk_at hk hl hs hg) rfl) h
theorem fl_leq2 {i j d n : Nat} {m k : Int} {ty ty2 : TypeId} {p : String} {af : Array Edge} {gd : Option (Nat × Bool)} {g gi gj : Bool} (hn : a0.tmps.size = n) (hd : Nat.blt d n = true) (hw : wtG l L gd = some g) (hl : lk L i = some (gi, (.int .i64 m))) (hs : g = true → gi = true) (hl2 : lk L j = some (gj, (.int .i64 k))) (hs2 : g = true → gj = true)
    (h : FL Tryz.prog l Q rest a0 ((d, g, (.bool (decide (m ≤ k)))) :: L) w) : FL Tryz.prog l Q (⟨some d, .binOp .leq 3 (.tmp i) (.tmp j) ty2, ty, p, af, gd⟩ :: rest) a0 L w :=
  fl_op hn rfl hd hw (fun hk hg => bin_leq _ _ _ _ _ _ _ _ _ m k (lk_at hk hl hs hg) (lk_at hk hl2 hs2 hg)) h
theorem call3_is {f : FuncId} (he : ∀ args w, (callFunc f args).run Tryz.prog w = .ok (.enter f args) w) (d : Option Tmp) (x y z : Operand) (ts : Array TypeId) (ty : TypeId) (p : String) (af : Array Edge) (gd : Option (Nat × Bool)) (ρ : Operand → Value) (u v t : Value) (h1 : ρ x = u) (h2 : ρ y = v) (h3 : ρ z = t) (hf : ρ (.func f) = .func (.func f) #[] #[]) : (execOp ρ ⟨d, .call { callee := .value (.func f), args := #[x, y, z], argTypes := ts }, ty, p, af, gd⟩).run Tryz.prog w = .ok (.enter f #[u, v, t]) w := by
  unfold execOp
  dsimp only
  go_simp

theorem fl_callc {f : FuncId} {i d n : Nat} {v c1 c2 r : Value} {ts : Array TypeId} {ty : TypeId} {p : String} {af : Array Edge} {gd : Option (Nat × Bool)} {g gi : Bool} (he : ∀ args w, (callFunc f args).run Tryz.prog w = .ok (.enter f args) w) (hn : a0.tmps.size = n) (hd : Nat.blt d n = true) (hw : wtG l L gd = some g) (hl : lk L i = some (gi, v)) (hs : g = true → gi = true)
    (hc : Calls Tryz.prog f #[v, c1, c2] w fun e w' => e = .returned r ∧ w = w') (h : FL Tryz.prog l Q rest a0 ((d, g, r) :: L) w) : FL Tryz.prog l Q (⟨some d, .call { callee := .value (.func f), args := #[.tmp i, .const c1, .const c2], argTypes := ts }, ty, p, af, gd⟩ :: rest) a0 L w :=
  fl_callq hn rfl hd hw (fun hk hg => call3_is he _ _ _ _ _ _ _ _ _ _ v c1 c2 (lk_at hk hl hs hg) rfl rfl rfl) (fun _ => hc) h
theorem fl_callt {f : FuncId} {i j d n : Nat} {v c1 c2 r : Value} {ts : Array TypeId} {ty : TypeId} {p : String} {af : Array Edge} {gd : Option (Nat × Bool)} {g gi gj : Bool} (he : ∀ args w, (callFunc f args).run Tryz.prog w = .ok (.enter f args) w) (hn : a0.tmps.size = n) (hd : Nat.blt d n = true) (hw : wtG l L gd = some g) (hl : lk L i = some (gi, v)) (hs : g = true → gi = true) (hl2 : lk L j = some (gj, c2)) (hs2 : g = true → gj = true)
    (hc : Calls Tryz.prog f #[v, c1, c2] w fun e w' => e = .returned r ∧ w = w') (h : FL Tryz.prog l Q rest a0 ((d, g, r) :: L) w) : FL Tryz.prog l Q (⟨some d, .call { callee := .value (.func f), args := #[.tmp i, .const c1, .tmp j], argTypes := ts }, ty, p, af, gd⟩ :: rest) a0 L w :=
  fl_callq hn rfl hd hw (fun hk hg => call3_is he _ _ _ _ _ _ _ _ _ _ v c1 c2 (lk_at hk hl hs hg) rfl (lk_at hk hl2 hs2 hg) rfl) (fun _ => hc) h
theorem load_int {ad : Addr} {v : Value} (h : w.cell? ad = some v) : (Instr.loadAt 3 (.pointer (some ad))).run Tryz.prog w = .ok v w := by go_simp
theorem load_bool {ad : Addr} {v : Value} (h : w.cell? ad = some v) : (Instr.loadAt 4 (.pointer (some ad))).run Tryz.prog w = .ok v w := by go_simp
theorem len_is (d : Option Tmp) (x : Operand) (ts : Array TypeId) (ty : TypeId) (p : String) (af : Array Edge) (gd : Option (Nat × Bool)) (ρ : Operand → Value) (A : Option Addr) (n c : Nat) (h1 : ρ x = .slice A n c) (hr : (Builtin.len_ ts ty #[.slice A n c]).run Tryz.prog w = .ok (.int .i64 n) w) : (execOp ρ ⟨d, .call { callee := .builtin .len, args := #[x], argTypes := ts }, ty, p, af, gd⟩).run Tryz.prog w = .ok (.value (.int .i64 n)) w := by
  unfold execOp
  dsimp only
  go_simp
theorem fl_len {i d n m c : Nat} {A : Option Addr} {ts : Array TypeId} {ty : TypeId} {p : String} {af : Array Edge} {gd : Option (Nat × Bool)} {g gi : Bool} (hn : a0.tmps.size = n) (hd : Nat.blt d n = true) (hw : wtG l L gd = some g) (hl : lk L i = some (gi, (.slice A m c))) (hs : g = true → gi = true) (hr : (Builtin.len_ ts ty #[.slice A m c]).run Tryz.prog w = .ok (.int .i64 m) w)
    (h : FL Tryz.prog l Q rest a0 ((d, g, (.int .i64 m)) :: L) w) : FL Tryz.prog l Q (⟨some d, .call { callee := .builtin .len, args := #[.tmp i], argTypes := ts }, ty, p, af, gd⟩ :: rest) a0 L w :=
  fl_op hn rfl hd hw (fun hk hg => len_is _ _ _ _ _ _ _ _ A m c (lk_at hk hl hs hg) hr) h
end
end Go.Proofs.YtpjleeeligahaaaGreatDoor
