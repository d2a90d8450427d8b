/-
  WHAT IS PROVED: slices.ContainsFunc (and IndexFunc) of a slice of strings tells whether a predicate holds of one of them, for every function value that answers so and leaves what lay there. Conditions: those typed in each theorem.
-/
import Derived.Test.YtccdpbcldpmegaaDoorReachSame
import Derived.Shelf.Abstract
namespace Go.Proofs.YtccdpbcldpmegaaDoor
open Go.RowKit

/-- A function value that tells of each of these whether p holds, in whatever world that keeps w. -/
def PredB (g : Nat) (lb : Array Value) (p : List UInt8 → Bool) (l : List ByteArray) (w : World) : Prop :=
  ∀ (x : ByteArray), x ∈ l → ∀ W, Below w.heap.size w W → Calls Tryd.prog g (#[.string x] ++ lb) W fun e W' => e = .returned (.bool (p x.data.toList)) ∧ Below W.heap.size W W'
theorem pred_is {g : Nat} {lb : Array Value} {p : List UInt8 → Bool} {l : List ByteArray} {w : World} (h : PredB g lb p l w) {k : Nat} {x : ByteArray} (hx : l[k]? = some x) (b : Bool) (hb : p x.data.toList = b) {W : World} (hB : Below w.heap.size w W) :
    Calls Tryd.prog g (#[.string x] ++ lb) W fun e W' => e = .returned (.bool b) ∧ Below W.heap.size W W' := by
  subst hb
  exact h x (List.mem_of_getElem? hx) W hB
/-- Does it hold of one of them? -/
def anyP (p : List UInt8 → Bool) (l : List ByteArray) : Bool := (dL l).any p
theorem any_yes {l : List ByteArray} {p : List UInt8 → Bool} {k : Nat} {x : ByteArray} (hx : l[k]? = some x) (hb : p x.data.toList = true) : anyP p l = true :=
  List.any_eq_true.2 ⟨_, List.mem_of_getElem? (dL_get hx), hb⟩
theorem any_no {l : List ByteArray} {p : List UInt8 → Bool} (h : ∀ j, j < l.length → p (atR (dL l) j) = false) : anyP p l = false := by
  unfold anyP
  rw [List.any_eq_false]
  intro x hx
  obtain ⟨i, hi, rfl⟩ := mem_atR hx
  rw [h i (by rwa [dL_len] at hi)]
  exact Bool.false_ne_true

set_option maxHeartbeats 1000000 in
theorem idxR_any (g : Nat) (lb : Array Value) (eg : ∀ args w, (callFunc g args).run Tryd.prog w = .ok (.enter g args) w) (p : List UInt8 → Bool) (A : Option Addr) (n c : Nat) (l : List ByteArray) (w : World) (hn : l.length = n) (hr : RdS w.heap.size w A l) (hm : n ≤ maxLen) (hp : PredB g lb p l w) :
    Calls Tryd.prog 40 #[.slice A n c, .func (.func g) #[] lb] w fun e w' => (∃ z : Int, e = .returned (.int .i64 z) ∧ decide (0 ≤ z) = anyP p l) ∧ Below w.heap.size w w' := by
  unfold maxLen at hm
  have HN := Lib.hid hn
  have HP := Lib.hid hp
  clear hn hp
  go_enter Tryd.func40, Tryd.ntmps40
  go_wp2_with fail
  go_loopw [5, 8] (fun _ i wr => ∃ k : Nat, k ≤ n ∧ i = .int .i64 k ∧ Hid (∀ j, j < k → p (atR (dL l) j) = false) ∧ Below w.heap.size w wr) (fun _ i _ => n - (intOf i).toNat)
  case atStart => exact ⟨0, Nat.zero_le _, rfl, fun j hj => by omega, Below.refl _ _⟩
  case round =>
    obtain ⟨k, hk, rfl, hA, hB⟩ := hrel
    by_cases hlt : k < n
    · obtain ⟨x, hx⟩ := get_ex (show k < l.length by have := HN.out; omega)
      obtain ⟨ad, rfl, _, hc⟩ := (hr.keep hB (Nat.le_refl _)) k x hx
      have i1 : (0 : Int) ≤ (k : Int) := by omega
      have i2 : (k : Int) < (n : Int) := by omega
      have HX := Lib.hid hx
      clear hx
      by_cases hb : p x.data.toList = true
      · have HB := Lib.hid hb
        clear hb
        go_wp2_with (go_at_fn g; refine (pred_is HP.out HX.out true HB.out hB).mono ?_; rintro e w2 ⟨rfl, hb2⟩)
        go_ret
        exact ⟨⟨_, rfl, (decide_eq_true i1).trans (any_yes HX.out HB.out).symm⟩, bt hB hb2⟩
      · have HB := Lib.hid (Bool.eq_false_iff.2 hb)
        clear hb
        go_wp2_with (go_at_fn g; refine (pred_is HP.out HX.out false HB.out hB).mono ?_; rintro e w2 ⟨rfl, hb2⟩)
        go_roundw
        case rel =>
          refine ⟨k + 1, by omega, by go_num, fun j hj => ?_, bt hB hb2⟩
          by_cases e : j = k
          · subst e
            rw [dL_at HX.out]
            exact HB.out
          · exact hA.out j (by omega)
        case measure => simp [intOf]; omega
    · have hq : ¬ (k : Int) < (n : Int) := by omega
      have R : Hid (decide ((0 : Int) ≤ -1) = anyP p l) := by
        show _ = _
        rw [any_no fun j hj => hA.out j (by have := HN.out; omega)]
        rfl
      go_wp2_with fail
      go_ret
      exact ⟨⟨_, rfl, R.out⟩, hB⟩

set_option maxHeartbeats 1000000 in
theorem contR_any (g : Nat) (lb : Array Value) (eg : ∀ args w, (callFunc g args).run Tryd.prog w = .ok (.enter g args) w) (p : List UInt8 → Bool) (A : Option Addr) (n c : Nat) (l : List ByteArray) (w : World) (hn : l.length = n) (hr : RdS w.heap.size w A l) (hm : n ≤ maxLen) (hp : PredB g lb p l w) :
    Calls Tryd.prog 24 #[.slice A n c, .func (.func g) #[] lb] w fun e w' => e = .returned (.bool (anyP p l)) ∧ Below w.heap.size w w' := by
  go_enter Tryd.func24, Tryd.ntmps24
  go_wp2_with fail
  refine (idxR_any g lb eg p A n c l w hn hr hm hp).mono ?_
  rintro e w2 ⟨⟨z, rfl, hz⟩, hb2⟩
  have HZ := Lib.hid hz
  clear hz
  go_wp2_with fail
  go_ret
  exact ⟨ret_bool HZ.out, hb2⟩
theorem contR_is (g : Nat) (lb : Array Value) (eg : ∀ args w, (callFunc g args).run Tryd.prog w = .ok (.enter g args) w) (p : List UInt8 → Bool) (A : Option Addr) (n c : Nat) (l : List ByteArray) (w : World) (b : Bool) (hb : anyP p l = b) (hn : l.length = n) (hr : RdS w.heap.size w A l) (hm : n ≤ maxLen) (hp : PredB g lb p l w) :
    Calls Tryd.prog 24 #[.slice A n c, .func (.func g) #[] lb] w fun e w' => e = .returned (.bool b) ∧ Below w.heap.size w w' := by
  subst hb
  exact contR_any g lb eg p A n c l w hn hr hm hp

set_option maxHeartbeats 1000000 in
theorem idxL_any (g : Nat) (lb : Array Value) (eg : ∀ args w, (callFunc g args).run Tryd.prog w = .ok (.enter g args) w) (p : List UInt8 → Bool) (A : Option Addr) (n c : Nat) (l : List ByteArray) (w : World) (hn : l.length = n) (hr : RdS w.heap.size w A l) (hm : n ≤ maxLen) (hp : PredB g lb p l w) :
    Calls Tryd.prog 46 #[.slice A n c, .func (.func g) #[] lb] w fun e w' => (∃ z : Int, e = .returned (.int .i64 z) ∧ decide (0 ≤ z) = anyP p l) ∧ Below w.heap.size w w' := by
  unfold maxLen at hm
  have HN := Lib.hid hn
  have HP := Lib.hid hp
  clear hn hp
  go_enter Tryd.func46, Tryd.ntmps46
  go_wp2_with fail
  go_loopw [5, 8] (fun _ i wr => ∃ k : Nat, k ≤ n ∧ i = .int .i64 k ∧ Hid (∀ j, j < k → p (atR (dL l) j) = false) ∧ Below w.heap.size w wr) (fun _ i _ => n - (intOf i).toNat)
  case atStart => exact ⟨0, Nat.zero_le _, rfl, fun j hj => by omega, Below.refl _ _⟩
  case round =>
    obtain ⟨k, hk, rfl, hA, hB⟩ := hrel
    by_cases hlt : k < n
    · obtain ⟨x, hx⟩ := get_ex (show k < l.length by have := HN.out; omega)
      obtain ⟨ad, rfl, _, hc⟩ := (hr.keep hB (Nat.le_refl _)) k x hx
      have i1 : (0 : Int) ≤ (k : Int) := by omega
      have i2 : (k : Int) < (n : Int) := by omega
      have HX := Lib.hid hx
      clear hx
      by_cases hb : p x.data.toList = true
      · have HB := Lib.hid hb
        clear hb
        go_wp2_with (go_at_fn g; refine (pred_is HP.out HX.out true HB.out hB).mono ?_; rintro e w2 ⟨rfl, hb2⟩)
        go_ret
        exact ⟨⟨_, rfl, (decide_eq_true i1).trans (any_yes HX.out HB.out).symm⟩, bt hB hb2⟩
      · have HB := Lib.hid (Bool.eq_false_iff.2 hb)
        clear hb
        go_wp2_with (go_at_fn g; refine (pred_is HP.out HX.out false HB.out hB).mono ?_; rintro e w2 ⟨rfl, hb2⟩)
        go_roundw
        case rel =>
          refine ⟨k + 1, by omega, by go_num, fun j hj => ?_, bt hB hb2⟩
          by_cases e : j = k
          · subst e
            rw [dL_at HX.out]
            exact HB.out
          · exact hA.out j (by omega)
        case measure => simp [intOf]; omega
    · have hq : ¬ (k : Int) < (n : Int) := by omega
      have R : Hid (decide ((0 : Int) ≤ -1) = anyP p l) := by
        show _ = _
        rw [any_no fun j hj => hA.out j (by have := HN.out; omega)]
        rfl
      go_wp2_with fail
      go_ret
      exact ⟨⟨_, rfl, R.out⟩, hB⟩

set_option maxHeartbeats 1000000 in
theorem contL_any (g : Nat) (lb : Array Value) (eg : ∀ args w, (callFunc g args).run Tryd.prog w = .ok (.enter g args) w) (p : List UInt8 → Bool) (A : Option Addr) (n c : Nat) (l : List ByteArray) (w : World) (hn : l.length = n) (hr : RdS w.heap.size w A l) (hm : n ≤ maxLen) (hp : PredB g lb p l w) :
    Calls Tryd.prog 34 #[.slice A n c, .func (.func g) #[] lb] w fun e w' => e = .returned (.bool (anyP p l)) ∧ Below w.heap.size w w' := by
  go_enter Tryd.func34, Tryd.ntmps34
  go_wp2_with fail
  refine (idxL_any g lb eg p A n c l w hn hr hm hp).mono ?_
  rintro e w2 ⟨⟨z, rfl, hz⟩, hb2⟩
  have HZ := Lib.hid hz
  clear hz
  go_wp2_with fail
  go_ret
  exact ⟨ret_bool HZ.out, hb2⟩
theorem contL_is (g : Nat) (lb : Array Value) (eg : ∀ args w, (callFunc g args).run Tryd.prog w = .ok (.enter g args) w) (p : List UInt8 → Bool) (A : Option Addr) (n c : Nat) (l : List ByteArray) (w : World) (b : Bool) (hb : anyP p l = b) (hn : l.length = n) (hr : RdS w.heap.size w A l) (hm : n ≤ maxLen) (hp : PredB g lb p l w) :
    Calls Tryd.prog 34 #[.slice A n c, .func (.func g) #[] lb] w fun e w' => e = .returned (.bool b) ∧ Below w.heap.size w w' := by
  subst hb
  exact contL_any g lb eg p A n c l w hn hr hm hp
end Go.Proofs.YtccdpbcldpmegaaDoor
