/-
  WHAT IS PROVED: of the document's answers for reaches (spinneyref04): Same, for all slices of strings. Conditions: those typed in each theorem. · slices.ContainsFunc (and IndexFunc) of a slice of strings tells whether a predicate holds of one of them, for every function value that answers so and leaves what lay there. Conditions: those typed in each theorem. · the document's order of ints and of texts (spinneyref01.Ints, Texts), for every two. Conditions: those typed in each theorem. · spinneyref04.Good tells whether a list of strings is a reach, as goodR does, for every slice of strings. Conditions: those typed in the theorem. · of the code of reaches: prefixes tells whether all may be prefixes, Has whether one of them begins a text, Covers whether one has all that another one has. Conditions: those typed in each theorem. · plain facts on what is left of a sorted list of texts if each is dropped that begins with the last one left: the reach of these prefixes. No program. No condition. · slices.Clone and slices.Sort of strings in the words of owned rows; reach.least answers a row of its own of what is left (leastOf). Conditions: those typed in each theorem. · strings.Clone answers the same text; fresh.Texts answers the same texts in a row of its own. Conditions: those typed in each theorem.
-/
import Derived.Test.YtpjleeeligahaaaGreatDoorGQ7
import Derived.Test.YtpjleeeligahaaaGreatDoorGQ0
import Derived.Shelf.Abstract
import Derived.Test.YtpjleeeligahaaaGreatDoorGQ1
import Derived.IntWalk
import Derived.Test.YtpjleeeligahaaaGreatDoorShelf
import Derived.Lib.OwnBridge
import Derived.Sort.Grow
import Derived.Laws.MakeOwn
namespace Go.Proofs.YtpjleeeligahaaaGreatDoor
open Go.RowKit

/-- The texts as lists of bytes. -/
abbrev dL (l : List ByteArray) : List (List UInt8) := l.map (·.data.toList)
theorem dL_len (l : List ByteArray) : (dL l).length = l.length := by simp
theorem dL_get {l : List ByteArray} {k : Nat} {x : ByteArray} (h : l[k]? = some x) : (dL l)[k]? = some x.data.toList := by rw [List.getElem?_map, h]; rfl
theorem dL_at {l : List ByteArray} {k : Nat} {x : ByteArray} (h : l[k]? = some x) : atR (dL l) k = x.data.toList := atR_get (dL_get h)
theorem get_ex {l : List ByteArray} {k : Nat} (h : k < l.length) : ∃ x, l[k]? = some x := ⟨_, List.getElem?_eq_getElem h⟩

/-- The same lists? -/
def sameB (l l2 : List ByteArray) : Bool := decide (dL l = dL l2)
theorem same_no {l l2 : List ByteArray} {k : Nat} {x y : ByteArray} (h : l[k]? = some x) (h2 : l2[k]? = some y) (hne : x.data.toList ≠ y.data.toList) : sameB l l2 = false := by
  unfold sameB
  rw [decide_eq_false_iff_not]
  intro e
  have h3 := dL_get h
  rw [e, dL_get h2] at h3
  injection h3 with h3
  exact hne h3.symm
theorem same_len {l l2 : List ByteArray} (h : l.length ≠ l2.length) : sameB l l2 = false := by
  unfold sameB
  rw [decide_eq_false_iff_not]
  intro e
  have := congrArg List.length e
  rw [dL_len, dL_len] at this
  exact h this
theorem same_yes {l l2 : List ByteArray} (h : l.length = l2.length) (hA : ∀ j, j < l.length → atR (dL l) j = atR (dL l2) j) : sameB l l2 = true := by
  unfold sameB
  rw [decide_eq_true_eq]
  apply List.ext_getElem?
  intro i
  by_cases hi : i < l.length
  · obtain ⟨x, hx⟩ := get_ex hi
    obtain ⟨y, hy⟩ := get_ex (l := l2) (k := i) (by omega)
    have := hA i hi
    rw [dL_at hx, dL_at hy] at this
    rw [dL_get hx, dL_get hy, this]
  · rw [List.getElem?_eq_none (by rw [dL_len]; omega), List.getElem?_eq_none (by rw [dL_len]; omega)]

set_option maxHeartbeats 1000000 in
theorem refSame_any {B C : Nat} (A A2 : Option Addr) (n c m d : Nat) (l l2 : List ByteArray) (w : World) (hn : l.length = n) (hr : RdS B w A l) (hm : n ≤ maxLen) (hn2 : l2.length = m) (hr2 : RdS C w A2 l2) :
    Calls Tryz.prog 50 #[.slice A n c, .slice A2 m d] w fun e w' => e = .returned (.bool (sameB l l2)) ∧ Drn w w' := by
  unfold maxLen at hm
  have HN := Lib.hid hn
  have HN2 := Lib.hid hn2
  clear hn hn2
  by_cases hnm : n = m
  · subst hnm
    go_enter Tryz.func50, Tryz.ntmps50
    go_wp2_with fail
    go_loopw [13] (fun i wr => ∃ k : Nat, k ≤ n ∧ i = .int .i64 k ∧ Hid (∀ j, j < k → atR (dL l) j = atR (dL l2) j) ∧ Drn w wr) (fun i _ => n - (intOf i).toNat)
    case atStart => exact ⟨0, Nat.zero_le _, rfl, fun j hj => by omega, Drn.refl _⟩
    case round =>
      obtain ⟨k, hk, rfl, hA, hD⟩ := hrel
      by_cases hlt : k < n
      · obtain ⟨x, hx⟩ := get_ex (show k < l.length by have := HN.out; omega)
        obtain ⟨y, hy⟩ := get_ex (show k < l2.length by have := HN2.out; omega)
        obtain ⟨ad, rfl, _, hc⟩ := (hr.keep (hD.below B) (Nat.le_refl _)) k x hx
        obtain ⟨ad2, rfl, _, hc2⟩ := (hr2.keep (hD.below C) (Nat.le_refl _)) k y hy
        have i1 : (0 : Int) ≤ (k : Int) := by omega
        have i2 : (k : Int) < (n : Int) := by omega
        have HX := Lib.hid hx
        have HY := Lib.hid hy
        clear hx hy
        by_cases hxy : x.data.toList = y.data.toList
        · have e0 : (x.toList == y.toList) = true := by rw [str_eqB, hxy]; simp
          have HA2 : Hid (∀ j, j < k + 1 → atR (dL l) j = atR (dL l2) j) := fun j hj => by
            by_cases e : j = k
            · subst e
              rw [dL_at HX.out, dL_at HY.out, hxy]
            · exact hA.out j (by omega)
          clear hxy hA
          go_wp2_with fail
          go_quiet (fail)
          go_wp2_with fail
          go_roundw
          case rel => exact ⟨k + 1, by omega, by go_num, HA2, hD.draws _⟩
          case measure => simp [intOf]; omega
        · have e0 : (x.toList == y.toList) = false := by rw [str_eqB]; simpa using hxy
          have R := Lib.hid (same_no HX.out HY.out hxy)
          clear hxy hA
          go_wp2_with fail
          go_quiet (fail)
          go_wp2_with fail
          go_ret
          exact ⟨ret_bool R.out.symm, hD.draws _⟩
      · have hq : ¬ (k : Int) < (n : Int) := by omega
        have R : Hid (sameB l l2 = true) := same_yes (HN.out.trans HN2.out.symm) fun j hj => hA.out j (by have := HN.out; omega)
        clear hA
        go_wp2_with fail
        go_ret
        exact ⟨ret_bool R.out.symm, hD⟩
  · have e0 : ((n : Int) != (m : Int)) = true := by rw [bne_iff_ne]; omega
    have R := Lib.hid (same_len (l := l) (l2 := l2) (by rw [HN.out, HN2.out]; exact hnm))
    clear hnm
    go_enter Tryz.func50, Tryz.ntmps50
    go_wp2_with fail
    go_ret
    exact ⟨ret_bool R.out.symm, Drn.refl _⟩
theorem take_succ_get {l : List ByteArray} {k : Nat} {x : ByteArray} (h : l[k]? = some x) : (dL l).take (k + 1) = (dL l).take k ++ [x.data.toList] := by
  have hg := dL_get h
  have hk := (List.getElem?_eq_some_iff.1 hg).1
  rw [List.take_succ_eq_append_getElem hk]
  congr 1
  rw [List.getElem?_eq_getElem hk] at hg
  injection hg with hg
  rw [hg]
theorem ByteArray.toList_data_append' (a b : ByteArray) : (a ++ b).data.toList = a.data.toList ++ b.data.toList := by simp
theorem ret_strD {a b : ByteArray} (h : a.data.toList = b.data.toList) : Ending.returned (.string a) = .returned (.string b) := by
  rw [show a = b from ByteArray.ext (Array.toList_inj.1 h)]
end Go.Proofs.YtpjleeeligahaaaGreatDoor

namespace Go.Proofs.YtpjleeeligahaaaGreatDoor
open Go.RowKit

/-- A function value that tells of each of these whether p holds, in whatever world that keeps w. -/
def PredB (g : Nat) (lb : Array Value) (p : List UInt8 → Bool) (l : List ByteArray) (w : World) : Prop :=
  ∀ (x : ByteArray), x ∈ l → ∀ W, Below w.heap.size w W → Calls Tryz.prog g (#[.string x] ++ lb) W fun e W' => e = .returned (.bool (p x.data.toList)) ∧ Below W.heap.size W W'
theorem pred_is {g : Nat} {lb : Array Value} {p : List UInt8 → Bool} {l : List ByteArray} {w : World} (h : PredB g lb p l w) {k : Nat} {x : ByteArray} (hx : l[k]? = some x) (b : Bool) (hb : p x.data.toList = b) {W : World} (hB : Below w.heap.size w W) :
    Calls Tryz.prog g (#[.string x] ++ lb) W fun e W' => e = .returned (.bool b) ∧ Below W.heap.size W W' := by
  subst hb
  exact h x (List.mem_of_getElem? hx) W hB
/-- Does it hold of one of them? -/
def anyP (p : List UInt8 → Bool) (l : List ByteArray) : Bool := (dL l).any p
theorem any_yes {l : List ByteArray} {p : List UInt8 → Bool} {k : Nat} {x : ByteArray} (hx : l[k]? = some x) (hb : p x.data.toList = true) : anyP p l = true :=
  List.any_eq_true.2 ⟨_, List.mem_of_getElem? (dL_get hx), hb⟩
theorem any_no {l : List ByteArray} {p : List UInt8 → Bool} (h : ∀ j, j < l.length → p (atR (dL l) j) = false) : anyP p l = false := by
  unfold anyP
  rw [List.any_eq_false]
  intro x hx
  obtain ⟨i, hi, rfl⟩ := mem_atR hx
  rw [h i (by rwa [dL_len] at hi)]
  exact Bool.false_ne_true

set_option maxHeartbeats 1000000 in
theorem idxL_any (g : Nat) (lb : Array Value) (eg : ∀ args w, (callFunc g args).run Tryz.prog w = .ok (.enter g args) w) (p : List UInt8 → Bool) (A : Option Addr) (n c : Nat) (l : List ByteArray) (w : World) (hn : l.length = n) (hr : RdS w.heap.size w A l) (hm : n ≤ maxLen) (hp : PredB g lb p l w) :
    Calls Tryz.prog 169 #[.slice A n c, .func (.func g) #[] lb] w fun e w' => (∃ z : Int, e = .returned (.int .i64 z) ∧ decide (0 ≤ z) = anyP p l) ∧ Below w.heap.size w w' := by
  unfold maxLen at hm
  have HN := Lib.hid hn
  have HP := Lib.hid hp
  clear hn hp
  go_enter Tryz.func169, Tryz.ntmps169
  go_wp2_with fail
  go_loopw [5, 8] (fun _ i wr => ∃ k : Nat, k ≤ n ∧ i = .int .i64 k ∧ Hid (∀ j, j < k → p (atR (dL l) j) = false) ∧ Below w.heap.size w wr) (fun _ i _ => n - (intOf i).toNat)
  case atStart => exact ⟨0, Nat.zero_le _, rfl, fun j hj => by omega, Below.refl _ _⟩
  case round =>
    obtain ⟨k, hk, rfl, hA, hB⟩ := hrel
    by_cases hlt : k < n
    · obtain ⟨x, hx⟩ := get_ex (show k < l.length by have := HN.out; omega)
      obtain ⟨ad, rfl, _, hc⟩ := (hr.keep hB (Nat.le_refl _)) k x hx
      have i1 : (0 : Int) ≤ (k : Int) := by omega
      have i2 : (k : Int) < (n : Int) := by omega
      have HX := Lib.hid hx
      clear hx
      by_cases hb : p x.data.toList = true
      · have HB := Lib.hid hb
        clear hb
        go_wp2_with (go_at_fn g; refine (pred_is HP.out HX.out true HB.out hB).mono ?_; rintro e w2 ⟨rfl, hb2⟩)
        go_ret
        exact ⟨⟨_, rfl, (decide_eq_true i1).trans (any_yes HX.out HB.out).symm⟩, bt hB hb2⟩
      · have HB := Lib.hid (Bool.eq_false_iff.2 hb)
        clear hb
        go_wp2_with (go_at_fn g; refine (pred_is HP.out HX.out false HB.out hB).mono ?_; rintro e w2 ⟨rfl, hb2⟩)
        go_roundw
        case rel =>
          refine ⟨k + 1, by omega, by go_num, fun j hj => ?_, bt hB hb2⟩
          by_cases e : j = k
          · subst e
            rw [dL_at HX.out]
            exact HB.out
          · exact hA.out j (by omega)
        case measure => simp [intOf]; omega
    · have hq : ¬ (k : Int) < (n : Int) := by omega
      have R : Hid (decide ((0 : Int) ≤ -1) = anyP p l) := by
        show _ = _
        rw [any_no fun j hj => hA.out j (by have := HN.out; omega)]
        rfl
      go_wp2_with fail
      go_ret
      exact ⟨⟨_, rfl, R.out⟩, hB⟩

set_option maxHeartbeats 1000000 in
theorem contL_any (g : Nat) (lb : Array Value) (eg : ∀ args w, (callFunc g args).run Tryz.prog w = .ok (.enter g args) w) (p : List UInt8 → Bool) (A : Option Addr) (n c : Nat) (l : List ByteArray) (w : World) (hn : l.length = n) (hr : RdS w.heap.size w A l) (hm : n ≤ maxLen) (hp : PredB g lb p l w) :
    Calls Tryz.prog 160 #[.slice A n c, .func (.func g) #[] lb] w fun e w' => e = .returned (.bool (anyP p l)) ∧ Below w.heap.size w w' := by
  go_enter Tryz.func160, Tryz.ntmps160
  go_wp2_with fail
  refine (idxL_any g lb eg p A n c l w hn hr hm hp).mono ?_
  rintro e w2 ⟨⟨z, rfl, hz⟩, hb2⟩
  have HZ := Lib.hid hz
  clear hz
  go_wp2_with fail
  go_ret
  exact ⟨ret_bool HZ.out, hb2⟩
theorem contL_is (g : Nat) (lb : Array Value) (eg : ∀ args w, (callFunc g args).run Tryz.prog w = .ok (.enter g args) w) (p : List UInt8 → Bool) (A : Option Addr) (n c : Nat) (l : List ByteArray) (w : World) (b : Bool) (hb : anyP p l = b) (hn : l.length = n) (hr : RdS w.heap.size w A l) (hm : n ≤ maxLen) (hp : PredB g lb p l w) :
    Calls Tryz.prog 160 #[.slice A n c, .func (.func g) #[] lb] w fun e w' => e = .returned (.bool b) ∧ Below w.heap.size w w' := by
  subst hb
  exact contL_any g lb eg p A n c l w hn hr hm hp
end Go.Proofs.YtpjleeeligahaaaGreatDoor

namespace Go.Proofs.YtpjleeeligahaaaGreatDoor
open Go.RowKit

theorem cmp_bytes (a b : UInt8) (l m : List UInt8) (h : a ≠ b) : Lib.compareBytes (a :: l) (b :: m) = Lib.compareInt a.toNat b.toNat := by
  have hn : a.toNat ≠ b.toNat := fun e => h (UInt8.toNat_inj.1 e)
  unfold Lib.compareBytes Lib.compareInt
  simp only [UInt8.lt_iff_toNat_lt, Int.ofNat_lt, gt_iff_lt]
  by_cases h1 : a.toNat < b.toNat
  · simp [h1]
  · have h2 : b.toNat < a.toNat := by omega
    simp [h1, h2]
theorem cmp_same (a : UInt8) (l m : List UInt8) : Lib.compareBytes (a :: l) (a :: m) = Lib.compareBytes l m := by
  have h : ¬ a < a := by rw [UInt8.lt_iff_toNat_lt]; omega
  simp [Lib.compareBytes, h]
theorem cmp_end (l m : List UInt8) (h : l = [] ∨ m = []) : Lib.compareBytes l m = Lib.compareInt l.length m.length := by
  rcases h with rfl | rfl
  · cases m with
    | nil => rfl
    | cons b t =>
      have h1 : ((0 : Nat) : Int) < ((t.length + 1 : Nat) : Int) := by omega
      simp only [Lib.compareBytes, List.length_nil, List.length_cons, Lib.compareInt, h1, if_true]
  · cases l with
    | nil => rfl
    | cons b t =>
      have h1 : ¬ ((t.length + 1 : Nat) : Int) < ((0 : Nat) : Int) := by omega
      have h2 : ((t.length + 1 : Nat) : Int) > ((0 : Nat) : Int) := by omega
      simp only [Lib.compareBytes, List.length_nil, List.length_cons, Lib.compareInt, h1, h2, if_false, if_true]



end Go.Proofs.YtpjleeeligahaaaGreatDoor

namespace Go.Proofs.YtpjleeeligahaaaGreatDoor
open Go.RowKit

theorem RdS.cells {B : Nat} {W : World} {ad : Addr} {l : List ByteArray} (h : RdS B W (some ad) l) {k : Nat} {x : ByteArray} (hx : l[k]? = some x) : W.cell? (ad.add k) = some (.string x) := by
  obtain ⟨a2, e, _, hc⟩ := h k x hx
  injection e with e
  subst e
  exact hc
theorem emptyB (x : ByteArray) : x.toList.isEmpty = x.data.toList.isEmpty := by rw [ByteArray.toList_eq]
theorem refKey_is (s : ByteArray) (b : Bool) (h : keyB s.data.toList = b) (hs : s.size ≤ maxLen) (w : World) :
    Calls Tryz.prog 111 #[.string s] w fun e w' => e = .returned (.bool b) ∧ w = w' := by
  subst h
  exact refKey_any s w hs
theorem ltB_val {a b : List UInt8} : (ltB a b = true ∧ Lib.compareBytes a b = -1) ∨ (ltB a b = false ∧ Lib.compareBytes a b = 0) ∨ (ltB a b = false ∧ Lib.compareBytes a b = 1) := by
  unfold ltB
  rcases cmpB_cases a b with h | h | h
  · exact Or.inl ⟨by rw [h]; rfl, h⟩
  · exact Or.inr (Or.inl ⟨by rw [h]; rfl, h⟩)
  · exact Or.inr (Or.inr ⟨by rw [h]; rfl, h⟩)
theorem okAt_pre {r : List (List UInt8)} {i : Nat} (h : preB (atR r i) = false) : okAt r i = false := by
  rw [Bool.eq_false_iff]
  intro hh
  rw [(okAt_iff.1 hh).1] at h
  cases h
theorem okAt_lt {r : List (List UInt8)} {i : Nat} (h0 : i ≠ 0) (h : ltB (atR r (i - 1)) (atR r i) = false) : okAt r i = false := by
  rw [Bool.eq_false_iff]
  intro hh
  rcases (okAt_iff.1 hh).2.1 with e | e
  · exact h0 e
  · rw [e] at h; cases h
theorem okAt_beg {r : List (List UInt8)} {i k : Nat} (hk : k < r.length) (hne : k ≠ i) (h : begB (atR r k) (atR r i) = true) : okAt r i = false := by
  rw [Bool.eq_false_iff]
  intro hh
  rw [(okAt_iff.1 hh).2.2 k hk hne] at h
  cases h

end Go.Proofs.YtpjleeeligahaaaGreatDoor

namespace Go.Proofs.YtpjleeeligahaaaGreatDoor
open Go.RowKit

theorem enters_pre : ∀ args w, (callFunc 161 args).run Tryz.prog w = .ok (.enter 161 args) w := enters_of Tryz.func161 (by kernel_rfl) rfl
theorem key_is (s : ByteArray) (w : World) (b : Bool) (hb : keyB s.data.toList = b) (hs : s.size ≤ maxLen) :
    Calls Tryz.prog 156 #[.string s] w fun e w' => e = .returned (.bool b) ∧ Below w.heap.size w w' := by
  subst hb
  exact key_any s w hs

/-! prefixes -/
set_option maxHeartbeats 1000000 in
theorem pre1_any (x : ByteArray) (W : World) (hs : x.size ≤ maxLen) :
    Calls Tryz.prog 161 #[.string x] W fun e W' => e = .returned (.bool (!preB x.data.toList)) ∧ Below W.heap.size W W' := by
  have HS := Lib.hid hs
  clear hs
  by_cases h0 : x.data.toList = []
  · have e0 : x.toList.isEmpty = true := by rw [ByteArray.toList_eq, h0]; rfl
    have R := Lib.hid (show (!preB x.data.toList) = false by rw [h0]; rfl)
    clear h0
    go_enter Tryz.func161, Tryz.ntmps161
    go_wp2_with fail
    go_ret
    exact ⟨ret_bool R.out.symm, Below.refl _ _⟩
  · have e0 : x.toList.isEmpty = false := by
      rw [ByteArray.toList_eq]
      cases hx : x.data.toList with
      | nil => exact absurd hx h0
      | cons => rfl
    have e1 : preB x.data.toList = keyB x.data.toList := by
      unfold preB
      rw [← ByteArray.toList_eq, e0, Bool.false_or]
    cases hk : keyB x.data.toList with
    | true =>
      have HK := Lib.hid hk
      have R := Lib.hid (show (!preB x.data.toList) = false by rw [e1, hk]; rfl)
      clear h0 hk e1
      go_enter Tryz.func161, Tryz.ntmps161
      go_wp2_with (go_at_call 156; refine (key_is _ _ true HK.out HS.out).mono ?_; rintro e w2 ⟨rfl, hb2⟩)
      go_ret
      exact ⟨ret_bool R.out.symm, hb2⟩
    | false =>
      have HK := Lib.hid hk
      have R := Lib.hid (show (!preB x.data.toList) = true by rw [e1, hk]; rfl)
      clear h0 hk e1
      go_enter Tryz.func161, Tryz.ntmps161
      go_wp2_with (go_at_call 156; refine (key_is _ _ false HK.out HS.out).mono ?_; rintro e w2 ⟨rfl, hb2⟩)
      go_ret
      exact ⟨ret_bool R.out.symm, hb2⟩
theorem all_not {α : Type} (l : List α) (p : α → Bool) : (!(l.any fun x => !p x)) = l.all p := by
  induction l with
  | nil => rfl
  | cons a t ih => simp [ih]
theorem pre1_pred (l : List ByteArray) (w : World) (hs : ∀ x, x ∈ l → x.size ≤ maxLen) : PredB 161 #[] (fun x => !preB x) l w :=
  fun x hx W _ => pre1_any x W (hs x hx)
theorem prefixes_is (A : Option Addr) (n c : Nat) (l : List ByteArray) (w : World) (b : Bool) (hb : (dL l).all preB = b) (hn : l.length = n) (hr : RdS w.heap.size w A l) (hm : n ≤ maxLen) (hs : ∀ x, x ∈ l → x.size ≤ maxLen) :
    Calls Tryz.prog 133 #[.slice A n c] w fun e w' => e = .returned (.bool b) ∧ Below w.heap.size w w' := by
  have R := Lib.hid (show (!anyP (fun x => !preB x) l) = b by rw [← hb]; exact all_not (dL l) preB)
  have HP := Lib.hid (pre1_pred l w hs)
  clear hb
  go_enter Tryz.func133, Tryz.ntmps133
  go_wp2_with fail
  refine (contL_any _ #[] enters_pre (fun x => !preB x) A n c l w hn hr hm HP.out).mono ?_
  rintro e w2 ⟨rfl, hb2⟩
  generalize anyP (fun x => !preB x) l = v at R ⊢
  go_wp2_with fail
  go_ret
  exact ⟨ret_bool R.out, hb2⟩

/-! Has -/
theorem hasPrefix_beg (s p : List UInt8) : Lib.hasPrefix s p = begB p s := rfl
/-! Covers -/
end Go.Proofs.YtpjleeeligahaaaGreatDoor

namespace Go.Proofs.YtpjleeeligahaaaGreatDoor
open Go

theorem lex_cons (a b : UInt8) (as1 bs : List UInt8) : Lib.compareBytes (a :: as1) (b :: bs) = if a < b then -1 else if b < a then 1 else Lib.compareBytes as1 bs := by simp only [Lib.compareBytes]
theorem begB_cons (a b : UInt8) (as1 bs : List UInt8) : begB (a :: as1) (b :: bs) = ((a == b) && begB as1 bs) := by simp [begB, List.isPrefixOf]
theorem u8_eq {a b : UInt8} (h : ¬ a < b) (k : ¬ b < a) : a = b := by
  rw [UInt8.lt_iff_toNat_lt] at *
  exact UInt8.toNat_inj.1 (by omega)
theorem u8_irrefl (a : UInt8) : ¬ a < a := by rw [UInt8.lt_iff_toNat_lt]; omega
theorem ltB_cons (a b : UInt8) (as1 bs : List UInt8) : ltB (a :: as1) (b :: bs) = if a < b then true else if b < a then false else ltB as1 bs := by
  unfold ltB
  rw [lex_cons]
  by_cases h : a < b
  · simp [h]
  · by_cases k : b < a
    · simp [h, k]
    · simp [h, k]
/-- What stands between a text and one that it begins begins with it. -/
theorem begB_between : ∀ (y q p : List UInt8), begB y p = true → ltB q y = false → ltB p q = false → begB y q = true
  | [], q, p, _, _, _ => by simp [begB, List.isPrefixOf]
  | a :: y, [], p, _, h1, _ => by simp [ltB, Lib.compareBytes] at h1
  | a :: y, b :: q, [], h, _, _ => by simp [begB, List.isPrefixOf] at h
  | a :: y, b :: q, c :: p, h, h1, h2 => by
    rw [begB_cons, Bool.and_eq_true, beq_iff_eq] at h
    obtain ⟨rfl, h⟩ := h
    rw [ltB_cons] at h1 h2
    have n1 : ¬ b < a := fun e => by simp [e] at h1
    have n2 : ¬ a < b := fun e => by simp [e] at h2
    have e : a = b := u8_eq n2 n1
    subst e
    rw [if_neg (u8_irrefl _), if_neg (u8_irrefl _)] at h1 h2
    rw [begB_cons, begB_between y q p h h1 h2]
    simp
/-- What begins a text isn't behind it. -/
theorem begB_le : ∀ (p x : List UInt8), begB p x = true → ltB x p = false
  | [], x, _ => by cases x <;> simp [ltB, Lib.compareBytes]
  | a :: p, [], h => by simp [begB, List.isPrefixOf] at h
  | a :: p, b :: x, h => by
    rw [begB_cons, Bool.and_eq_true, beq_iff_eq] at h
    obtain ⟨rfl, h⟩ := h
    rw [ltB_cons, if_neg (u8_irrefl _), if_neg (u8_irrefl _)]
    exact begB_le p x h
theorem list_lt_iff : ∀ (x y : List UInt8), x < y ↔ ltB x y = true
  | [], [] => by simp [ltB, Lib.compareBytes]
  | [], _ :: _ => by simp [ltB, Lib.compareBytes]
  | _ :: _, [] => by simp [ltB, Lib.compareBytes]
  | a :: x, b :: y => by
    rw [List.cons_lt_cons_iff, ltB_cons, list_lt_iff x y]
    by_cases h : a < b
    · simp [h]
    · by_cases k : b < a
      · have hne : a ≠ b := fun e => by subst e; exact h k
        simp [h, k, hne]
      · have e := u8_eq h k
        subst e
        simp [h]
theorem list_le_iff (x y : List UInt8) : decide (x ≤ y) = !ltB y x := by
  rw [Bool.eq_iff_iff, decide_eq_true_eq, Bool.not_eq_true', ← Bool.not_eq_true, ← list_lt_iff]
  exact List.not_lt.symm

/-- With one more. -/
def leastStep (left : List (List UInt8)) (p : List UInt8) : List (List UInt8) :=
  if left = [] ∨ begB (atR left (left.length - 1)) p = false then left ++ [p] else left
/-- What is left of a sorted list. -/
def leastL (s : List (List UInt8)) : List (List UInt8) := s.foldl leastStep []
theorem leastL_snoc (s : List (List UInt8)) (p : List UInt8) : leastL (s ++ [p]) = leastStep (leastL s) p := by
  unfold leastL
  rw [List.foldl_append]
  rfl
theorem leastStep_le (l : List (List UInt8)) (p : List UInt8) : (leastStep l p).length ≤ l.length + 1 := by
  unfold leastStep
  split <;> simp
theorem leastL_le (s : List (List UInt8)) : (leastL s).length ≤ s.length := by
  have key : ∀ (s l : List (List UInt8)), (s.foldl leastStep l).length ≤ l.length + s.length := by
    intro s
    induction s with
    | nil => intro l; simp
    | cons p s ih =>
      intro l
      have h1 := ih (leastStep l p)
      have h2 := leastStep_le l p
      simp only [List.foldl_cons, List.length_cons]
      omega
  have := key s []
  simpa [leastL] using this
/-- Sorted, though not each once. -/
def Sorted (s : List (List UInt8)) : Prop := s.Pairwise fun a b => ltB b a = false
/-- What the loop keeps. -/
structure LeastInv (s L : List (List UInt8)) : Prop where
  rises : Rises L
  mem : ∀ x, x ∈ L → x ∈ s
  low : ∀ x, x ∈ L → ∀ y, y ∈ s → begB y x = true → y = x
  cov : ∀ x, x ∈ s → ∃ y, y ∈ L ∧ begB y x = true
theorem least_inv_nil : LeastInv [] [] := ⟨List.Pairwise.nil, fun _ h => h, fun _ h => by simp at h, fun _ h => by simp at h⟩
theorem le_eq {a b : List UInt8} (h : ltB a b = false) (k : ltB b a = false) : a = b := by
  apply Classical.byContradiction
  intro hne
  rw [ltB_total h hne] at k
  cases k
theorem least_inv_step {s L : List (List UInt8)} {p : List UInt8} (h : LeastInv s L) (hp : ∀ x, x ∈ s → ltB p x = false) : LeastInv (s ++ [p]) (leastStep L p) := by
  unfold leastStep
  by_cases h0 : L = []
  · subst h0
    have hs : s = [] := by
      cases s with
      | nil => rfl
      | cons a t =>
        obtain ⟨y, hy, _⟩ := h.cov a List.mem_cons_self
        simp at hy
    subst hs
    rw [if_pos (Or.inl rfl)]
    refine ⟨by simp [Rises], fun x hx => hx, fun x hx y hy _ => ?_, fun x hx => ⟨x, hx, begB_refl x⟩⟩
    simp at hx hy
    rw [hx, hy]
  · have hlen := List.length_pos_iff.2 h0
    have hq : atR L (L.length - 1) ∈ L := atR_mem (by omega)
    have hlast : ∀ y, y ∈ L → y ≠ atR L (L.length - 1) → ltB y (atR L (L.length - 1)) = true := by
      intro y hy hne
      obtain ⟨i, hi, rfl⟩ := mem_atR hy
      have : i ≠ L.length - 1 := fun e => hne (by rw [e])
      exact rises_at h.rises (by omega) (by omega)
    generalize hqe : atR L (L.length - 1) = q at hq hlast
    by_cases hb : begB q p = true
    · rw [if_neg (by simp [h0, hb])]
      refine ⟨h.rises, fun x hx => List.mem_append_left _ (h.mem x hx), fun x hx y hy hbx => ?_, fun x hx => ?_⟩
      · rcases List.mem_append.1 hy with hy | hy
        · exact h.low x hx y hy hbx
        · rw [List.mem_singleton] at hy
          subst hy
          exact (le_eq (begB_le _ _ hbx) (hp x (h.mem x hx))).symm
      · rcases List.mem_append.1 hx with hx | hx
        · exact h.cov x hx
        · rw [List.mem_singleton] at hx
          subst hx
          exact ⟨q, hq, hb⟩
    · have hb' : begB q p = false := by simpa using hb
      rw [if_pos (Or.inr hb')]
      have hL : ∀ y, y ∈ L → begB y p = false := by
        intro y hy
        rw [Bool.eq_false_iff]
        intro hyp
        by_cases e : y = q
        · rw [e, hb'] at hyp; cases hyp
        · have h1 := ltB_asymm (hlast y hy e)
          have h2 := begB_between y q p hyp h1 (hp q (h.mem q hq))
          exact e (h.low q hq y (h.mem y hy) h2)
      have hS : ∀ y, y ∈ s → begB y p = false := by
        intro y hy
        rw [Bool.eq_false_iff]
        intro hyp
        obtain ⟨z, hz, hzy⟩ := h.cov y hy
        have := hL z hz
        rw [begB_trans hzy hyp] at this
        cases this
      refine ⟨?_, fun x hx => ?_, fun x hx y hy hbx => ?_, fun x hx => ?_⟩
      · refine List.pairwise_append.2 ⟨h.rises, List.pairwise_singleton _ _, fun x hx y hy => ?_⟩
        rw [List.mem_singleton] at hy
        subst hy
        refine ltB_total (hp x (h.mem x hx)) fun e => ?_
        have := hS x (h.mem x hx)
        rw [← e, begB_refl] at this
        cases this
      · rcases List.mem_append.1 hx with hx | hx
        · exact List.mem_append_left _ (h.mem x hx)
        · exact List.mem_append_right _ hx
      · rcases List.mem_append.1 hx with hxL | hx
        · rcases List.mem_append.1 hy with hy | hy
          · exact h.low x hxL y hy hbx
          · rw [List.mem_singleton] at hy
            subst hy
            exact (le_eq (begB_le _ _ hbx) (hp x (h.mem x hxL))).symm
        · rw [List.mem_singleton] at hx
          subst hx
          rcases List.mem_append.1 hy with hy | hy
          · rw [hS y hy] at hbx; cases hbx
          · exact List.mem_singleton.1 hy
      · rcases List.mem_append.1 hx with hx | hx
        · obtain ⟨y, hy, hyx⟩ := h.cov x hx
          exact ⟨y, List.mem_append_left _ hy, hyx⟩
        · exact ⟨x, List.mem_append_right _ hx, begB_refl x⟩
theorem least_inv (s : List (List UInt8)) (hs : Sorted s) : LeastInv s (leastL s) := by
  have key : ∀ k, k ≤ s.length → LeastInv (s.take k) (leastL (s.take k)) := by
    intro k
    induction k with
    | zero => intro _; simpa [leastL] using least_inv_nil
    | succ k ih =>
      intro hk
      rw [List.take_succ_eq_append_getElem (by omega), leastL_snoc]
      refine least_inv_step (ih (by omega)) fun x hx => ?_
      obtain ⟨i, hi, rfl⟩ := List.getElem_of_mem hx
      rw [List.length_take] at hi
      rw [List.getElem_take]
      exact List.pairwise_iff_getElem.1 hs i k (by omega) (by omega) (by omega)
  have := key s.length (Nat.le_refl _)
  rwa [List.take_length] at this
theorem least_made_of {s : List (List UInt8)} (hs : Sorted s) : IsMade (· ∈ s) (leastL s) := by
  have h := least_inv s hs
  refine ⟨h.rises, fun x => ⟨fun hx => ⟨h.mem x hx, fun y hy hb => h.low x hx y hy hb⟩, fun ⟨hx, hy⟩ => ?_⟩⟩
  obtain ⟨y, hyL, hb⟩ := h.cov x hx
  rw [← hy y (h.mem y hyL) hb]
  exact hyL
/-- The sort's answer. -/
def sortL (l : List (List UInt8)) : List (List UInt8) := l.mergeSort fun x y => decide (x ≤ y)
theorem sortL_perm (l : List (List UInt8)) : (sortL l).Perm l := List.mergeSort_perm _ _
theorem sortL_len (l : List (List UInt8)) : (sortL l).length = l.length := (sortL_perm l).length_eq
theorem sortL_sorted (l : List (List UInt8)) : Sorted (sortL l) := by
  have h := List.pairwise_mergeSort (le := fun x y : List UInt8 => decide (x ≤ y)) (fun a b c h k => by
    simp only [decide_eq_true_eq] at *
    exact List.le_trans h k) (fun a b => by
    have := List.le_total a b
    simpa [Bool.or_eq_true] using this) l
  refine h.imp fun {a b} hab => ?_
  rw [list_le_iff] at hab
  simpa using hab
/-- The prefixes that are left of any list. -/
def leastOf (l : List (List UInt8)) : List (List UInt8) := leastL (sortL l)
theorem least_made (l : List (List UInt8)) : IsMade (· ∈ l) (leastOf l) :=
  made_congr (least_made_of (sortL_sorted l)) fun _ => (sortL_perm l).mem_iff
theorem leastOf_len (l : List (List UInt8)) : (leastOf l).length ≤ l.length := by
  have := leastL_le (sortL l)
  rw [sortL_len] at this
  exact this
/-- It is a reach just if all may be prefixes, they are not too many, and none is dropped. -/
theorem goodR_least (r : List (List UInt8)) : goodR r = (decide (r.length ≤ 6) && (r.all preB && decide (r = leastOf r))) := by
  rw [Bool.eq_iff_iff, Bool.and_eq_true, Bool.and_eq_true, decide_eq_true_eq, decide_eq_true_eq, List.all_eq_true]
  constructor
  · intro h
    exact ⟨(goodR_iff.1 h).2, fun x hx => goodR_pre h hx, made_uniq (goodR_made h) (least_made r) fun _ => Iff.rfl⟩
  · rintro ⟨h1, h2, h3⟩
    have hm := least_made r
    rw [← h3] at hm
    exact made_good hm h2 h1
end Go.Proofs.YtpjleeeligahaaaGreatDoor

namespace Go.Proofs.YtpjleeeligahaaaGreatDoor
open Go.RowKit

/-- A row of strings of the call's own that a call answered. -/
def AnsO (base : Nat) (R : List (List UInt8)) (e : Ending) (w' : World) : Prop :=
  ∃ (A : Option Addr) (c : Nat) (r : List ByteArray), e = .returned (.slice A R.length c) ∧ OwnS base w' A R.length c r ∧ dL r = R
theorem rd_nil_len {B : Nat} {W : World} {l : List ByteArray} (h : RdS B W none l) : l = [] := by
  cases l with
  | nil => rfl
  | cons x r =>
    obtain ⟨ad, he, _⟩ := h 0 x rfl
    cases he

set_option maxHeartbeats 1000000 in
theorem clone_any (A : Option Addr) (n c : Nat) (l : List ByteArray) (w : World) (hn : l.length = n) (hr : RdS w.heap.size w A l) (hm : n ≤ 1099511627776) :
    Calls Tryz.prog 162 #[.slice A n c] w fun e w' => (∃ (A' : Option Addr) (c' : Nat), e = .returned (.slice A' n c') ∧ OwnS w.heap.size w' A' n c' l) ∧ Below w.heap.size w w' := by
  obtain ⟨i0, hi0, hz0, hz1, hz2⟩ := info_parts str_info
  have q : ∀ (w : World) (a : Option Addr) (n c n' c' : Nat), (binOp .eql 52 (.slice a n c) (.slice none n' c')).run Tryz.prog w = .ok (.bool a.isNone) w := fun w a n c n' c' => Lib.run_eql_slice_nil w _ _ a n c n' c' Tryz.underlying52
  cases A with
  | none =>
    have h0 := rd_nil_len hr
    subst h0
    subst hn
    go_enter Tryz.func162, Tryz.ntmps162
    go_wp2_with fail
    go_ret
    exact ⟨⟨none, 0, rfl, OwnS.nil _ _⟩, Below.refl _ _⟩
  | some ad =>
    have HN := Lib.hid hn
    clear hn
    have hown : OwnS w.heap.size (w.alloc (.cells #[] 9)) (some ⟨w.heap.size, 0, none⟩) 0 0 [] := OwnS.lit w #[] [] rfl rfl (Nat.le_refl _) (Nat.zero_le _)
    have hr2 := hr.keep (b0 w (.cells #[] 9)) (Nat.le_refl _)
    go_enter Tryz.func162, Tryz.ntmps162
    go_wp2_with (at_builtin; refine wpList_apS (l := []) (l2 := l) (B := w.heap.size) rfl _ _ rfl Tryz.underlying52 Tryz.underlying52 hi0 hz0 hz1 hz2 rfl rfl hown hr2 HN.out n (Nat.zero_add n) (by omega) ?b ?_)
    case b => simp
    intro A' c' w' k1 k2 k3
    go_wp2_with fail
    go_ret
    exact ⟨⟨A', c', rfl, k1⟩, (b0 _ _).trans k2⟩

theorem below_grows (w : World) (os : Array Obj) : Below w.heap.size w (Sort.grow w os) :=
  ⟨rfl, rfl, rfl, by show w.heap.size ≤ (w.heap ++ os).size; rw [Array.size_append]; omega, fun _ hj => Sort.heap_grow_old w os hj⟩
/-- Their texts. -/
def baL (s : List (List UInt8)) : List ByteArray := s.map fun b => ⟨b.toArray⟩
theorem dL_baL (s : List (List UInt8)) : dL (baL s) = s := by
  unfold baL
  rw [dL, List.map_map]
  conv => rhs; rw [← List.map_id s]
  apply List.map_congr_left
  intro x _
  simp
theorem strV_enc (s : List (List UInt8)) : s.map encStr = strV (baL s) := by
  unfold baL
  rw [strV, List.map_map]
  rfl
theorem strV_dL (l : List ByteArray) : strV l = (dL l).map encStr := (Lib.map_encStr l).symm

theorem sort_any {base : Nat} (A : Option Addr) (n c : Nat) (l : List ByteArray) (w : World) (h : OwnS base w A n c l) (hm : n ≤ 1099511627776) (hb : base ≤ w.heap.size) :
    Calls Tryz.prog 163 #[.slice A n c] w fun e w' => e = .returned (.tuple #[]) ∧ OwnS base w' A n c (baL (sortL (dL l))) ∧ Below base w w' := by
  have hl := h.len
  by_cases h0 : n = 0
  · subst h0
    have e0 : l = [] := List.length_eq_zero_iff.1 hl
    subst e0
    refine (Tryz.slices_Sort_string_none A c w).mono ?_
    rintro e w' ⟨rfl, rfl⟩
    refine ⟨rfl, ?_, Below.refl _ _⟩
    have e1 : baL (sortL (dL [])) = [] := by simp [sortL, baL]
    rw [e1]
    exact h
  · have hown : w.ownsRow base 9 1 (.slice A n c) n ((dL l).map encStr) := by rw [← strV_dL]; exact h
    have hne : (Value.slice A n c) ≠ .slice none 0 0 := by
      intro e
      injection e with _ e2 _
      exact h0 e2
    obtain ⟨g, cap, hv, hbg, hg, hnc, hcm, hlen, hH⟩ := Lib.holds_of_ownsRow hown hne
    injection hv with hv1 _ hv3
    subst hv1
    subst hv3
    have hs : (dL l).length < 4611686018427387904 := by rw [hlen]; omega
    have hcall := Tryz.slices_Sort_string g 0 c (dL l) w hH hg hs
    rw [hlen] at hcall
    refine hcall.mono ?_
    rintro e w' ⟨rfl, k, os, rfl⟩
    have hput := Lib.ownsRow_putRow (q := k) (k := n) (ys := sortL (dL l)) hown (by rw [sortL_len]; exact hlen) (Nat.le_refl _)
    rw [List.take_of_length_le (by rw [sortL_len]; omega), strV_enc] at hput
    have hbel := Lib.below_putRow (enc := encStr) (B := base) (w0 := w) (w := w) (g := g) (q := k) (d := (sortL (dL l)).toArray) (Below.refl _ _) hbg
    have hgrow := below_grows (Sort.putRow encStr (Sort.ahead w k) g 0 (sortL (dL l)).toArray) os
    have hput2 : OwnS base (Sort.putRow encStr (Sort.ahead w k) g 0 (sortL (dL l)).toArray) (some ⟨g, 0, none⟩) n c (baL (sortL (dL l))) := hput
    exact ⟨rfl, hput2.keep hgrow, hbel.trans (hgrow.mono (Nat.le_trans hb hbel.size))⟩
theorem baL_len (s : List (List UInt8)) : (baL s).length = s.length := by simp [baL]
theorem baL_get {s : List (List UInt8)} {k : Nat} (h : k < s.length) : (baL s)[k]? = some ⟨s[k].toArray⟩ := by simp [baL, h]
end Go.Proofs.YtpjleeeligahaaaGreatDoor

namespace Go.Proofs.YtpjleeeligahaaaGreatDoor
open Go.RowKit

theorem made_one (v : Value) (n : Nat) : (madeCells #[v] n).toList = List.replicate n v := by
  unfold madeCells
  apply List.ext_getElem
  · simp
  · intro i h1 h2
    simp [Nat.mod_one]
theorem run_makeS (W : World) (n : Nat) (hn : n ≤ 1000000) :
    (Instr.makeSlice 52 (.int .i64 (n : Int)) (.int .i64 (n : Int))).run Tryz.prog W = .ok (.slice (some ⟨W.heap.size, 0, none⟩) n n) (W.alloc (.cells (madeCells #[.string ⟨#[]⟩] n) 9)) := by
  obtain ⟨i0, hi0, hz0, hz1, hz2⟩ := info_parts str_info
  have h := run_make W 52 9 i0 (.string ⟨#[]⟩) Tryz.underlying52 hi0 hz0 .i64 .i64 (n : Int) (n : Int) (by omega) (Int.le_refl _) (by rw [hz2]; omega) (by omega)
  rw [Int.toNat_natCast, hz1, Nat.mul_one] at h
  exact h
theorem ownMade (w : World) (n : Nat) (hn : n ≤ 1000000) : OwnS w.heap.size (w.alloc (.cells (madeCells #[.string ⟨#[]⟩] n) 9)) (some ⟨w.heap.size, 0, none⟩) n n (List.replicate n ⟨#[]⟩) :=
  OwnS.lit w _ _ (by rw [made_one, strV, List.map_replicate]) (by simp) (Nat.le_refl _) (by unfold maxLen; omega)
/-- What stands there behind k rounds. -/
def freshTo (l : List ByteArray) (k : Nat) : List ByteArray := l.take k ++ List.replicate (l.length - k) ⟨#[]⟩
theorem freshTo_zero (l : List ByteArray) : freshTo l 0 = List.replicate l.length ⟨#[]⟩ := by simp [freshTo]
theorem freshTo_all (l : List ByteArray) {k : Nat} (h : k = l.length) : freshTo l k = l := by subst h; simp [freshTo]
theorem freshTo_set {l : List ByteArray} {k : Nat} {x : ByteArray} (h : l[k]? = some x) : (freshTo l k).set k x = freshTo l (k + 1) := by
  obtain ⟨hk, rfl⟩ := List.getElem?_eq_some_iff.1 h
  unfold freshTo
  rw [List.set_append_right _ _ (by rw [List.length_take]; omega), List.length_take, Nat.min_eq_left (by omega), Nat.sub_self]
  obtain ⟨d, hd⟩ : ∃ d, l.length - k = d + 1 := ⟨l.length - k - 1, by omega⟩
  rw [hd, show l.length - (k + 1) = d by omega, List.replicate_succ, List.set_cons_zero, List.take_succ_eq_append_getElem hk, List.append_assoc]
  rfl
theorem OwnS.cellAt {base : Nat} {W : World} {g n c : Nat} {l : List ByteArray} (h : OwnS base W (some ⟨g, 0, none⟩) n c l) {k : Nat} (hk : k < n) : ∃ v, W.cell? ⟨g, k, none⟩ = some v := by
  obtain ⟨ad, he, _, hc⟩ := h.rd.at_ (show k < l.length by rw [h.len]; exact hk)
  injection he with he
  subst he
  have e : (Addr.mk g 0 none).add k = Addr.mk g k none := by unfold Addr.add; split <;> simp_all
  rw [e] at hc
  exact ⟨_, hc⟩

end Go.Proofs.YtpjleeeligahaaaGreatDoor
