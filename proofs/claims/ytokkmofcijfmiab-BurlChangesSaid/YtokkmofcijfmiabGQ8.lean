/-
  WHAT IS PROVED: more words for a row of strings that the call owns: where it lies, that it may be written, a store into it. Over any program. · strings.Clone answers the same text. Conditions: those typed in the theorem. · spinneyref04.begins tells whether a text begins another one, for every two. Conditions: those typed in each theorem. · of the document's answers for reaches (spinneyref04): Same, for all slices of strings. Conditions: those typed in each theorem. · slices.ContainsFunc (and IndexFunc) of a slice of strings tells whether a predicate holds of one of them, for every function value that answers so and leaves what lay there. Conditions: those typed in each theorem. · the document's order of ints and of texts (spinneyref01.Ints, Texts), for every two. Conditions: those typed in each theorem. · spinneyref04.Good tells whether a list of strings is a reach, as goodR does, for every slice of strings. Conditions: those typed in the theorem. · of the code of reaches: prefixes tells whether all may be prefixes, Has whether one of them begins a text, Covers whether one has all that another one has. Conditions: those typed in each theorem.
-/
import Derived.Test.YtokkmofcijfmiabStrs
import Derived.Test.YtokkmofcijfmiabBase
import Derived.Test.YtokkmofcijfmiabShelf
import Derived.Test.YtokkmofcijfmiabReachMath
import Derived.Laws.Strings
import Derived.Shelf.Abstract
import Derived.Test.YtokkmofcijfmiabGQ7
import Derived.Test.YtokkmofcijfmiabGQ1
import Derived.IntWalk
namespace Go.Proofs.Ytokkmofcijfmiab
open Go.RowKit

theorem OwnS.form {base : Nat} {W : World} {A : Option Addr} {n c : Nat} {l : List ByteArray} (h : OwnS base W A n c l) (hn : 0 < n) : ∃ g, A = some ⟨g, 0, none⟩ ∧ base ≤ g ∧ g < W.heap.size := by
  obtain ⟨g, cap, hv, hb, hlt⟩ := World.ownsRow.form h hn
  injection hv with hv
  exact ⟨g, hv, hb, hlt⟩
theorem OwnS.free {base : Nat} {W : World} {g n c : Nat} {l : List ByteArray} (h : OwnS base W (some ⟨g, 0, none⟩) n c l) (i : Nat) : W.frozen? ⟨g, i, none⟩ = false := by
  rcases h.2 with ⟨hv, _⟩ | ⟨g', cap, cur, hv, hb, hg, h1, h2, h3, h4⟩
  · cases hv
  · injection hv with hv1 hv2 hv3
    injection hv1 with hv1
    injection hv1 with hv1
    subst hv1
    simp [World.frozen?, hg]
theorem sF0 {W : World} {p : Addr} {v : Value} (h : W.cell? p = some v) (hf : W.frozen? p = false) : W.drew.cell? p = some v ∧ W.drew.frozen? p = false ∧ Below W.heap.size W W.drew := ⟨h, hf, (Below.refl _ _).drew⟩
theorem sFA {H : Nat} {W w' : World} {p : Addr} {v : Value} (h : w'.cell? p = some v ∧ w'.frozen? p = false ∧ Below H W w') (hl : p.block < H) (hH : H ≤ W.heap.size) (o : Obj) : (w'.alloc o).cell? p = some v ∧ (w'.alloc o).frozen? p = false ∧ Below H W (w'.alloc o) := by
  have hz := h.2.2.size
  exact ⟨((b0 w' o).cell (by omega)).trans h.1, ((b0 w' o).frozen (by omega)).trans h.2.1, h.2.2.alloc (by omega) o⟩
/-- A store into a row of the call's own. -/
theorem OwnS.set {base : Nat} {W : World} {g n c : Nat} {l : List ByteArray} (h : OwnS base W (some ⟨g, 0, none⟩) n c l) (i : Nat) (x : ByteArray) : OwnS base (W.setCell ⟨g, i, none⟩ (.string x)) (some ⟨g, 0, none⟩) n c (l.set i x) := by
  rcases h.2 with ⟨hv, _⟩ | ⟨g', cap, cur, hv, hb, hg, h1, h2, h3, h4⟩
  · cases hv
  · injection hv with hv1 hv2 hv3
    injection hv1 with hv1
    injection hv1 with hv1
    subst hv1
    subst hv3
    refine ⟨by simpa using h.1, .inr ⟨g, c, cur.setIfInBounds i (.string x), rfl, hb, ?_, h1, h2, by simpa using h3, ?_⟩⟩
    · simp [World.setCell, Array.getElem?_modify, hg]
    · rw [Array.toList_setIfInBounds, List.take_set, h4]
      simp [strV, List.map_set]
end Go.Proofs.Ytokkmofcijfmiab

namespace Go.Proofs.Ytokkmofcijfmiab
open Go.RowKit

theorem sclone_any (s : ByteArray) (w : World) (hs : s.size ≤ 1000000) :
    Calls Try.prog 46 #[.string s] w fun e w' => e = .returned (.string s) ∧ Below w.heap.size w w' := by
  go_enter Try.func46, Try.ntmps46
  go_wp2_with fail
  refine (Try.stringslite_Clone s w (by omega)).mono ?_
  rintro e w2 ⟨rfl, hb2⟩
  go_wp2_with fail
  go_ret
  exact ⟨rfl, hb2⟩

end Go.Proofs.Ytokkmofcijfmiab

namespace Go.Proofs.Ytokkmofcijfmiab
open Go.RowKit

theorem str_eqB (a b : ByteArray) : (a.toList == b.toList) = (a.data.toList == b.data.toList) := by rw [ByteArray.toList_eq, ByteArray.toList_eq]
theorem beg_data {p s : ByteArray} (h : p.size ≤ s.size) : begB p.data.toList s.data.toList = ((s.extract 0 p.size).toList == p.toList) := by
  have h1 : p.data.toList.length = p.size := Array.length_toList
  have h2 : s.data.toList.length = s.size := Array.length_toList
  rw [begB_take, h1, h2, decide_eq_true h, Bool.true_and, str_eqB]
  simp
theorem beg_long {p s : ByteArray} (h : ¬ p.size ≤ s.size) : begB p.data.toList s.data.toList = false := by
  have h1 : p.data.toList.length = p.size := Array.length_toList
  have h2 : s.data.toList.length = s.size := Array.length_toList
  rw [begB_take, h1, h2, decide_eq_false h, Bool.false_and]

end Go.Proofs.Ytokkmofcijfmiab

namespace Go.Proofs.Ytokkmofcijfmiab
open Go.RowKit

/-- The texts as lists of bytes. -/
abbrev dL (l : List ByteArray) : List (List UInt8) := l.map (·.data.toList)
theorem dL_len (l : List ByteArray) : (dL l).length = l.length := by simp
theorem dL_get {l : List ByteArray} {k : Nat} {x : ByteArray} (h : l[k]? = some x) : (dL l)[k]? = some x.data.toList := by rw [List.getElem?_map, h]; rfl
theorem dL_at {l : List ByteArray} {k : Nat} {x : ByteArray} (h : l[k]? = some x) : atR (dL l) k = x.data.toList := atR_get (dL_get h)
theorem get_ex {l : List ByteArray} {k : Nat} (h : k < l.length) : ∃ x, l[k]? = some x := ⟨_, List.getElem?_eq_getElem h⟩

/-- The same lists? -/
def sameB (l l2 : List ByteArray) : Bool := decide (dL l = dL l2)
theorem same_no {l l2 : List ByteArray} {k : Nat} {x y : ByteArray} (h : l[k]? = some x) (h2 : l2[k]? = some y) (hne : x.data.toList ≠ y.data.toList) : sameB l l2 = false := by
  unfold sameB
  rw [decide_eq_false_iff_not]
  intro e
  have h3 := dL_get h
  rw [e, dL_get h2] at h3
  injection h3 with h3
  exact hne h3.symm
theorem same_len {l l2 : List ByteArray} (h : l.length ≠ l2.length) : sameB l l2 = false := by
  unfold sameB
  rw [decide_eq_false_iff_not]
  intro e
  have := congrArg List.length e
  rw [dL_len, dL_len] at this
  exact h this
theorem same_yes {l l2 : List ByteArray} (h : l.length = l2.length) (hA : ∀ j, j < l.length → atR (dL l) j = atR (dL l2) j) : sameB l l2 = true := by
  unfold sameB
  rw [decide_eq_true_eq]
  apply List.ext_getElem?
  intro i
  by_cases hi : i < l.length
  · obtain ⟨x, hx⟩ := get_ex hi
    obtain ⟨y, hy⟩ := get_ex (l := l2) (k := i) (by omega)
    have := hA i hi
    rw [dL_at hx, dL_at hy] at this
    rw [dL_get hx, dL_get hy, this]
  · rw [List.getElem?_eq_none (by rw [dL_len]; omega), List.getElem?_eq_none (by rw [dL_len]; omega)]

theorem take_succ_get {l : List ByteArray} {k : Nat} {x : ByteArray} (h : l[k]? = some x) : (dL l).take (k + 1) = (dL l).take k ++ [x.data.toList] := by
  have hg := dL_get h
  have hk := (List.getElem?_eq_some_iff.1 hg).1
  rw [List.take_succ_eq_append_getElem hk]
  congr 1
  rw [List.getElem?_eq_getElem hk] at hg
  injection hg with hg
  rw [hg]
theorem ByteArray.toList_data_append' (a b : ByteArray) : (a ++ b).data.toList = a.data.toList ++ b.data.toList := by simp
theorem ret_strD {a b : ByteArray} (h : a.data.toList = b.data.toList) : Ending.returned (.string a) = .returned (.string b) := by
  rw [show a = b from ByteArray.ext (Array.toList_inj.1 h)]
end Go.Proofs.Ytokkmofcijfmiab

namespace Go.Proofs.Ytokkmofcijfmiab
open Go.RowKit

/-- A function value that tells of each of these whether p holds, in whatever world that keeps w. -/
def PredB (g : Nat) (lb : Array Value) (p : List UInt8 → Bool) (l : List ByteArray) (w : World) : Prop :=
  ∀ (x : ByteArray), x ∈ l → ∀ W, Below w.heap.size w W → Calls Try.prog g (#[.string x] ++ lb) W fun e W' => e = .returned (.bool (p x.data.toList)) ∧ Below W.heap.size W W'
theorem pred_is {g : Nat} {lb : Array Value} {p : List UInt8 → Bool} {l : List ByteArray} {w : World} (h : PredB g lb p l w) {k : Nat} {x : ByteArray} (hx : l[k]? = some x) (b : Bool) (hb : p x.data.toList = b) {W : World} (hB : Below w.heap.size w W) :
    Calls Try.prog g (#[.string x] ++ lb) W fun e W' => e = .returned (.bool b) ∧ Below W.heap.size W W' := by
  subst hb
  exact h x (List.mem_of_getElem? hx) W hB
/-- Does it hold of one of them? -/
def anyP (p : List UInt8 → Bool) (l : List ByteArray) : Bool := (dL l).any p
theorem any_yes {l : List ByteArray} {p : List UInt8 → Bool} {k : Nat} {x : ByteArray} (hx : l[k]? = some x) (hb : p x.data.toList = true) : anyP p l = true :=
  List.any_eq_true.2 ⟨_, List.mem_of_getElem? (dL_get hx), hb⟩
theorem any_no {l : List ByteArray} {p : List UInt8 → Bool} (h : ∀ j, j < l.length → p (atR (dL l) j) = false) : anyP p l = false := by
  unfold anyP
  rw [List.any_eq_false]
  intro x hx
  obtain ⟨i, hi, rfl⟩ := mem_atR hx
  rw [h i (by rwa [dL_len] at hi)]
  exact Bool.false_ne_true

end Go.Proofs.Ytokkmofcijfmiab

namespace Go.Proofs.Ytokkmofcijfmiab
open Go.RowKit

set_option maxHeartbeats 400000 in
theorem ints_any (a b : Int) (w : World) :
    Calls Try.prog 20 #[.int .i64 a, .int .i64 b] w fun e w' => e = .returned (.int .i64 (Lib.compareInt a b)) ∧ w = w' := by
  by_cases h : a < b
  · go_enter Try.func20, Try.ntmps20
    go_wp2
    go_ret
    exact ⟨ret_i64 (by simp [Lib.compareInt, h]), rfl⟩
  · by_cases h' : b < a
    · go_enter Try.func20, Try.ntmps20
      go_wp2
      go_ret
      exact ⟨ret_i64 (by simp [Lib.compareInt, h, h']), rfl⟩
    · go_enter Try.func20, Try.ntmps20
      go_wp2
      go_ret
      exact ⟨ret_i64 (by rw [show a = b by omega]; simp [Lib.compareInt]), rfl⟩

theorem cmp_bytes (a b : UInt8) (l m : List UInt8) (h : a ≠ b) : Lib.compareBytes (a :: l) (b :: m) = Lib.compareInt a.toNat b.toNat := by
  have hn : a.toNat ≠ b.toNat := fun e => h (UInt8.toNat_inj.1 e)
  unfold Lib.compareBytes Lib.compareInt
  simp only [UInt8.lt_iff_toNat_lt, Int.ofNat_lt, gt_iff_lt]
  by_cases h1 : a.toNat < b.toNat
  · simp [h1]
  · have h2 : b.toNat < a.toNat := by omega
    simp [h1, h2]
theorem cmp_same (a : UInt8) (l m : List UInt8) : Lib.compareBytes (a :: l) (a :: m) = Lib.compareBytes l m := by
  have h : ¬ a < a := by rw [UInt8.lt_iff_toNat_lt]; omega
  simp [Lib.compareBytes, h]
theorem cmp_end (l m : List UInt8) (h : l = [] ∨ m = []) : Lib.compareBytes l m = Lib.compareInt l.length m.length := by
  rcases h with rfl | rfl
  · cases m with
    | nil => rfl
    | cons b t =>
      have h1 : ((0 : Nat) : Int) < ((t.length + 1 : Nat) : Int) := by omega
      simp only [Lib.compareBytes, List.length_nil, List.length_cons, Lib.compareInt, h1, if_true]
  · cases l with
    | nil => rfl
    | cons b t =>
      have h1 : ¬ ((t.length + 1 : Nat) : Int) < ((0 : Nat) : Int) := by omega
      have h2 : ((t.length + 1 : Nat) : Int) > ((0 : Nat) : Int) := by omega
      simp only [Lib.compareBytes, List.length_nil, List.length_cons, Lib.compareInt, h1, h2, if_false, if_true]



set_option maxHeartbeats 2000000 in
theorem texts_drn (a b : ByteArray) (w : World) (ha : a.size ≤ maxLen) (_hb : b.size ≤ maxLen) :
    Calls Try.prog 30 #[.string a, .string b] w fun e w' => e = .returned (.int .i64 (Lib.compareBytes a.data.toList b.data.toList)) ∧ Drn w w' := by
  unfold maxLen at ha _hb
  go_enter Try.func30, Try.ntmps30
  go_wp2_with fail
  go_loopw [5] (fun i wr => ∃ k : Nat, k ≤ a.size ∧ k ≤ b.size ∧ i = .int .i64 k ∧ Hid (Lib.compareBytes a.data.toList b.data.toList = Lib.compareBytes (a.data.toList.drop k) (b.data.toList.drop k)) ∧ Drn w wr) (fun i _ => a.size - (intOf i).toNat)
  case atStart => exact ⟨0, Nat.zero_le _, Nat.zero_le _, rfl, rfl, Drn.refl _⟩
  case round =>
    obtain ⟨k, hka, hkb, rfl, hE, hB⟩ := hrel
    by_cases hlt : k < a.size ∧ k < b.size
    · obtain ⟨h1, h2⟩ := hlt
      have i1 : (0 : Int) ≤ (k : Int) := by omega
      have i2 : (k : Int) < (a.size : Int) := by omega
      have i3 : (k : Int) < (b.size : Int) := by omega
      have ea := drop_cons a k h1
      have eb := drop_cons b k h2
      by_cases hab : a[k] = b[k]
      · have hE' : Hid (Lib.compareBytes a.data.toList b.data.toList = Lib.compareBytes (a.data.toList.drop (k + 1)) (b.data.toList.drop (k + 1))) := by
          have e := hE.out
          rw [ea, eb, hab, cmp_same] at e
          exact e
        clear ea eb hE
        have hab' : ((a[k].toNat : Int) != (b[k].toNat : Int)) = false := by rw [hab]; simp
        have Hab := Lib.hid hab
        clear hab
        go_wp2_with fail
        go_quiet (fail)
        go_wp2_with fail
        go_roundw
        case rel => exact ⟨k + 1, by omega, by omega, by go_num, hE', hB.draws _⟩
        case measure => simp [intOf]; omega
      · have hE' : Hid (Lib.compareBytes a.data.toList b.data.toList = Lib.compareInt a[k].toNat b[k].toNat) := by
          have e := hE.out
          rw [ea, eb, cmp_bytes _ _ _ _ hab] at e
          exact e
        clear ea eb hE
        have hab' : ((a[k].toNat : Int) != (b[k].toNat : Int)) = true := by
          have : a[k].toNat ≠ b[k].toNat := fun e => hab (UInt8.toNat_inj.1 e)
          simp
          omega
        clear hab
        go_wp2_with fail
        go_quiet (fail)
        go_wp2_with fail
        have hB2 := hB.draws nq
        generalize wr.drewN nq = w2 at hB2 ⊢
        go_quiet ((go_at_call 20; exact Calls.quiet_of_same ((ints_any _ _ _).mono fun _ _ h => ⟨h.1, h.2.symm⟩)))
        go_wp2_with fail
        go_ret
        exact ⟨ret_i64 (by rw [wrap_byte, wrap_byte]; exact hE'.out.symm), hB2.draws _⟩
    · have hE' : Hid (Lib.compareBytes a.data.toList b.data.toList = Lib.compareInt a.size b.size) := by
        have e := hE.out
        have l1 : a.data.toList.length = a.size := Array.length_toList
        have l2 : b.data.toList.length = b.size := Array.length_toList
        have hend : a.data.toList.drop k = [] ∨ b.data.toList.drop k = [] := by
          by_cases h : k < a.size
          · exact Or.inr (List.drop_eq_nil_of_le (by omega))
          · exact Or.inl (List.drop_eq_nil_of_le (by omega))
        rw [cmp_end (a.data.toList.drop k) (b.data.toList.drop k) hend] at e
        have e2 : Lib.compareInt (a.data.toList.drop k).length (b.data.toList.drop k).length = Lib.compareInt a.size b.size := by
          unfold Lib.compareInt
          simp only [List.length_drop, l1, l2]
          repeat' split
          all_goals omega
        exact e.trans e2
      clear hE
      go_wp2_with (go_at_call 20; refine (ints_any _ _ _).mono ?_; rintro e w2 ⟨rfl, rfl⟩)
      all_goals go_ret
      all_goals exact ⟨ret_i64 hE'.out.symm, hB⟩

theorem texts_any (a b : ByteArray) (w : World) (ha : a.size ≤ maxLen) (hb : b.size ≤ maxLen) :
    Calls Try.prog 30 #[.string a, .string b] w fun e w' => e = .returned (.int .i64 (Lib.compareBytes a.data.toList b.data.toList)) ∧ Below w.heap.size w w' :=
  (texts_drn a b w ha hb).mono fun _ _ h => ⟨h.1, h.2.below _⟩
end Go.Proofs.Ytokkmofcijfmiab

namespace Go.Proofs.Ytokkmofcijfmiab
open Go.RowKit

theorem RdS.cells {B : Nat} {W : World} {ad : Addr} {l : List ByteArray} (h : RdS B W (some ad) l) {k : Nat} {x : ByteArray} (hx : l[k]? = some x) : W.cell? (ad.add k) = some (.string x) := by
  obtain ⟨a2, e, _, hc⟩ := h k x hx
  injection e with e
  subst e
  exact hc
theorem emptyB (x : ByteArray) : x.toList.isEmpty = x.data.toList.isEmpty := by rw [ByteArray.toList_eq]
theorem texts_is (a b : ByteArray) (v : Int) (h : Lib.compareBytes a.data.toList b.data.toList = v) (ha : a.size ≤ maxLen) (hb : b.size ≤ maxLen) (w : World) :
    Calls Try.prog 30 #[.string a, .string b] w fun e w' => e = .returned (.int .i64 v) ∧ Drn w w' := by
  subst h
  exact texts_drn a b w ha hb
theorem refKey_is (s : ByteArray) (b : Bool) (h : keyB s.data.toList = b) (hs : s.size ≤ maxLen) (w : World) :
    Calls Try.prog 28 #[.string s] w fun e w' => e = .returned (.bool b) ∧ w = w' := by
  subst h
  exact refKey_any s w hs
theorem ltB_val {a b : List UInt8} : (ltB a b = true ∧ Lib.compareBytes a b = -1) ∨ (ltB a b = false ∧ Lib.compareBytes a b = 0) ∨ (ltB a b = false ∧ Lib.compareBytes a b = 1) := by
  unfold ltB
  rcases cmpB_cases a b with h | h | h
  · exact Or.inl ⟨by rw [h]; rfl, h⟩
  · exact Or.inr (Or.inl ⟨by rw [h]; rfl, h⟩)
  · exact Or.inr (Or.inr ⟨by rw [h]; rfl, h⟩)
theorem okAt_pre {r : List (List UInt8)} {i : Nat} (h : preB (atR r i) = false) : okAt r i = false := by
  rw [Bool.eq_false_iff]
  intro hh
  rw [(okAt_iff.1 hh).1] at h
  cases h
theorem okAt_lt {r : List (List UInt8)} {i : Nat} (h0 : i ≠ 0) (h : ltB (atR r (i - 1)) (atR r i) = false) : okAt r i = false := by
  rw [Bool.eq_false_iff]
  intro hh
  rcases (okAt_iff.1 hh).2.1 with e | e
  · exact h0 e
  · rw [e] at h; cases h
theorem okAt_beg {r : List (List UInt8)} {i k : Nat} (hk : k < r.length) (hne : k ≠ i) (h : begB (atR r k) (atR r i) = true) : okAt r i = false := by
  rw [Bool.eq_false_iff]
  intro hh
  rw [(okAt_iff.1 hh).2.2 k hk hne] at h
  cases h

end Go.Proofs.Ytokkmofcijfmiab

namespace Go.Proofs.Ytokkmofcijfmiab
open Go.RowKit

theorem key_is (s : ByteArray) (w : World) (b : Bool) (hb : keyB s.data.toList = b) (hs : s.size ≤ maxLen) :
    Calls Try.prog 54 #[.string s] w fun e w' => e = .returned (.bool b) ∧ Below w.heap.size w w' := by
  subst hb
  exact key_any s w hs

/-! prefixes -/
theorem all_not {α : Type} (l : List α) (p : α → Bool) : (!(l.any fun x => !p x)) = l.all p := by
  induction l with
  | nil => rfl
  | cons a t ih => simp [ih]
/-! Has -/
theorem hasPrefix_beg (s p : List UInt8) : Lib.hasPrefix s p = begB p s := rfl
/-! Covers -/
end Go.Proofs.Ytokkmofcijfmiab
