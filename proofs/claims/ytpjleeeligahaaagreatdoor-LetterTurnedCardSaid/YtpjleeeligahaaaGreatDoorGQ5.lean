/-
  WHAT IS PROVED: the document's order of ints and of texts (spinneyref01.Ints, Texts), for every two. Conditions: those typed in each theorem. · spinneyref04.Good tells whether a list of strings is a reach, as goodR does, for every slice of strings. Conditions: those typed in the theorem. · of the code of reaches: prefixes tells whether all may be prefixes, Has whether one of them begins a text, Covers whether one has all that another one has. Conditions: those typed in each theorem. · plain facts on what is left of a sorted list of texts if each is dropped that begins with the last one left: the reach of these prefixes. No program. No condition. · slices.Clone and slices.Sort of strings in the words of owned rows; reach.least answers a row of its own of what is left (leastOf). Conditions: those typed in each theorem. · strings.Clone answers the same text; fresh.Texts answers the same texts in a row of its own. Conditions: those typed in each theorem. · plain facts and words for cells, lasts and lines: their cells in memory, when they are good, their bytes, what is taken of bytes; what is put is taken again. No program is spoken of. · words for slices of structs (own work): a slice that reads as a list of elements of so many cells each, nil let in; one that the call owns; append of one element onto such a row. Over any program that bears the types named. · package pack's own calls that put values and writes behind other bytes (putValue, putWrite): the document's bytes. Conditions: those typed in each theorem.
-/
import Derived.Test.YtpjleeeligahaaaGreatDoorGQ4
import Derived.Test.YtpjleeeligahaaaGreatDoorGQ0
import Derived.IntWalk
import Derived.Test.YtpjleeeligahaaaGreatDoorShelf
import Derived.Lib.OwnBridge
import Derived.Sort.Grow
import Derived.Laws.MakeOwn
import Derived.Test.YtpjleeeligahaaaGreatDoorGQ2
import Derived.Test.YtpjleeeligahaaaGreatDoorGQ1
import Derived.Test.YtpjleeeligahaaaGreatDoorGQ3
namespace Go.Proofs.YtpjleeeligahaaaGreatDoor
open Go.RowKit

theorem cmp_bytes (a b : UInt8) (l m : List UInt8) (h : a ≠ b) : Lib.compareBytes (a :: l) (b :: m) = Lib.compareInt a.toNat b.toNat := by
  have hn : a.toNat ≠ b.toNat := fun e => h (UInt8.toNat_inj.1 e)
  unfold Lib.compareBytes Lib.compareInt
  simp only [UInt8.lt_iff_toNat_lt, Int.ofNat_lt, gt_iff_lt]
  by_cases h1 : a.toNat < b.toNat
  · simp [h1]
  · have h2 : b.toNat < a.toNat := by omega
    simp [h1, h2]
theorem cmp_same (a : UInt8) (l m : List UInt8) : Lib.compareBytes (a :: l) (a :: m) = Lib.compareBytes l m := by
  have h : ¬ a < a := by rw [UInt8.lt_iff_toNat_lt]; omega
  simp [Lib.compareBytes, h]
theorem cmp_end (l m : List UInt8) (h : l = [] ∨ m = []) : Lib.compareBytes l m = Lib.compareInt l.length m.length := by
  rcases h with rfl | rfl
  · cases m with
    | nil => rfl
    | cons b t =>
      have h1 : ((0 : Nat) : Int) < ((t.length + 1 : Nat) : Int) := by omega
      simp only [Lib.compareBytes, List.length_nil, List.length_cons, Lib.compareInt, h1, if_true]
  · cases l with
    | nil => rfl
    | cons b t =>
      have h1 : ¬ ((t.length + 1 : Nat) : Int) < ((0 : Nat) : Int) := by omega
      have h2 : ((t.length + 1 : Nat) : Int) > ((0 : Nat) : Int) := by omega
      simp only [Lib.compareBytes, List.length_nil, List.length_cons, Lib.compareInt, h1, h2, if_false, if_true]



end Go.Proofs.YtpjleeeligahaaaGreatDoor

namespace Go.Proofs.YtpjleeeligahaaaGreatDoor
open Go.RowKit

theorem RdS.cells {B : Nat} {W : World} {ad : Addr} {l : List ByteArray} (h : RdS B W (some ad) l) {k : Nat} {x : ByteArray} (hx : l[k]? = some x) : W.cell? (ad.add k) = some (.string x) := by
  obtain ⟨a2, e, _, hc⟩ := h k x hx
  injection e with e
  subst e
  exact hc
theorem emptyB (x : ByteArray) : x.toList.isEmpty = x.data.toList.isEmpty := by rw [ByteArray.toList_eq]
theorem refKey_is (s : ByteArray) (b : Bool) (h : keyB s.data.toList = b) (hs : s.size ≤ maxLen) (w : World) :
    Calls Tryz.prog 111 #[.string s] w fun e w' => e = .returned (.bool b) ∧ w = w' := by
  subst h
  exact refKey_any s w hs
theorem ltB_val {a b : List UInt8} : (ltB a b = true ∧ Lib.compareBytes a b = -1) ∨ (ltB a b = false ∧ Lib.compareBytes a b = 0) ∨ (ltB a b = false ∧ Lib.compareBytes a b = 1) := by
  unfold ltB
  rcases cmpB_cases a b with h | h | h
  · exact Or.inl ⟨by rw [h]; rfl, h⟩
  · exact Or.inr (Or.inl ⟨by rw [h]; rfl, h⟩)
  · exact Or.inr (Or.inr ⟨by rw [h]; rfl, h⟩)
theorem okAt_pre {r : List (List UInt8)} {i : Nat} (h : preB (atR r i) = false) : okAt r i = false := by
  rw [Bool.eq_false_iff]
  intro hh
  rw [(okAt_iff.1 hh).1] at h
  cases h
theorem okAt_lt {r : List (List UInt8)} {i : Nat} (h0 : i ≠ 0) (h : ltB (atR r (i - 1)) (atR r i) = false) : okAt r i = false := by
  rw [Bool.eq_false_iff]
  intro hh
  rcases (okAt_iff.1 hh).2.1 with e | e
  · exact h0 e
  · rw [e] at h; cases h
theorem okAt_beg {r : List (List UInt8)} {i k : Nat} (hk : k < r.length) (hne : k ≠ i) (h : begB (atR r k) (atR r i) = true) : okAt r i = false := by
  rw [Bool.eq_false_iff]
  intro hh
  rw [(okAt_iff.1 hh).2.2 k hk hne] at h
  cases h

end Go.Proofs.YtpjleeeligahaaaGreatDoor

namespace Go.Proofs.YtpjleeeligahaaaGreatDoor
open Go.RowKit

theorem enters_pre : ∀ args w, (callFunc 161 args).run Tryz.prog w = .ok (.enter 161 args) w := enters_of Tryz.func161 (by kernel_rfl) rfl
theorem key_is (s : ByteArray) (w : World) (b : Bool) (hb : keyB s.data.toList = b) (hs : s.size ≤ maxLen) :
    Calls Tryz.prog 156 #[.string s] w fun e w' => e = .returned (.bool b) ∧ Below w.heap.size w w' := by
  subst hb
  exact key_any s w hs

/-! prefixes -/
set_option maxHeartbeats 1000000 in
theorem pre1_any (x : ByteArray) (W : World) (hs : x.size ≤ maxLen) :
    Calls Tryz.prog 161 #[.string x] W fun e W' => e = .returned (.bool (!preB x.data.toList)) ∧ Below W.heap.size W W' := by
  have HS := Lib.hid hs
  clear hs
  by_cases h0 : x.data.toList = []
  · have e0 : x.toList.isEmpty = true := by rw [ByteArray.toList_eq, h0]; rfl
    have R := Lib.hid (show (!preB x.data.toList) = false by rw [h0]; rfl)
    clear h0
    go_enter Tryz.func161, Tryz.ntmps161
    go_wp2_with fail
    go_ret
    exact ⟨ret_bool R.out.symm, Below.refl _ _⟩
  · have e0 : x.toList.isEmpty = false := by
      rw [ByteArray.toList_eq]
      cases hx : x.data.toList with
      | nil => exact absurd hx h0
      | cons => rfl
    have e1 : preB x.data.toList = keyB x.data.toList := by
      unfold preB
      rw [← ByteArray.toList_eq, e0, Bool.false_or]
    cases hk : keyB x.data.toList with
    | true =>
      have HK := Lib.hid hk
      have R := Lib.hid (show (!preB x.data.toList) = false by rw [e1, hk]; rfl)
      clear h0 hk e1
      go_enter Tryz.func161, Tryz.ntmps161
      go_wp2_with (go_at_call 156; refine (key_is _ _ true HK.out HS.out).mono ?_; rintro e w2 ⟨rfl, hb2⟩)
      go_ret
      exact ⟨ret_bool R.out.symm, hb2⟩
    | false =>
      have HK := Lib.hid hk
      have R := Lib.hid (show (!preB x.data.toList) = true by rw [e1, hk]; rfl)
      clear h0 hk e1
      go_enter Tryz.func161, Tryz.ntmps161
      go_wp2_with (go_at_call 156; refine (key_is _ _ false HK.out HS.out).mono ?_; rintro e w2 ⟨rfl, hb2⟩)
      go_ret
      exact ⟨ret_bool R.out.symm, hb2⟩
theorem all_not {α : Type} (l : List α) (p : α → Bool) : (!(l.any fun x => !p x)) = l.all p := by
  induction l with
  | nil => rfl
  | cons a t ih => simp [ih]
theorem pre1_pred (l : List ByteArray) (w : World) (hs : ∀ x, x ∈ l → x.size ≤ maxLen) : PredB 161 #[] (fun x => !preB x) l w :=
  fun x hx W _ => pre1_any x W (hs x hx)
theorem prefixes_is (A : Option Addr) (n c : Nat) (l : List ByteArray) (w : World) (b : Bool) (hb : (dL l).all preB = b) (hn : l.length = n) (hr : RdS w.heap.size w A l) (hm : n ≤ maxLen) (hs : ∀ x, x ∈ l → x.size ≤ maxLen) :
    Calls Tryz.prog 133 #[.slice A n c] w fun e w' => e = .returned (.bool b) ∧ Below w.heap.size w w' := by
  have R := Lib.hid (show (!anyP (fun x => !preB x) l) = b by rw [← hb]; exact all_not (dL l) preB)
  have HP := Lib.hid (pre1_pred l w hs)
  clear hb
  go_enter Tryz.func133, Tryz.ntmps133
  go_wp2_with fail
  refine (contL_any _ #[] enters_pre (fun x => !preB x) A n c l w hn hr hm HP.out).mono ?_
  rintro e w2 ⟨rfl, hb2⟩
  generalize anyP (fun x => !preB x) l = v at R ⊢
  go_wp2_with fail
  go_ret
  exact ⟨ret_bool R.out, hb2⟩

/-! Has -/
theorem hasPrefix_beg (s p : List UInt8) : Lib.hasPrefix s p = begB p s := rfl
/-! Covers -/
end Go.Proofs.YtpjleeeligahaaaGreatDoor

namespace Go.Proofs.YtpjleeeligahaaaGreatDoor
open Go

theorem lex_cons (a b : UInt8) (as1 bs : List UInt8) : Lib.compareBytes (a :: as1) (b :: bs) = if a < b then -1 else if b < a then 1 else Lib.compareBytes as1 bs := by simp only [Lib.compareBytes]
theorem begB_cons (a b : UInt8) (as1 bs : List UInt8) : begB (a :: as1) (b :: bs) = ((a == b) && begB as1 bs) := by simp [begB, List.isPrefixOf]
theorem u8_eq {a b : UInt8} (h : ¬ a < b) (k : ¬ b < a) : a = b := by
  rw [UInt8.lt_iff_toNat_lt] at *
  exact UInt8.toNat_inj.1 (by omega)
theorem u8_irrefl (a : UInt8) : ¬ a < a := by rw [UInt8.lt_iff_toNat_lt]; omega
theorem ltB_cons (a b : UInt8) (as1 bs : List UInt8) : ltB (a :: as1) (b :: bs) = if a < b then true else if b < a then false else ltB as1 bs := by
  unfold ltB
  rw [lex_cons]
  by_cases h : a < b
  · simp [h]
  · by_cases k : b < a
    · simp [h, k]
    · simp [h, k]
/-- What stands between a text and one that it begins begins with it. -/
theorem begB_between : ∀ (y q p : List UInt8), begB y p = true → ltB q y = false → ltB p q = false → begB y q = true
  | [], q, p, _, _, _ => by simp [begB, List.isPrefixOf]
  | a :: y, [], p, _, h1, _ => by simp [ltB, Lib.compareBytes] at h1
  | a :: y, b :: q, [], h, _, _ => by simp [begB, List.isPrefixOf] at h
  | a :: y, b :: q, c :: p, h, h1, h2 => by
    rw [begB_cons, Bool.and_eq_true, beq_iff_eq] at h
    obtain ⟨rfl, h⟩ := h
    rw [ltB_cons] at h1 h2
    have n1 : ¬ b < a := fun e => by simp [e] at h1
    have n2 : ¬ a < b := fun e => by simp [e] at h2
    have e : a = b := u8_eq n2 n1
    subst e
    rw [if_neg (u8_irrefl _), if_neg (u8_irrefl _)] at h1 h2
    rw [begB_cons, begB_between y q p h h1 h2]
    simp
/-- What begins a text isn't behind it. -/
theorem begB_le : ∀ (p x : List UInt8), begB p x = true → ltB x p = false
  | [], x, _ => by cases x <;> simp [ltB, Lib.compareBytes]
  | a :: p, [], h => by simp [begB, List.isPrefixOf] at h
  | a :: p, b :: x, h => by
    rw [begB_cons, Bool.and_eq_true, beq_iff_eq] at h
    obtain ⟨rfl, h⟩ := h
    rw [ltB_cons, if_neg (u8_irrefl _), if_neg (u8_irrefl _)]
    exact begB_le p x h
theorem list_lt_iff : ∀ (x y : List UInt8), x < y ↔ ltB x y = true
  | [], [] => by simp [ltB, Lib.compareBytes]
  | [], _ :: _ => by simp [ltB, Lib.compareBytes]
  | _ :: _, [] => by simp [ltB, Lib.compareBytes]
  | a :: x, b :: y => by
    rw [List.cons_lt_cons_iff, ltB_cons, list_lt_iff x y]
    by_cases h : a < b
    · simp [h]
    · by_cases k : b < a
      · have hne : a ≠ b := fun e => by subst e; exact h k
        simp [h, k, hne]
      · have e := u8_eq h k
        subst e
        simp [h]
theorem list_le_iff (x y : List UInt8) : decide (x ≤ y) = !ltB y x := by
  rw [Bool.eq_iff_iff, decide_eq_true_eq, Bool.not_eq_true', ← Bool.not_eq_true, ← list_lt_iff]
  exact List.not_lt.symm

/-- With one more. -/
def leastStep (left : List (List UInt8)) (p : List UInt8) : List (List UInt8) :=
  if left = [] ∨ begB (atR left (left.length - 1)) p = false then left ++ [p] else left
/-- What is left of a sorted list. -/
def leastL (s : List (List UInt8)) : List (List UInt8) := s.foldl leastStep []
theorem leastL_snoc (s : List (List UInt8)) (p : List UInt8) : leastL (s ++ [p]) = leastStep (leastL s) p := by
  unfold leastL
  rw [List.foldl_append]
  rfl
theorem leastStep_le (l : List (List UInt8)) (p : List UInt8) : (leastStep l p).length ≤ l.length + 1 := by
  unfold leastStep
  split <;> simp
theorem leastL_le (s : List (List UInt8)) : (leastL s).length ≤ s.length := by
  have key : ∀ (s l : List (List UInt8)), (s.foldl leastStep l).length ≤ l.length + s.length := by
    intro s
    induction s with
    | nil => intro l; simp
    | cons p s ih =>
      intro l
      have h1 := ih (leastStep l p)
      have h2 := leastStep_le l p
      simp only [List.foldl_cons, List.length_cons]
      omega
  have := key s []
  simpa [leastL] using this
/-- Sorted, though not each once. -/
def Sorted (s : List (List UInt8)) : Prop := s.Pairwise fun a b => ltB b a = false
/-- What the loop keeps. -/
structure LeastInv (s L : List (List UInt8)) : Prop where
  rises : Rises L
  mem : ∀ x, x ∈ L → x ∈ s
  low : ∀ x, x ∈ L → ∀ y, y ∈ s → begB y x = true → y = x
  cov : ∀ x, x ∈ s → ∃ y, y ∈ L ∧ begB y x = true
theorem least_inv_nil : LeastInv [] [] := ⟨List.Pairwise.nil, fun _ h => h, fun _ h => by simp at h, fun _ h => by simp at h⟩
theorem le_eq {a b : List UInt8} (h : ltB a b = false) (k : ltB b a = false) : a = b := by
  apply Classical.byContradiction
  intro hne
  rw [ltB_total h hne] at k
  cases k
theorem least_inv_step {s L : List (List UInt8)} {p : List UInt8} (h : LeastInv s L) (hp : ∀ x, x ∈ s → ltB p x = false) : LeastInv (s ++ [p]) (leastStep L p) := by
  unfold leastStep
  by_cases h0 : L = []
  · subst h0
    have hs : s = [] := by
      cases s with
      | nil => rfl
      | cons a t =>
        obtain ⟨y, hy, _⟩ := h.cov a List.mem_cons_self
        simp at hy
    subst hs
    rw [if_pos (Or.inl rfl)]
    refine ⟨by simp [Rises], fun x hx => hx, fun x hx y hy _ => ?_, fun x hx => ⟨x, hx, begB_refl x⟩⟩
    simp at hx hy
    rw [hx, hy]
  · have hlen := List.length_pos_iff.2 h0
    have hq : atR L (L.length - 1) ∈ L := atR_mem (by omega)
    have hlast : ∀ y, y ∈ L → y ≠ atR L (L.length - 1) → ltB y (atR L (L.length - 1)) = true := by
      intro y hy hne
      obtain ⟨i, hi, rfl⟩ := mem_atR hy
      have : i ≠ L.length - 1 := fun e => hne (by rw [e])
      exact rises_at h.rises (by omega) (by omega)
    generalize hqe : atR L (L.length - 1) = q at hq hlast
    by_cases hb : begB q p = true
    · rw [if_neg (by simp [h0, hb])]
      refine ⟨h.rises, fun x hx => List.mem_append_left _ (h.mem x hx), fun x hx y hy hbx => ?_, fun x hx => ?_⟩
      · rcases List.mem_append.1 hy with hy | hy
        · exact h.low x hx y hy hbx
        · rw [List.mem_singleton] at hy
          subst hy
          exact (le_eq (begB_le _ _ hbx) (hp x (h.mem x hx))).symm
      · rcases List.mem_append.1 hx with hx | hx
        · exact h.cov x hx
        · rw [List.mem_singleton] at hx
          subst hx
          exact ⟨q, hq, hb⟩
    · have hb' : begB q p = false := by simpa using hb
      rw [if_pos (Or.inr hb')]
      have hL : ∀ y, y ∈ L → begB y p = false := by
        intro y hy
        rw [Bool.eq_false_iff]
        intro hyp
        by_cases e : y = q
        · rw [e, hb'] at hyp; cases hyp
        · have h1 := ltB_asymm (hlast y hy e)
          have h2 := begB_between y q p hyp h1 (hp q (h.mem q hq))
          exact e (h.low q hq y (h.mem y hy) h2)
      have hS : ∀ y, y ∈ s → begB y p = false := by
        intro y hy
        rw [Bool.eq_false_iff]
        intro hyp
        obtain ⟨z, hz, hzy⟩ := h.cov y hy
        have := hL z hz
        rw [begB_trans hzy hyp] at this
        cases this
      refine ⟨?_, fun x hx => ?_, fun x hx y hy hbx => ?_, fun x hx => ?_⟩
      · refine List.pairwise_append.2 ⟨h.rises, List.pairwise_singleton _ _, fun x hx y hy => ?_⟩
        rw [List.mem_singleton] at hy
        subst hy
        refine ltB_total (hp x (h.mem x hx)) fun e => ?_
        have := hS x (h.mem x hx)
        rw [← e, begB_refl] at this
        cases this
      · rcases List.mem_append.1 hx with hx | hx
        · exact List.mem_append_left _ (h.mem x hx)
        · exact List.mem_append_right _ hx
      · rcases List.mem_append.1 hx with hxL | hx
        · rcases List.mem_append.1 hy with hy | hy
          · exact h.low x hxL y hy hbx
          · rw [List.mem_singleton] at hy
            subst hy
            exact (le_eq (begB_le _ _ hbx) (hp x (h.mem x hxL))).symm
        · rw [List.mem_singleton] at hx
          subst hx
          rcases List.mem_append.1 hy with hy | hy
          · rw [hS y hy] at hbx; cases hbx
          · exact List.mem_singleton.1 hy
      · rcases List.mem_append.1 hx with hx | hx
        · obtain ⟨y, hy, hyx⟩ := h.cov x hx
          exact ⟨y, List.mem_append_left _ hy, hyx⟩
        · exact ⟨x, List.mem_append_right _ hx, begB_refl x⟩
theorem least_inv (s : List (List UInt8)) (hs : Sorted s) : LeastInv s (leastL s) := by
  have key : ∀ k, k ≤ s.length → LeastInv (s.take k) (leastL (s.take k)) := by
    intro k
    induction k with
    | zero => intro _; simpa [leastL] using least_inv_nil
    | succ k ih =>
      intro hk
      rw [List.take_succ_eq_append_getElem (by omega), leastL_snoc]
      refine least_inv_step (ih (by omega)) fun x hx => ?_
      obtain ⟨i, hi, rfl⟩ := List.getElem_of_mem hx
      rw [List.length_take] at hi
      rw [List.getElem_take]
      exact List.pairwise_iff_getElem.1 hs i k (by omega) (by omega) (by omega)
  have := key s.length (Nat.le_refl _)
  rwa [List.take_length] at this
theorem least_made_of {s : List (List UInt8)} (hs : Sorted s) : IsMade (· ∈ s) (leastL s) := by
  have h := least_inv s hs
  refine ⟨h.rises, fun x => ⟨fun hx => ⟨h.mem x hx, fun y hy hb => h.low x hx y hy hb⟩, fun ⟨hx, hy⟩ => ?_⟩⟩
  obtain ⟨y, hyL, hb⟩ := h.cov x hx
  rw [← hy y (h.mem y hyL) hb]
  exact hyL
/-- The sort's answer. -/
def sortL (l : List (List UInt8)) : List (List UInt8) := l.mergeSort fun x y => decide (x ≤ y)
theorem sortL_perm (l : List (List UInt8)) : (sortL l).Perm l := List.mergeSort_perm _ _
theorem sortL_len (l : List (List UInt8)) : (sortL l).length = l.length := (sortL_perm l).length_eq
theorem sortL_sorted (l : List (List UInt8)) : Sorted (sortL l) := by
  have h := List.pairwise_mergeSort (le := fun x y : List UInt8 => decide (x ≤ y)) (fun a b c h k => by
    simp only [decide_eq_true_eq] at *
    exact List.le_trans h k) (fun a b => by
    have := List.le_total a b
    simpa [Bool.or_eq_true] using this) l
  refine h.imp fun {a b} hab => ?_
  rw [list_le_iff] at hab
  simpa using hab
/-- The prefixes that are left of any list. -/
def leastOf (l : List (List UInt8)) : List (List UInt8) := leastL (sortL l)
theorem least_made (l : List (List UInt8)) : IsMade (· ∈ l) (leastOf l) :=
  made_congr (least_made_of (sortL_sorted l)) fun _ => (sortL_perm l).mem_iff
theorem leastOf_len (l : List (List UInt8)) : (leastOf l).length ≤ l.length := by
  have := leastL_le (sortL l)
  rw [sortL_len] at this
  exact this
/-- It is a reach just if all may be prefixes, they are not too many, and none is dropped. -/
theorem goodR_least (r : List (List UInt8)) : goodR r = (decide (r.length ≤ 6) && (r.all preB && decide (r = leastOf r))) := by
  rw [Bool.eq_iff_iff, Bool.and_eq_true, Bool.and_eq_true, decide_eq_true_eq, decide_eq_true_eq, List.all_eq_true]
  constructor
  · intro h
    exact ⟨(goodR_iff.1 h).2, fun x hx => goodR_pre h hx, made_uniq (goodR_made h) (least_made r) fun _ => Iff.rfl⟩
  · rintro ⟨h1, h2, h3⟩
    have hm := least_made r
    rw [← h3] at hm
    exact made_good hm h2 h1
end Go.Proofs.YtpjleeeligahaaaGreatDoor

namespace Go.Proofs.YtpjleeeligahaaaGreatDoor
open Go.RowKit

/-- A row of strings of the call's own that a call answered. -/
def AnsO (base : Nat) (R : List (List UInt8)) (e : Ending) (w' : World) : Prop :=
  ∃ (A : Option Addr) (c : Nat) (r : List ByteArray), e = .returned (.slice A R.length c) ∧ OwnS base w' A R.length c r ∧ dL r = R
theorem rd_nil_len {B : Nat} {W : World} {l : List ByteArray} (h : RdS B W none l) : l = [] := by
  cases l with
  | nil => rfl
  | cons x r =>
    obtain ⟨ad, he, _⟩ := h 0 x rfl
    cases he

set_option maxHeartbeats 1000000 in
theorem clone_any (A : Option Addr) (n c : Nat) (l : List ByteArray) (w : World) (hn : l.length = n) (hr : RdS w.heap.size w A l) (hm : n ≤ 1099511627776) :
    Calls Tryz.prog 162 #[.slice A n c] w fun e w' => (∃ (A' : Option Addr) (c' : Nat), e = .returned (.slice A' n c') ∧ OwnS w.heap.size w' A' n c' l) ∧ Below w.heap.size w w' := by
  obtain ⟨i0, hi0, hz0, hz1, hz2⟩ := info_parts str_info
  have q : ∀ (w : World) (a : Option Addr) (n c n' c' : Nat), (binOp .eql 52 (.slice a n c) (.slice none n' c')).run Tryz.prog w = .ok (.bool a.isNone) w := fun w a n c n' c' => Lib.run_eql_slice_nil w _ _ a n c n' c' Tryz.underlying52
  cases A with
  | none =>
    have h0 := rd_nil_len hr
    subst h0
    subst hn
    go_enter Tryz.func162, Tryz.ntmps162
    go_wp2_with fail
    go_ret
    exact ⟨⟨none, 0, rfl, OwnS.nil _ _⟩, Below.refl _ _⟩
  | some ad =>
    have HN := Lib.hid hn
    clear hn
    have hown : OwnS w.heap.size (w.alloc (.cells #[] 9)) (some ⟨w.heap.size, 0, none⟩) 0 0 [] := OwnS.lit w #[] [] rfl rfl (Nat.le_refl _) (Nat.zero_le _)
    have hr2 := hr.keep (b0 w (.cells #[] 9)) (Nat.le_refl _)
    go_enter Tryz.func162, Tryz.ntmps162
    go_wp2_with (at_builtin; refine wpList_apS (l := []) (l2 := l) (B := w.heap.size) rfl _ _ rfl Tryz.underlying52 Tryz.underlying52 hi0 hz0 hz1 hz2 rfl rfl hown hr2 HN.out n (Nat.zero_add n) (by omega) ?b ?_)
    case b => simp
    intro A' c' w' k1 k2 k3
    go_wp2_with fail
    go_ret
    exact ⟨⟨A', c', rfl, k1⟩, (b0 _ _).trans k2⟩

theorem below_grows (w : World) (os : Array Obj) : Below w.heap.size w (Sort.grow w os) :=
  ⟨rfl, rfl, rfl, by show w.heap.size ≤ (w.heap ++ os).size; rw [Array.size_append]; omega, fun _ hj => Sort.heap_grow_old w os hj⟩
/-- Their texts. -/
def baL (s : List (List UInt8)) : List ByteArray := s.map fun b => ⟨b.toArray⟩
theorem dL_baL (s : List (List UInt8)) : dL (baL s) = s := by
  unfold baL
  rw [dL, List.map_map]
  conv => rhs; rw [← List.map_id s]
  apply List.map_congr_left
  intro x _
  simp
theorem strV_enc (s : List (List UInt8)) : s.map encStr = strV (baL s) := by
  unfold baL
  rw [strV, List.map_map]
  rfl
theorem strV_dL (l : List ByteArray) : strV l = (dL l).map encStr := (Lib.map_encStr l).symm

theorem sort_any {base : Nat} (A : Option Addr) (n c : Nat) (l : List ByteArray) (w : World) (h : OwnS base w A n c l) (hm : n ≤ 1099511627776) (hb : base ≤ w.heap.size) :
    Calls Tryz.prog 163 #[.slice A n c] w fun e w' => e = .returned (.tuple #[]) ∧ OwnS base w' A n c (baL (sortL (dL l))) ∧ Below base w w' := by
  have hl := h.len
  by_cases h0 : n = 0
  · subst h0
    have e0 : l = [] := List.length_eq_zero_iff.1 hl
    subst e0
    refine (Tryz.slices_Sort_string_none A c w).mono ?_
    rintro e w' ⟨rfl, rfl⟩
    refine ⟨rfl, ?_, Below.refl _ _⟩
    have e1 : baL (sortL (dL [])) = [] := by simp [sortL, baL]
    rw [e1]
    exact h
  · have hown : w.ownsRow base 9 1 (.slice A n c) n ((dL l).map encStr) := by rw [← strV_dL]; exact h
    have hne : (Value.slice A n c) ≠ .slice none 0 0 := by
      intro e
      injection e with _ e2 _
      exact h0 e2
    obtain ⟨g, cap, hv, hbg, hg, hnc, hcm, hlen, hH⟩ := Lib.holds_of_ownsRow hown hne
    injection hv with hv1 _ hv3
    subst hv1
    subst hv3
    have hs : (dL l).length < 4611686018427387904 := by rw [hlen]; omega
    have hcall := Tryz.slices_Sort_string g 0 c (dL l) w hH hg hs
    rw [hlen] at hcall
    refine hcall.mono ?_
    rintro e w' ⟨rfl, k, os, rfl⟩
    have hput := Lib.ownsRow_putRow (q := k) (k := n) (ys := sortL (dL l)) hown (by rw [sortL_len]; exact hlen) (Nat.le_refl _)
    rw [List.take_of_length_le (by rw [sortL_len]; omega), strV_enc] at hput
    have hbel := Lib.below_putRow (enc := encStr) (B := base) (w0 := w) (w := w) (g := g) (q := k) (d := (sortL (dL l)).toArray) (Below.refl _ _) hbg
    have hgrow := below_grows (Sort.putRow encStr (Sort.ahead w k) g 0 (sortL (dL l)).toArray) os
    have hput2 : OwnS base (Sort.putRow encStr (Sort.ahead w k) g 0 (sortL (dL l)).toArray) (some ⟨g, 0, none⟩) n c (baL (sortL (dL l))) := hput
    exact ⟨rfl, hput2.keep hgrow, hbel.trans (hgrow.mono (Nat.le_trans hb hbel.size))⟩
theorem baL_len (s : List (List UInt8)) : (baL s).length = s.length := by simp [baL]
theorem baL_get {s : List (List UInt8)} {k : Nat} (h : k < s.length) : (baL s)[k]? = some ⟨s[k].toArray⟩ := by simp [baL, h]
end Go.Proofs.YtpjleeeligahaaaGreatDoor

namespace Go.Proofs.YtpjleeeligahaaaGreatDoor
open Go.RowKit

theorem made_one (v : Value) (n : Nat) : (madeCells #[v] n).toList = List.replicate n v := by
  unfold madeCells
  apply List.ext_getElem
  · simp
  · intro i h1 h2
    simp [Nat.mod_one]
theorem run_makeS (W : World) (n : Nat) (hn : n ≤ 1000000) :
    (Instr.makeSlice 52 (.int .i64 (n : Int)) (.int .i64 (n : Int))).run Tryz.prog W = .ok (.slice (some ⟨W.heap.size, 0, none⟩) n n) (W.alloc (.cells (madeCells #[.string ⟨#[]⟩] n) 9)) := by
  obtain ⟨i0, hi0, hz0, hz1, hz2⟩ := info_parts str_info
  have h := run_make W 52 9 i0 (.string ⟨#[]⟩) Tryz.underlying52 hi0 hz0 .i64 .i64 (n : Int) (n : Int) (by omega) (Int.le_refl _) (by rw [hz2]; omega) (by omega)
  rw [Int.toNat_natCast, hz1, Nat.mul_one] at h
  exact h
theorem ownMade (w : World) (n : Nat) (hn : n ≤ 1000000) : OwnS w.heap.size (w.alloc (.cells (madeCells #[.string ⟨#[]⟩] n) 9)) (some ⟨w.heap.size, 0, none⟩) n n (List.replicate n ⟨#[]⟩) :=
  OwnS.lit w _ _ (by rw [made_one, strV, List.map_replicate]) (by simp) (Nat.le_refl _) (by unfold maxLen; omega)
/-- What stands there behind k rounds. -/
def freshTo (l : List ByteArray) (k : Nat) : List ByteArray := l.take k ++ List.replicate (l.length - k) ⟨#[]⟩
theorem freshTo_zero (l : List ByteArray) : freshTo l 0 = List.replicate l.length ⟨#[]⟩ := by simp [freshTo]
theorem freshTo_all (l : List ByteArray) {k : Nat} (h : k = l.length) : freshTo l k = l := by subst h; simp [freshTo]
theorem freshTo_set {l : List ByteArray} {k : Nat} {x : ByteArray} (h : l[k]? = some x) : (freshTo l k).set k x = freshTo l (k + 1) := by
  obtain ⟨hk, rfl⟩ := List.getElem?_eq_some_iff.1 h
  unfold freshTo
  rw [List.set_append_right _ _ (by rw [List.length_take]; omega), List.length_take, Nat.min_eq_left (by omega), Nat.sub_self]
  obtain ⟨d, hd⟩ : ∃ d, l.length - k = d + 1 := ⟨l.length - k - 1, by omega⟩
  rw [hd, show l.length - (k + 1) = d by omega, List.replicate_succ, List.set_cons_zero, List.take_succ_eq_append_getElem hk, List.append_assoc]
  rfl
theorem OwnS.cellAt {base : Nat} {W : World} {g n c : Nat} {l : List ByteArray} (h : OwnS base W (some ⟨g, 0, none⟩) n c l) {k : Nat} (hk : k < n) : ∃ v, W.cell? ⟨g, k, none⟩ = some v := by
  obtain ⟨ad, he, _, hc⟩ := h.rd.at_ (show k < l.length by rw [h.len]; exact hk)
  injection he with he
  subst he
  have e : (Addr.mk g 0 none).add k = Addr.mk g k none := by unfold Addr.add; split <;> simp_all
  rw [e] at hc
  exact ⟨_, hc⟩

end Go.Proofs.YtpjleeeligahaaaGreatDoor

namespace Go.Proofs.YtpjleeeligahaaaGreatDoor
open Go.RowKit

/-! Lists each of which is good, and ahead of the next. -/
section
variable {α : Type}
def GoodAt (good : α → Bool) (lt : α → α → Bool) (l : List α) (i : Nat) : Prop := ∀ x, l[i]? = some x → good x = true ∧ ∀ y, 0 < i → l[i - 1]? = some y → lt y x = true
open Classical in
noncomputable def goodLs (good : α → Bool) (lt : α → α → Bool) (l : List α) : Bool := decide (∀ i, GoodAt good lt l i)
open Classical in
theorem goodLs_yes {good : α → Bool} {lt : α → α → Bool} {l : List α} (h : ∀ i, i < l.length → GoodAt good lt l i) : goodLs good lt l = true := by
  unfold goodLs
  rw [decide_eq_true_eq]
  intro i x hx
  exact h i (List.getElem?_eq_some_iff.1 hx).1 x hx
open Classical in
theorem goodLs_no {good : α → Bool} {lt : α → α → Bool} {l : List α} {i : Nat} {x : α} (hx : l[i]? = some x) (h : good x = false ∨ ∃ y, 0 < i ∧ l[i - 1]? = some y ∧ lt y x = false) : goodLs good lt l = false := by
  unfold goodLs
  rw [decide_eq_false_iff_not]
  intro hall
  obtain ⟨h1, h2⟩ := hall i x hx
  rcases h with h | ⟨y, h0, hy, h⟩
  · rw [h] at h1
    cases h1
  · rw [h2 y h0 hy] at h
    cases h
open Classical in
theorem goodLs_mem {good : α → Bool} {lt : α → α → Bool} {l : List α} (h : goodLs good lt l = true) {x : α} (hx : x ∈ l) : good x = true := by
  unfold goodLs at h
  rw [decide_eq_true_eq] at h
  obtain ⟨i, hi⟩ := List.getElem?_of_mem hx
  exact (h i x hi).1
end

/-! A cell. -/
structure Cl where
  ky : ByteArray
  k : Int
  x : Int
  s : ByteArray
abbrev clI (ky : ByteArray) (k x : Int) (s : ByteArray) : Array Value := #[.string ky, .int .i64 k, .int .i64 x, .string s]
abbrev Cl.cells (c : Cl) : Array Value := clI c.ky c.k c.x c.s
def Cl.fits (c : Cl) : Prop := c.ky.size ≤ maxLen ∧ c.s.size ≤ maxLen ∧ -9223372036854775808 ≤ c.x ∧ c.x ≤ 9223372036854775807
def clGoodB (ky : ByteArray) (k x : Int) (s : ByteArray) : Bool := keyB ky.data.toList && (goodB k x s && !(k == 0))
def Cl.good (c : Cl) : Bool := clGoodB c.ky c.k c.x c.s
def clLt (a b : Cl) : Bool := ltB a.ky.data.toList b.ky.data.toList
noncomputable def goodCls (l : List Cl) : Bool := goodLs Cl.good clLt l
def clB (c : Cl) : List UInt8 := textB c.ky.data.toList ++ valB c.k c.x c.s.data.toList
abbrev clNo : Cl := ⟨⟨#[]⟩, 0, 0, ⟨#[]⟩⟩
/-- A cell, taken. -/
def takeClB (b : List UInt8) : Cl × Nat :=
  if (takeTextB b 20).2 = 0 ∨ (takeValB (b.drop (takeTextB b 20).2)).2 = 0 then (clNo, 0)
  else (⟨⟨(takeTextB b 20).1.toArray⟩, (takeValB (b.drop (takeTextB b 20).2)).1.1, (takeValB (b.drop (takeTextB b 20).2)).1.2.1, ⟨(takeValB (b.drop (takeTextB b 20).2)).1.2.2.toArray⟩⟩, (takeTextB b 20).2 + (takeValB (b.drop (takeTextB b 20).2)).2)
theorem cl_in {c : Cl} (h : c.good = true) : (1 ≤ c.ky.size ∧ c.ky.size ≤ 20) ∧ (c.k = 1 ∨ c.k = 2) ∧ c.s.size ≤ 40 ∧ keyB c.ky.data.toList = true ∧ goodB c.k c.x c.s = true := by
  unfold Cl.good clGoodB at h
  simp only [Bool.and_eq_true, Bool.not_eq_true', beq_eq_false_iff_ne] at h
  obtain ⟨h1, h2, h3⟩ := h
  have h4 := (keyB_all h1).2
  have h5 : c.ky.data.toList.length = c.ky.size := Array.length_toList
  have h6 := goodB_in h2
  exact ⟨by omega, by omega, h6.2, h1, h2⟩
theorem ba_list (s : ByteArray) : (⟨s.data.toList.toArray⟩ : ByteArray) = s := by
  obtain ⟨d⟩ := s
  simp
theorem text_pos (s : List UInt8) : 1 ≤ (textB s).length := by unfold textB; rw [List.length_append, numB_len]; omega
theorem val_pos {k n : Int} {s : ByteArray} (h : goodB k n s = true) : 1 ≤ (valB k n s.data.toList).length := by
  rcases (goodB_in h).1 with rfl | rfl | rfl
  · rw [valB_0, numB_len]; omega
  · rw [valB_1, List.length_append, numB_len]; omega
  · rw [valB_2, List.length_append, numB_len]; omega
theorem take_cl {c : Cl} (h : c.good = true) (hf : c.fits) : PutG takeClB clB c := by
  intro r
  obtain ⟨h1, h2, h3, h4, h5⟩ := cl_in h
  have hk : c.ky.data.toList.length = c.ky.size := Array.length_toList
  have ht : takeTextB (clB c ++ r) 20 = (c.ky.data.toList, (textB c.ky.data.toList).length) := by
    unfold clB
    rw [List.append_assoc]
    exact take_text _ (by omega) (by omega)
  have hd : (clB c ++ r).drop (textB c.ky.data.toList).length = valB c.k c.x c.s.data.toList ++ r := by
    unfold clB
    rw [List.append_assoc, List.drop_left]
  have hv := take_val (k := c.k) (n := c.x) (s := c.s) r h5 hf.2.2.1 hf.2.2.2
  have p1 := text_pos c.ky.data.toList
  have p2 := val_pos h5
  unfold takeClB
  rw [ht]
  dsimp only
  rw [hd, hv]
  dsimp only
  rw [if_neg (by omega), ba_list, ba_list]
  unfold clB
  rw [List.length_append]
theorem clB_pos {c : Cl} (_h : c.good = true) : (clB c).length ≠ 0 := by
  have := text_pos c.ky.data.toList
  unfold clB
  rw [List.length_append]
  omega
theorem takeCl_le (b : List UInt8) : (takeClB b).2 ≤ b.length := by
  unfold takeClB
  split
  · exact Nat.zero_le _
  · have h1 := takeText_le b 20
    have h2 := takeVal_le (b.drop (takeTextB b 20).2)
    rw [List.length_drop] at h2
    dsimp only
    omega
theorem takeCl_two (b : List UInt8) (h : (takeClB b).2 ≠ 0) : 2 ≤ (takeClB b).2 := by
  unfold takeClB at h ⊢
  split at h
  · exact absurd rfl h
  · rename_i h1
    rw [if_neg h1]
    dsimp only
    omega
/-- A reader's step. -/
def clStep (st : Rest) : Cl × Rest := (⟨⟨(textOf st 20).1.toArray⟩, (valOf (textOf st 20).2).1.1, (valOf (textOf st 20).2).1.2.1, ⟨(valOf (textOf st 20).2).1.2.2.toArray⟩⟩, (valOf (textOf st 20).2).2)
theorem clStep_is : StepG takeClB clStep := by
  intro b
  have ht : textOf (some b) 20 = if (takeTextB b 20).2 = 0 then ([], none) else ((takeTextB b 20).1, some (b.drop (takeTextB b 20).2)) := rfl
  unfold takeClB clStep
  by_cases h0 : (takeTextB b 20).2 = 0
  · rw [if_pos h0] at ht
    rw [if_pos (.inl h0), ht]
    exact ⟨fun _ => rfl, fun h => absurd rfl h⟩
  · rw [if_neg h0] at ht
    have hv : valOf (some (b.drop (takeTextB b 20).2)) = if (takeValB (b.drop (takeTextB b 20).2)).2 = 0 then ((0, 0, []), none) else ((takeValB (b.drop (takeTextB b 20).2)).1, some ((b.drop (takeTextB b 20).2).drop (takeValB (b.drop (takeTextB b 20).2)).2)) := rfl
    rw [ht]
    dsimp only
    by_cases h1 : (takeValB (b.drop (takeTextB b 20).2)).2 = 0
    · rw [if_pos h1] at hv
      rw [if_pos (.inr h1), hv]
      exact ⟨fun _ => rfl, fun h => absurd rfl h⟩
    · rw [if_neg h1] at hv
      rw [if_neg (by omega), hv]
      dsimp only
      rw [List.drop_drop]
      exact ⟨fun h => absurd h (by omega), fun _ => rfl⟩

/-! A line. -/
structure Ln where
  pl : Int
  w : Wr
abbrev lnI (pl dev seq K : Int) (ky : ByteArray) (ka na : Int) (sa : ByteArray) (kb nb : Int) (sb : ByteArray) : Array Value :=
  #[.int .i64 pl, .int .i64 dev, .int .i64 seq, .int .i64 K, .string ky, .int .i64 ka, .int .i64 na, .string sa, .int .i64 kb, .int .i64 nb, .string sb]
abbrev Ln.cells (x : Ln) : Array Value := lnI x.pl x.w.dev x.w.seq x.w.K x.w.ky x.w.ka x.w.na x.w.sa x.w.kb x.w.nb x.w.sb
def Ln.fits (x : Ln) : Prop := x.w.fits
def plB (pl : Int) : Bool := decide (0 ≤ pl ∧ pl ≤ 4095)
def Ln.good (x : Ln) : Bool := plB x.pl && x.w.good
def lnLt (a b : Ln) : Bool := decide (a.pl < b.pl)
noncomputable def goodLns (l : List Ln) : Bool := goodLs Ln.good lnLt l
def lnB (x : Ln) : List UInt8 := numB x.pl.toNat ++ wB x.w
abbrev lnNo : Ln := ⟨0, wrNo⟩
/-- A line, taken. -/
noncomputable def takeLnB (b : List UInt8) : Ln × Nat :=
  if (takeNum b 4095).2 = 0 ∨ (takeWrB (b.drop (takeNum b 4095).2)).2 = 0 then (lnNo, 0)
  else (⟨((takeNum b 4095).1 : Int), (takeWrB (b.drop (takeNum b 4095).2)).1⟩, (takeNum b 4095).2 + (takeWrB (b.drop (takeNum b 4095).2)).2)
theorem ln_in {x : Ln} (h : x.good = true) : (0 ≤ x.pl ∧ x.pl ≤ 4095) ∧ x.w.good = true := by
  unfold Ln.good plB at h
  simp only [Bool.and_eq_true, decide_eq_true_eq] at h
  exact h
theorem wB_pos (x : Wr) : 1 ≤ (wB x).length := by
  unfold wB wrB
  simp only [List.length_append, numB_len]
  omega
theorem take_ln {x : Ln} (h : x.good = true) (hf : x.fits) : PutG takeLnB lnB x := by
  intro r
  obtain ⟨h1, h2⟩ := ln_in h
  have ht : takeNum (lnB x ++ r) 4095 = (x.pl.toNat, (numB x.pl.toNat).length) := by
    unfold lnB
    rw [List.append_assoc]
    exact take_num _ (by omega) (by omega)
  have hd : (lnB x ++ r).drop (numB x.pl.toNat).length = wB x.w ++ r := by
    unfold lnB
    rw [List.append_assoc, List.drop_left]
  have hw := take_wr r h2 hf
  have p1 := numB_len x.pl.toNat
  have p2 := wB_pos x.w
  unfold takeLnB
  rw [ht]
  dsimp only
  rw [hd, hw]
  dsimp only
  rw [if_neg (by omega), Int.toNat_of_nonneg h1.1]
  unfold lnB
  rw [List.length_append]
theorem lnB_pos (x : Ln) : (lnB x).length ≠ 0 := by
  have := wB_pos x.w
  unfold lnB
  rw [List.length_append]
  omega
theorem takeLn_le (b : List UInt8) : (takeLnB b).2 ≤ b.length := by
  unfold takeLnB
  split
  · exact Nat.zero_le _
  · have h1 := (takeNum_lt b 4095).2.2.2
    have h2 := takeWr_le (b.drop (takeNum b 4095).2)
    rw [List.length_drop] at h2
    dsimp only
    omega
noncomputable def lnStep (st : Rest) : Ln × Rest := (⟨((numOf st 4095).1 : Int), (wrOf (numOf st 4095).2).1⟩, (wrOf (numOf st 4095).2).2)
theorem lnStep_is : StepG takeLnB lnStep := by
  intro b
  have ht : numOf (some b) 4095 = if (takeNum b 4095).2 = 0 then (0, none) else ((takeNum b 4095).1, some (b.drop (takeNum b 4095).2)) := rfl
  unfold takeLnB lnStep
  by_cases h0 : (takeNum b 4095).2 = 0
  · rw [if_pos h0] at ht
    rw [if_pos (.inl h0), ht]
    exact ⟨fun _ => rfl, fun h => absurd rfl h⟩
  · rw [if_neg h0] at ht
    have hv : wrOf (some (b.drop (takeNum b 4095).2)) = if (takeWrB (b.drop (takeNum b 4095).2)).2 = 0 then (wrNo, none) else ((takeWrB (b.drop (takeNum b 4095).2)).1, some ((b.drop (takeNum b 4095).2).drop (takeWrB (b.drop (takeNum b 4095).2)).2)) := rfl
    rw [ht]
    dsimp only
    by_cases h1 : (takeWrB (b.drop (takeNum b 4095).2)).2 = 0
    · rw [if_pos h1] at hv
      rw [if_pos (.inr h1), hv]
      exact ⟨fun _ => rfl, fun h => absurd rfl h⟩
    · rw [if_neg h1] at hv
      rw [if_neg (by omega), hv]
      dsimp only
      rw [List.drop_drop]
      exact ⟨fun h => absurd h (by omega), fun _ => rfl⟩

/-! A prefix. -/
theorem take_pre {s : List UInt8} (h : s.length ≤ 20) : PutG (fun b => takeTextB b 20) textB s := fun r => take_text r (by omega) h
theorem preStep_is : StepG (fun b => takeTextB b 20) (fun st => textOf st 20) := by
  intro b
  have ht : textOf (some b) 20 = if (takeTextB b 20).2 = 0 then ([], none) else ((takeTextB b 20).1, some (b.drop (takeTextB b 20).2)) := rfl
  dsimp only
  by_cases h0 : (takeTextB b 20).2 = 0
  · rw [if_pos h0] at ht
    rw [ht]
    exact ⟨fun _ => rfl, fun h => absurd h0 h⟩
  · rw [if_neg h0] at ht
    rw [ht]
    exact ⟨fun h => absurd h h0, fun _ => rfl⟩

/-! Lasts: twelve numbers. -/
abbrev lastsI (l : List Int) : Array Value := (l.map (Value.int .i64)).toArray
def goodLa (l : List Int) : Bool := l.all (fun x => decide (0 ≤ x ∧ x ≤ 40)) && (l.head? == some 0)
def laB (l : List Int) : List UInt8 := l.flatMap fun x => numB x.toNat
abbrev takeLa1 (b : List UInt8) : Nat × Nat := takeNum b 40
open Classical in
noncomputable def takeLaB (b : List UInt8) : List Int × Nat :=
  if StdG takeLa1 b 0 12 ∧ (nthG takeLa1 b 0 0).1 = 0 then ((listG takeLa1 b 0 12).map Int.ofNat, posG takeLa1 b 0 12) else (List.replicate 12 0, 0)
end Go.Proofs.YtpjleeeligahaaaGreatDoor

namespace Go.Proofs.YtpjleeeligahaaaGreatDoor
open Go.RowKit

/-- The cells of elements; are they of z cells each? -/
abbrev celV (l : List (Array Value)) : List Value := l.flatMap (·.toList)
def Szd (z : Nat) (l : List (Array Value)) : Prop := ∀ cs, cs ∈ l → cs.size = z
theorem celV_len {z : Nat} : ∀ (l : List (Array Value)), Szd z l → (celV l).length = l.length * z
  | [], _ => by simp
  | a :: t, h => by
    have h1 := h a (List.mem_cons_self ..)
    have h2 := celV_len t fun cs hc => h cs (List.mem_cons_of_mem _ hc)
    show (a.toList ++ celV t).length = _
    rw [List.length_append, h2, Array.length_toList, h1, List.length_cons, Nat.succ_mul]
    omega
theorem celV_get {z : Nat} : ∀ (l : List (Array Value)), Szd z l → ∀ (k j : Nat) (cs : Array Value) (v : Value), l[k]? = some cs → cs[j]? = some v → (celV l)[k * z + j]? = some v
  | [], _, k, j, cs, v, h, _ => by simp at h
  | a :: t, _, 0, j, cs, v, h, hv => by
    have e : a = cs := by simpa using h
    subst e
    have hj := (Array.getElem?_eq_some_iff.1 hv).1
    show (a.toList ++ celV t)[0 * z + j]? = _
    rw [Nat.zero_mul, Nat.zero_add, List.getElem?_append_left (by rw [Array.length_toList]; exact hj), Array.getElem?_toList]
    exact hv
  | a :: t, hs, k + 1, j, cs, v, h, hv => by
    have h1 := hs a (List.mem_cons_self ..)
    have h2 : t[k]? = some cs := by simpa using h
    have ih := celV_get t (fun cs hc => hs cs (List.mem_cons_of_mem _ hc)) k j cs v h2 hv
    show (a.toList ++ celV t)[(k + 1) * z + j]? = _
    rw [Nat.succ_mul, List.getElem?_append_right (by rw [Array.length_toList, h1]; omega), Array.length_toList, h1, show k * z + z + j - z = k * z + j by omega]
    exact ih
/-- The slice at A reads as the elements l, z cells each, in blocks below B. -/
def RdX (z B : Nat) (W : World) (A : Option Addr) (l : List (Array Value)) : Prop :=
  ∀ k cs, l[k]? = some cs → ∃ ad, A = some ad ∧ ad.block < B ∧ ∀ j v, cs[j]? = some v → W.cell? (ad.add (k * z + j)) = some v
theorem RdX.nil (z B : Nat) (W : World) (A : Option Addr) : RdX z B W A [] := fun k x h => by simp at h
theorem RdX.keep {z B C : Nat} {W W' : World} {A : Option Addr} {l : List (Array Value)} (h : RdX z B W A l) (hb : Below C W W') (hBC : B ≤ C) : RdX z B W' A l := by
  intro k x hx
  obtain ⟨ad, hA, hl, hc⟩ := h k x hx
  exact ⟨ad, hA, hl, fun j v hv => (hb.cell (by rw [add_block]; omega)).trans (hc j v hv)⟩
theorem RdX.more {z B C : Nat} {W : World} {A : Option Addr} {l : List (Array Value)} (h : RdX z B W A l) (hBC : B ≤ C) : RdX z C W A l := by
  intro k x hx
  obtain ⟨ad, hA, hl, hc⟩ := h k x hx
  exact ⟨ad, hA, by omega, hc⟩
theorem RdX.drews {z B : Nat} {W : World} {A : Option Addr} {l : List (Array Value)} (h : RdX z B W A l) (n : Nat) : RdX z B (W.drewN n) A l := h
theorem RdX.grown {z B : Nat} {W W' : World} {A : Option Addr} {l : List (Array Value)} {row : Option Nat} (h : RdX z B W A l) (hg : W.grownBy W' row) (hB : B ≤ W.heap.size) (hne : ∀ a, A = some a → some a.block ≠ row) : RdX z B W' A l := by
  intro k x hx
  obtain ⟨ad, hA, hl, hc⟩ := h k x hx
  exact ⟨ad, hA, hl, fun j v hv => (hg.cell_far _ (by rw [add_block]; omega) (by rw [add_block]; exact hne ad hA)).trans (hc j v hv)⟩
theorem addX_at (a : Addr) (i j : Nat) : a.add (i + (j + 1)) = ⟨(a.add i).block, (a.add i).off + (j + 1), none⟩ := by
  rw [← add_add', Addr.add, if_neg (by omega)]
/-- An element's cells, as a load asks for them. -/
theorem celX {W : World} {ad : Addr} {k z : Nat} {cs : Array Value} (hc : ∀ j v, cs[j]? = some v → W.cell? (ad.add (k * z + j)) = some v) :
    (∀ v, cs[0]? = some v → W.cell? (ad.add (k * z)) = some v) ∧ ∀ j v, cs[j + 1]? = some v → W.cell? ⟨(ad.add (k * z)).block, (ad.add (k * z)).off + (j + 1), none⟩ = some v :=
  ⟨fun v hv => hc 0 v hv, fun j v hv => by rw [← addX_at]; exact hc (j + 1) v hv⟩
/-- A row of elements that the call owns, in blocks from base on. -/
def OwnX (t : TypeId) (z base : Nat) (W : World) (A : Option Addr) (n c : Nat) (l : List (Array Value)) : Prop := W.ownsRow base t z (.slice A n c) n (celV l) ∧ Szd z l ∧ l.length = n
theorem OwnX.nil (t : TypeId) (z base : Nat) (W : World) : OwnX t z base W none 0 0 [] := ⟨World.ownsRow_nil W base t z, fun _ h => by simp at h, rfl⟩
theorem OwnX.len {t : TypeId} {z base : Nat} {W : World} {A : Option Addr} {n c : Nat} {l : List (Array Value)} (h : OwnX t z base W A n c l) : l.length = n := h.2.2
theorem OwnX.rd {t : TypeId} {z base : Nat} {W : World} {A : Option Addr} {n c : Nat} {l : List (Array Value)} (h : OwnX t z base W A n c l) : RdX z W.heap.size W A l := by
  intro k x hx
  have hk := (List.getElem?_eq_some_iff.1 hx).1
  have hl := h.len
  obtain ⟨g, cap, hv, _, hlt⟩ := World.ownsRow.form h.1 (by omega)
  injection hv with hv
  subst hv
  exact ⟨_, rfl, hlt, fun j v hj => h.1.cells (g := g) rfl _ _ (celV_get l h.2.1 k j x v hx hj)⟩
theorem OwnX.cap {t : TypeId} {z base : Nat} {W : World} {A : Option Addr} {n c : Nat} {l : List (Array Value)} (h : OwnX t z base W A n c l) : n ≤ c ∧ c ≤ maxLen := by
  rcases h.1.2 with ⟨hv, _⟩ | ⟨g, cap, cur, hv, _, _, h1, h2, _⟩
  · injection hv with _ h1 h2
    subst h2
    rw [h1]
    exact ⟨Nat.le_refl _, Nat.zero_le _⟩
  · injection hv with _ _ h3
    subst h3
    exact ⟨h1, h2⟩
theorem OwnX.blk {t : TypeId} {z base : Nat} {W : World} {A : Option Addr} {n c : Nat} {l : List (Array Value)} (h : OwnX t z base W A n c l) {a : Addr} (ha : A = some a) : base ≤ a.block ∧ a.block < W.heap.size := by
  subst ha
  exact World.ownsRow.lt h.1 a.block rfl
theorem OwnX.keep {t : TypeId} {z base : Nat} {W W' : World} {A : Option Addr} {n c : Nat} {l : List (Array Value)} (h : OwnX t z base W A n c l) (hb : Below W.heap.size W W') : OwnX t z base W' A n c l :=
  ⟨World.ownsRow.kept h.1 (row := none) ⟨hb.os, hb.tape, hb.output, hb.size, fun k hk _ => hb.block k hk⟩ (by cases A <;> simp [Value.ownBlock]), h.2⟩
theorem OwnX.keepG {t : TypeId} {z base : Nat} {W W' : World} {A : Option Addr} {n c : Nat} {l : List (Array Value)} {g : Nat} (h : OwnX t z base W A n c l) (hg : W.grownBy W' (some g)) (hlt : g < base) : OwnX t z base W' A n c l := by
  refine ⟨World.ownsRow.kept h.1 hg ?_, h.2⟩
  cases A with
  | none => simp [Value.ownBlock]
  | some a =>
    have := World.ownsRow.lt h.1 a.block rfl
    right
    intro e
    simp only [Value.ownBlock, Option.some.injEq] at e
    omega
theorem OwnX.less {t : TypeId} {z base b2 : Nat} {W : World} {A : Option Addr} {n c : Nat} {l : List (Array Value)} (h : OwnX t z base W A n c l) (hb : b2 ≤ base) : OwnX t z b2 W A n c l := by
  refine ⟨⟨h.1.1, ?_⟩, h.2⟩
  rcases h.1.2 with h | ⟨g, cap, cur, h1, h2, h3⟩
  · exact .inl h
  · exact .inr ⟨g, cap, cur, h1, by omega, h3⟩
/-- Append of one element onto a row of the call's own. -/
theorem run_apX {P : Program} (w : World) {t t' e' ty el : TypeId} {i : TypeInfo} {z y : Nat} {zv : Value} (ht : P.underlying t = some (.slice el)) (ht' : P.underlying t' = some (.slice e')) (hi : P.info? el = some i) (hz : i.zero = some zv) (hs : i.size = z) (hy : i.bytes = y) (hzs : zv.cells.size = z) (hz0 : 0 < z) (hy0 : y ≤ 1000)
    {base : Nat} {A : Option Addr} {ad : Addr} {n c d : Nat} {l : List (Array Value)} {x : Array Value} (hown : OwnX el z base w A n c l) (hx : x.size = z) (h1 : ∀ u ∈ x.toList, u.oneCell' = true) (hr : ∀ j v, x[j]? = some v → w.cell? (ad.add j) = some v) (hsz : n ≤ 1000000000) (hbase : base ≤ w.heap.size) :
    ∃ A' c' w', (Builtin.append_ #[t, t'] ty #[.slice A n c, .slice (some ad) 1 d]).run P w = .ok (.slice A' (n + 1) c') w' ∧ OwnX el z base w' A' (n + 1) c' (l ++ [x]) ∧ Below base w w' := by
  obtain ⟨v', w', hrun, h2, h3, _, _⟩ := run_append_own_at (P := P) w base t ty el i zv z y ht hi hz hs hy hzs hz0 (.slice A n c) n (celV l) hown.1 ad 1 d x.toList (by rw [Array.length_toList, hx, Nat.one_mul]) (fun j u hu => hr j u (by rw [← Array.getElem?_toList]; exact hu)) h1
    (by unfold maxLen; omega) (Nat.le_trans (Nat.mul_le_mul (show n + 1 ≤ 1000000001 by omega) hy0) (by omega)) hbase
  have hb : Below base w w' := (Below.refl base w).grown h3 hbase (fun k hk => (World.ownsRow.lt hown.1 k hk).1)
  have hv : ∃ A' c', v' = .slice A' (n + 1) c' := by
    rcases h2.2 with ⟨_, e2⟩ | ⟨g, cap, cur, e1, _⟩
    · omega
    · exact ⟨_, _, e1⟩
  obtain ⟨A', c', rfl⟩ := hv
  refine ⟨A', c', w', by rw [run_append_tt w ht ht']; exact hrun, ⟨?_, ?_, ?_⟩, hb⟩
  · rw [show celV (l ++ [x]) = celV l ++ x.toList by simp [celV]]
    exact h2
  · intro cs hc
    rcases List.mem_append.1 hc with h | h
    · exact hown.2.1 cs h
    · rw [List.mem_singleton.1 h]
      exact hx
  · rw [List.length_append, hown.2.2]
    rfl
section
variable {P : Program} {w : World} {t t' e' el : TypeId} {i : TypeInfo} {z y : Nat} {zv : Value} {base : Nat} {A : Option Addr} {ad : Addr} {n c d : Nat} {l : List (Array Value)} {xx : Array Value} {o : Oper} {a : Act} {Q : Exit → Act → World → Prop} {ops : Array Oper}
theorem wp_apX {K : Act → World → Prop} (s x : Operand) (ho : o.op = .call { callee := .builtin .append, args := #[s, x], argTypes := #[t, t'] })
    (ht : P.underlying t = some (.slice el)) (ht' : P.underlying t' = some (.slice e')) (hi : P.info? el = some i) (hz : i.zero = some zv) (hs : i.size = z) (hy : i.bytes = y) (hzs : zv.cells.size = z) (hz0 : 0 < z) (hy0 : y ≤ 1000)
    (h1 : a.eval s = .slice A n c) (h2 : a.eval x = .slice (some ad) 1 d) (hown : OwnX el z base w A n c l) (hx : xx.size = z) (hone : ∀ u ∈ xx.toList, u.oneCell' = true) (hr : ∀ j v, xx[j]? = some v → w.cell? (ad.add j) = some v) (hsz : n ≤ 1000000000) (hbase : base ≤ w.heap.size)
    (h : ∀ A' c' w', OwnX el z base w' A' (n + 1) c' (l ++ [xx]) → Below base w w' → K (a.put o.dst (.slice A' (n + 1) c')) w') : o.wp P a w K Q := by
  obtain ⟨A', c', w', hrun, k1, k2⟩ := run_apX (P := P) (ty := o.type) (d := d) w ht ht' hi hz hs hy hzs hz0 hy0 hown hx hone hr hsz hbase
  unfold Oper.wp execOp
  simp only [ho, resolve, invoke, builtin, Sem.run_bind, Sem.run_pure, Result.andThen_ok, List.map_toArray, List.map_cons, List.map_nil, h1, h2, hrun]
  exact h A' c' w' k1 k2
/-- .. in a plain region. -/
theorem wpList_apX {rest : List Oper} (hgd : o.guard = none) (s x : Operand) (ho : o.op = .call { callee := .builtin .append, args := #[s, x], argTypes := #[t, t'] })
    (ht : P.underlying t = some (.slice el)) (ht' : P.underlying t' = some (.slice e')) (hi : P.info? el = some i) (hz : i.zero = some zv) (hs : i.size = z) (hy : i.bytes = y) (hzs : zv.cells.size = z) (hz0 : 0 < z) (hy0 : y ≤ 1000)
    (h1 : a.eval s = .slice A n c) (h2 : a.eval x = .slice (some ad) 1 d) (hown : OwnX el z base w A n c l) (hx : xx.size = z) (hone : ∀ u ∈ xx.toList, u.oneCell' = true) (hr : ∀ j v, xx[j]? = some v → w.cell? (ad.add j) = some v) (hsz : n ≤ 1000000000) (hbase : base ≤ w.heap.size)
    (h : ∀ A' c' w', OwnX el z base w' A' (n + 1) c' (l ++ [xx]) → Below base w w' → wpList P ops Q rest (a.put o.dst (.slice A' (n + 1) c')) w') : wpList P ops Q (o :: rest) a w :=
  wpList_plain hgd fun _ hK => wp_apX s x ho ht ht' hi hz hs hy hzs hz0 hy0 h1 h2 hown hx hone hr hsz hbase fun A' c' w' k1 k2 => hK _ _ (h A' c' w' k1 k2)
/-- .. at a step of a region that draws its order. -/
theorem step_apX {K : Act → World → Prop} {E : Prop} (hgd : o.guard = none) (s x : Operand) (ho : o.op = .call { callee := .builtin .append, args := #[s, x], argTypes := #[t, t'] })
    (ht : P.underlying t = some (.slice el)) (ht' : P.underlying t' = some (.slice e')) (hi : P.info? el = some i) (hz : i.zero = some zv) (hs : i.size = z) (hy : i.bytes = y) (hzs : zv.cells.size = z) (hz0 : 0 < z) (hy0 : y ≤ 1000)
    (h1 : a.eval s = .slice A n c) (h2 : a.eval x = .slice (some ad) 1 d) (hown : OwnX el z base w A n c l) (hx : xx.size = z) (hone : ∀ u ∈ xx.toList, u.oneCell' = true) (hr : ∀ j v, xx[j]? = some v → w.cell? (ad.add j) = some v) (hsz : n ≤ 1000000000) (hbase : base ≤ w.heap.size)
    (h : ∀ A' c' w', OwnX el z base w' A' (n + 1) c' (l ++ [xx]) → Below base w w' → K (a.put o.dst (.slice A' (n + 1) c')) w') :
    if Region.wanted o (yielded ops a.tmps) = true then Oper.wp P o a w K Q else E := by
  have hw : Region.wanted o (yielded ops a.tmps) = true := by simp [Region.wanted, hgd]
  rw [if_pos hw]
  exact wp_apX s x ho ht ht' hi hz hs hy hzs hz0 hy0 h1 h2 hown hx hone hr hsz hbase h
end
/-- A block's cells, as an append asks for them. -/
theorem zeroX_at (g j : Nat) : (Addr.mk g 0 none).add j = Addr.mk g j none := by
  unfold Addr.add
  by_cases h : j = 0
  · rw [if_pos h, h]
  · rw [if_neg h]
    simp
theorem newX (W : World) (x : Array Value) (t : TypeId) : ∀ j v, x[j]? = some v → (W.alloc (.cells x t)).cell? ((⟨W.heap.size, 0, none⟩ : Addr).add j) = some v := by
  intro j v hv
  rw [zeroX_at, (blk_new W x t).cell j]
  exact hv
end Go.Proofs.YtpjleeeligahaaaGreatDoor

namespace Go.Proofs.YtpjleeeligahaaaGreatDoor
open Go.RowKit

theorem put_len {base n : Nat} {W : World} {A : Option Addr} {n2 c2 : Nat} {l m : List UInt8} (hO : OwnB base W A n2 c2 (l ++ m)) (hl : l.length = n) {q : Nat} (hm : m.length ≤ q) : n2 ≤ n + q := by
  have h1 := hO.len
  rw [List.length_append] at h1
  omega
theorem Oth.blk {w w' : World} (h : Oth w w') {b : Nat} {cs : Array Value} {t : TypeId} (ht : t ≠ 5) (hb : Blk w b cs t) : Blk w' b cs t := h b cs t ht hb

set_option maxRecDepth 100000 in
set_option maxHeartbeats 2000000 in
theorem putValue_any (base : Nat) (A : Option Addr) (n c : Nat) (l : List UInt8) (k x : Int) (s : ByteArray) (w : World) (hp : PreB base w A n c l) (hb : base ≤ w.heap.size) (hm : n ≤ 90000000000)
    (hk : k = 0 ∨ k = 1 ∨ k = 2) (h0 : -9223372036854775808 ≤ x) (h1 : x ≤ 9223372036854775807) (hs : s.size ≤ 1000000) :
    Calls Tryz.prog 110 #[.slice A n c, .agg #[.int .i64 k, .int .i64 x, .string s]] w fun e w' => PutO base w (l ++ valB k x s.data.toList) e w' := by
  have H0 := Lib.hid h0
  have H1 := Lib.hid h1
  have hl := hp.len
  clear h0 h1
  rcases hk with rfl | rfl | rfl
  all_goals
    go_enter Tryz.func110, Tryz.ntmps110
    go_wp2_with fail
  · have hC := blk_new w #[.int .i64 0, .int .i64 x, .string s] 43
    have hB := (Below.refl base w).alloc hb (.cells #[.int .i64 0, .int .i64 x, .string s] 43)
    have hp2 := hp.keep (b0 w (.cells #[.int .i64 0, .int .i64 x, .string s] 43))
    have hT := Oth.below (b0 w (.cells #[.int .i64 0, .int .i64 x, .string s] 43))
    clear hp
    generalize w.alloc (.cells #[.int .i64 0, .int .i64 x, .string s] 43) = W at hC hB hp2 hT ⊢
    have hbW := Nat.le_trans hb hB.size
    refine (putNumber_any base A n c l 0 W hp2 hbW (by omega) (by omega)).mono ?_
    rintro e w1 ⟨⟨A2, n2, d2, rfl, hO⟩, hb2, ht2⟩
    obtain ⟨q0, q1, q2, q3⟩ := (ht2.blk (by decide) hC).c3
    go_wp2_with fail
    go_ret
    exact ⟨⟨A2, n2, d2, rfl, by rw [valB_0]; exact hO⟩, hB.trans hb2, hT.trans ht2⟩
  · have hC := blk_new w #[.int .i64 1, .int .i64 x, .string s] 43
    have hB := (Below.refl base w).alloc hb (.cells #[.int .i64 1, .int .i64 x, .string s] 43)
    have hp2 := hp.keep (b0 w (.cells #[.int .i64 1, .int .i64 x, .string s] 43))
    have hT := Oth.below (b0 w (.cells #[.int .i64 1, .int .i64 x, .string s] 43))
    clear hp
    generalize w.alloc (.cells #[.int .i64 1, .int .i64 x, .string s] 43) = W at hC hB hp2 hT ⊢
    have hbW := Nat.le_trans hb hB.size
    refine (putNumber_any base A n c l 1 W hp2 hbW (by omega) (by omega)).mono ?_
    rintro e w1 ⟨⟨A2, n2, d2, rfl, hO⟩, hb2, ht2⟩
    have hC1 := ht2.blk (by decide) hC
    have hn2 := put_len hO hl (numB_small (n := 1) (by omega))
    obtain ⟨q0, q1, q2, q3⟩ := hC1.c3
    go_wp2_with fail
    refine (putInt_any base A2 n2 d2 _ x w1 (.inl hO) (Nat.le_trans hbW hb2.size) (by omega) H0.out H1.out).mono ?_
    rintro e w2 ⟨⟨A3, n3, d3, rfl, hO3⟩, hb3, ht3⟩
    clear q0 q1 q2 q3
    obtain ⟨q0, q1, q2, q3⟩ := (ht3.blk (by decide) hC1).c3
    go_wp2_with fail
    go_ret
    exact ⟨⟨A3, n3, d3, rfl, by rw [valB_1, ← List.append_assoc]; exact hO3⟩, hB.trans (hb2.trans hb3), hT.trans (ht2.trans ht3)⟩
  · have hC := blk_new w #[.int .i64 2, .int .i64 x, .string s] 43
    have hB := (Below.refl base w).alloc hb (.cells #[.int .i64 2, .int .i64 x, .string s] 43)
    have hp2 := hp.keep (b0 w (.cells #[.int .i64 2, .int .i64 x, .string s] 43))
    have hT := Oth.below (b0 w (.cells #[.int .i64 2, .int .i64 x, .string s] 43))
    clear hp
    generalize w.alloc (.cells #[.int .i64 2, .int .i64 x, .string s] 43) = W at hC hB hp2 hT ⊢
    have hbW := Nat.le_trans hb hB.size
    refine (putNumber_any base A n c l 2 W hp2 hbW (by omega) (by omega)).mono ?_
    rintro e w1 ⟨⟨A2, n2, d2, rfl, hO⟩, hb2, ht2⟩
    have hC1 := ht2.blk (by decide) hC
    have hn2 := put_len hO hl (numB_small (n := 2) (by omega))
    obtain ⟨q0, q1, q2, q3⟩ := hC1.c3
    go_wp2_with fail
    refine (putText_any base A2 n2 d2 _ s w1 (.inl hO) (Nat.le_trans hbW hb2.size) (by omega) (by omega)).mono ?_
    rintro e w2 ⟨⟨A3, n3, d3, rfl, hO3⟩, hb3, ht3⟩
    clear q0 q1 q2 q3
    obtain ⟨q0, q1, q2, q3⟩ := (ht3.blk (by decide) hC1).c3
    go_wp2_with fail
    go_ret
    exact ⟨⟨A3, n3, d3, rfl, by rw [valB_2, ← List.append_assoc]; exact hO3⟩, hB.trans (hb2.trans hb3), hT.trans (ht2.trans ht3)⟩

theorem valB_short {k n : Int} {s : ByteArray} (hk : k = 0 ∨ k = 1 ∨ k = 2) (h0 : -9223372036854775808 ≤ n) (h1 : n ≤ 9223372036854775807) (hs : s.size ≤ 1000) : (valB k n s.data.toList).length ≤ 2000000 :=
  Nat.le_trans (valB_small hk h0 h1 (by omega)) (by omega)

set_option maxRecDepth 100000 in
set_option maxHeartbeats 4000000 in
theorem putWrite_any (base : Nat) (A : Option Addr) (n c : Nat) (l : List UInt8) (x : Wr) (w : World) (hp : PreB base w A n c l) (hb : base ≤ w.heap.size) (hm : n ≤ 80000000000) (hg : x.good = true) (hf : x.fits) :
    Calls Tryz.prog 63 #[.slice A n c, .agg x.cells] w fun e w' => PutO base w (l ++ wB x) e w' := by
  obtain ⟨dev, seq, K, ky, ka, na, sa, kb, nb, sb⟩ := x
  obtain ⟨⟨d0, d1⟩, ⟨s0, s1⟩, ⟨k0, k1⟩, hky, ⟨hka, hsa⟩, ⟨hkb, hsb⟩⟩ := good_in hg
  obtain ⟨-, -, -, ⟨fa0, fa1⟩, fb0, fb1⟩ := hf
  dsimp only at d0 d1 s0 s1 k0 k1 hky hka hsa hkb hsb fa0 fa1 fb0 fb1
  have hl := hp.len
  have HA := Lib.hid (And.intro hka (And.intro fa0 fa1))
  have HB := Lib.hid (And.intro hkb (And.intro fb0 fb1))
  clear hka hkb fa0 fa1 fb0 fb1 hg
  have e1 : (dev : Int) = ((dev.toNat : Nat) : Int) := by omega
  have e2 : (seq : Int) = ((seq.toNat : Nat) : Int) := by omega
  have e3 : (K : Int) = ((K.toNat : Nat) : Int) := by omega
  have hE : Hid (l ++ numB dev.toNat ++ numB seq.toNat ++ numB K.toNat ++ textB ky.data.toList ++ valB ka na sa.data.toList ++ valB kb nb sb.data.toList = l ++ wB ⟨dev, seq, K, ky, ka, na, sa, kb, nb, sb⟩) := by
    show _ = _
    unfold wB wrB
    simp only [List.append_assoc]
  generalize hd' : dev.toNat = dv at e1 hE
  generalize hs' : seq.toNat = sq at e2 hE
  generalize hk' : K.toNat = Kn at e3 hE
  clear hd' hs' hk'
  subst e1 e2 e3
  have wd : IntKind.u64.wrap (dv : Int) = (dv : Int) := wrap_size (by omega)
  have wq : IntKind.u64.wrap (sq : Int) = (sq : Int) := wrap_size (by omega)
  have wk : IntKind.u64.wrap (Kn : Int) = (Kn : Int) := wrap_size (by omega)
  go_enter Tryz.func63, Tryz.ntmps63
  go_wp2_with fail
  have hC := blk_new w (wrI dv sq Kn ky ka na sa kb nb sb) 47
  have hB := (Below.refl base w).alloc hb (.cells (wrI dv sq Kn ky ka na sa kb nb sb) 47)
  have hp2 := hp.keep (b0 w (.cells (wrI dv sq Kn ky ka na sa kb nb sb) 47))
  have hT := Oth.below (b0 w (.cells (wrI dv sq Kn ky ka na sa kb nb sb) 47))
  clear hp
  generalize w.alloc (.cells (wrI dv sq Kn ky ka na sa kb nb sb) 47) = W at hC hB hp2 hT ⊢
  have hbW := Nat.le_trans hb hB.size
  generalize w.heap.size = b at hC ⊢
  refine (putNumber_any base A n c l dv W hp2 hbW (by omega) (by omega)).mono ?_
  rintro e w1 ⟨⟨A1, n1, c1, rfl, hO1⟩, hb1, ht1⟩
  have hC1 := ht1.blk (by decide) hC
  have hn1 := put_len hO1 hl (numB_small (n := dv) (by omega))
  have hB1 := hB.trans hb1
  have hT1 := hT.trans ht1
  have hz1 := Nat.le_trans hb hB1.size
  clear hC hp2 hb1 ht1 hB hT hbW hb
  obtain ⟨t0, t1, t2, t3, t4, t5, t6, t7, t8, t9, tl⟩ := blk_c10 hC1
  go_wp2_with fail
  refine (putNumber_any base A1 n1 c1 _ sq w1 (.inl hO1) hz1 (by omega) (by omega)).mono ?_
  rintro e w2 ⟨⟨A2, n2, c2, rfl, hO2⟩, hb2, ht2⟩
  have hC2 := ht2.blk (by decide) hC1
  have hn2 := put_len hO2 hO1.len (numB_small (n := sq) (by omega))
  have hB2 := hB1.trans hb2
  have hT2 := hT1.trans ht2
  have hz2 := Nat.le_trans hz1 hb2.size
  clear t0 t1 t2 t3 t4 t5 t6 t7 t8 t9 tl hC1 hO1 hb2 ht2 hB1 hT1 hz1
  obtain ⟨t0, t1, t2, t3, t4, t5, t6, t7, t8, t9, tl⟩ := blk_c10 hC2
  go_wp2_with fail
  refine (putNumber_any base A2 n2 c2 _ Kn w2 (.inl hO2) hz2 (by omega) (by omega)).mono ?_
  rintro e w3 ⟨⟨A3, n3, c3, rfl, hO3⟩, hb3, ht3⟩
  have hC3 := ht3.blk (by decide) hC2
  have hn3 := put_len hO3 hO2.len (numB_small (n := Kn) (by omega))
  have hB3 := hB2.trans hb3
  have hT3 := hT2.trans ht3
  have hz3 := Nat.le_trans hz2 hb3.size
  clear t0 t1 t2 t3 t4 t5 t6 t7 t8 t9 tl hC2 hO2 hb3 ht3 hB2 hT2 hz2
  obtain ⟨t0, t1, t2, t3, t4, t5, t6, t7, t8, t9, tl⟩ := blk_c10 hC3
  go_wp2_with fail
  refine (putText_any base A3 n3 c3 _ ky w3 (.inl hO3) hz3 (by omega) (by omega)).mono ?_
  rintro e w4 ⟨⟨A4, n4, c4, rfl, hO4⟩, hb4, ht4⟩
  have hC4 := ht4.blk (by decide) hC3
  have hn4 := put_len hO4 hO3.len (textB_small (s := ky) (by omega))
  have hB4 := hB3.trans hb4
  have hT4 := hT3.trans ht4
  have hz4 := Nat.le_trans hz3 hb4.size
  clear t0 t1 t2 t3 t4 t5 t6 t7 t8 t9 tl hC3 hO3 hb4 ht4 hB3 hT3 hz3
  obtain ⟨t0, t1, t2, t3, t4, t5, t6, t7, t8, t9, tl⟩ := blk_c10 hC4
  go_wp2_with fail
  refine (putValue_any base A4 n4 c4 _ ka na sa w4 (.inl hO4) hz4 (by omega) HA.out.1 HA.out.2.1 HA.out.2.2 (by omega)).mono ?_
  rintro e w5 ⟨⟨A5, n5, c5, rfl, hO5⟩, hb5, ht5⟩
  have hC5 := ht5.blk (by decide) hC4
  have hn5 := put_len hO5 hO4.len (valB_short HA.out.1 HA.out.2.1 HA.out.2.2 (show sa.size ≤ 1000 by omega))
  have hB5 := hB4.trans hb5
  have hT5 := hT4.trans ht5
  have hz5 := Nat.le_trans hz4 hb5.size
  clear t0 t1 t2 t3 t4 t5 t6 t7 t8 t9 tl hC4 hO4 hb5 ht5 hB4 hT4 hz4
  obtain ⟨t0, t1, t2, t3, t4, t5, t6, t7, t8, t9, tl⟩ := blk_c10 hC5
  go_wp2_with fail
  refine (putValue_any base A5 n5 c5 _ kb nb sb w5 (.inl hO5) hz5 (by omega) HB.out.1 HB.out.2.1 HB.out.2.2 (by omega)).mono ?_
  rintro e w6 ⟨⟨A6, n6, c6, rfl, hO6⟩, hb6, ht6⟩
  clear t0 t1 t2 t3 t4 t5 t6 t7 t8 t9 tl
  obtain ⟨t0, t1, t2, t3, t4, t5, t6, t7, t8, t9, tl⟩ := blk_c10 (ht6.blk (by decide) hC5)
  go_wp2_with fail
  go_ret
  exact ⟨⟨A6, n6, c6, rfl, by rw [← hE.out]; exact hO6⟩, hB5.trans hb6, hT5.trans ht6⟩
end Go.Proofs.YtpjleeeligahaaaGreatDoor
