/-
  WHAT IS PROVED: spinneyref04.Good tells whether a list of strings is a reach, as goodR does, for every slice of strings. Conditions: those typed in the theorem. · of the code of reaches: prefixes tells whether all may be prefixes, Has whether one of them begins a text, Covers whether one has all that another one has. Conditions: those typed in each theorem. · plain facts on what is left of a sorted list of texts if each is dropped that begins with the last one left: the reach of these prefixes. No program. No condition. · slices.Clone and slices.Sort of strings in the words of owned rows; reach.least answers a row of its own of what is left (leastOf). Conditions: those typed in each theorem. · strings.Clone answers the same text; fresh.Texts answers the same texts in a row of its own. Conditions: those typed in each theorem. · plain facts and words for cells, lasts and lines: their cells in memory, when they are good, their bytes, what is taken of bytes; what is put is taken again. No program is spoken of.
-/
import Derived.Test.YtokkmofcijfmiabGQ6
import Derived.Test.YtokkmofcijfmiabGQ1
import Derived.IntWalk
import Derived.Test.YtokkmofcijfmiabShelf
import Derived.Lib.OwnBridge
import Derived.Sort.Grow
import Derived.Laws.MakeOwn
import Derived.Test.YtokkmofcijfmiabGQ5
namespace Go.Proofs.Ytokkmofcijfmiab
open Go.RowKit

theorem RdS.cells {B : Nat} {W : World} {ad : Addr} {l : List ByteArray} (h : RdS B W (some ad) l) {k : Nat} {x : ByteArray} (hx : l[k]? = some x) : W.cell? (ad.add k) = some (.string x) := by
  obtain ⟨a2, e, _, hc⟩ := h k x hx
  injection e with e
  subst e
  exact hc
theorem emptyB (x : ByteArray) : x.toList.isEmpty = x.data.toList.isEmpty := by rw [ByteArray.toList_eq]
theorem texts_is (a b : ByteArray) (v : Int) (h : Lib.compareBytes a.data.toList b.data.toList = v) (ha : a.size ≤ maxLen) (hb : b.size ≤ maxLen) (w : World) :
    Calls Try.prog 30 #[.string a, .string b] w fun e w' => e = .returned (.int .i64 v) ∧ Drn w w' := by
  subst h
  exact texts_drn a b w ha hb
theorem refKey_is (s : ByteArray) (b : Bool) (h : keyB s.data.toList = b) (hs : s.size ≤ maxLen) (w : World) :
    Calls Try.prog 28 #[.string s] w fun e w' => e = .returned (.bool b) ∧ w = w' := by
  subst h
  exact refKey_any s w hs
theorem ltB_val {a b : List UInt8} : (ltB a b = true ∧ Lib.compareBytes a b = -1) ∨ (ltB a b = false ∧ Lib.compareBytes a b = 0) ∨ (ltB a b = false ∧ Lib.compareBytes a b = 1) := by
  unfold ltB
  rcases cmpB_cases a b with h | h | h
  · exact Or.inl ⟨by rw [h]; rfl, h⟩
  · exact Or.inr (Or.inl ⟨by rw [h]; rfl, h⟩)
  · exact Or.inr (Or.inr ⟨by rw [h]; rfl, h⟩)
theorem okAt_pre {r : List (List UInt8)} {i : Nat} (h : preB (atR r i) = false) : okAt r i = false := by
  rw [Bool.eq_false_iff]
  intro hh
  rw [(okAt_iff.1 hh).1] at h
  cases h
theorem okAt_lt {r : List (List UInt8)} {i : Nat} (h0 : i ≠ 0) (h : ltB (atR r (i - 1)) (atR r i) = false) : okAt r i = false := by
  rw [Bool.eq_false_iff]
  intro hh
  rcases (okAt_iff.1 hh).2.1 with e | e
  · exact h0 e
  · rw [e] at h; cases h
theorem okAt_beg {r : List (List UInt8)} {i k : Nat} (hk : k < r.length) (hne : k ≠ i) (h : begB (atR r k) (atR r i) = true) : okAt r i = false := by
  rw [Bool.eq_false_iff]
  intro hh
  rw [(okAt_iff.1 hh).2.2 k hk hne] at h
  cases h

end Go.Proofs.Ytokkmofcijfmiab

namespace Go.Proofs.Ytokkmofcijfmiab
open Go.RowKit

theorem key_is (s : ByteArray) (w : World) (b : Bool) (hb : keyB s.data.toList = b) (hs : s.size ≤ maxLen) :
    Calls Try.prog 54 #[.string s] w fun e w' => e = .returned (.bool b) ∧ Below w.heap.size w w' := by
  subst hb
  exact key_any s w hs

/-! prefixes -/
theorem all_not {α : Type} (l : List α) (p : α → Bool) : (!(l.any fun x => !p x)) = l.all p := by
  induction l with
  | nil => rfl
  | cons a t ih => simp [ih]
/-! Has -/
theorem hasPrefix_beg (s p : List UInt8) : Lib.hasPrefix s p = begB p s := rfl
/-! Covers -/
end Go.Proofs.Ytokkmofcijfmiab

namespace Go.Proofs.Ytokkmofcijfmiab
open Go

theorem lex_cons (a b : UInt8) (as1 bs : List UInt8) : Lib.compareBytes (a :: as1) (b :: bs) = if a < b then -1 else if b < a then 1 else Lib.compareBytes as1 bs := by simp only [Lib.compareBytes]
theorem begB_cons (a b : UInt8) (as1 bs : List UInt8) : begB (a :: as1) (b :: bs) = ((a == b) && begB as1 bs) := by simp [begB, List.isPrefixOf]
theorem u8_eq {a b : UInt8} (h : ¬ a < b) (k : ¬ b < a) : a = b := by
  rw [UInt8.lt_iff_toNat_lt] at *
  exact UInt8.toNat_inj.1 (by omega)
theorem u8_irrefl (a : UInt8) : ¬ a < a := by rw [UInt8.lt_iff_toNat_lt]; omega
theorem ltB_cons (a b : UInt8) (as1 bs : List UInt8) : ltB (a :: as1) (b :: bs) = if a < b then true else if b < a then false else ltB as1 bs := by
  unfold ltB
  rw [lex_cons]
  by_cases h : a < b
  · simp [h]
  · by_cases k : b < a
    · simp [h, k]
    · simp [h, k]
/-- What stands between a text and one that it begins begins with it. -/
theorem begB_between : ∀ (y q p : List UInt8), begB y p = true → ltB q y = false → ltB p q = false → begB y q = true
  | [], q, p, _, _, _ => by simp [begB, List.isPrefixOf]
  | a :: y, [], p, _, h1, _ => by simp [ltB, Lib.compareBytes] at h1
  | a :: y, b :: q, [], h, _, _ => by simp [begB, List.isPrefixOf] at h
  | a :: y, b :: q, c :: p, h, h1, h2 => by
    rw [begB_cons, Bool.and_eq_true, beq_iff_eq] at h
    obtain ⟨rfl, h⟩ := h
    rw [ltB_cons] at h1 h2
    have n1 : ¬ b < a := fun e => by simp [e] at h1
    have n2 : ¬ a < b := fun e => by simp [e] at h2
    have e : a = b := u8_eq n2 n1
    subst e
    rw [if_neg (u8_irrefl _), if_neg (u8_irrefl _)] at h1 h2
    rw [begB_cons, begB_between y q p h h1 h2]
    simp
/-- What begins a text isn't behind it. -/
theorem begB_le : ∀ (p x : List UInt8), begB p x = true → ltB x p = false
  | [], x, _ => by cases x <;> simp [ltB, Lib.compareBytes]
  | a :: p, [], h => by simp [begB, List.isPrefixOf] at h
  | a :: p, b :: x, h => by
    rw [begB_cons, Bool.and_eq_true, beq_iff_eq] at h
    obtain ⟨rfl, h⟩ := h
    rw [ltB_cons, if_neg (u8_irrefl _), if_neg (u8_irrefl _)]
    exact begB_le p x h
theorem list_lt_iff : ∀ (x y : List UInt8), x < y ↔ ltB x y = true
  | [], [] => by simp [ltB, Lib.compareBytes]
  | [], _ :: _ => by simp [ltB, Lib.compareBytes]
  | _ :: _, [] => by simp [ltB, Lib.compareBytes]
  | a :: x, b :: y => by
    rw [List.cons_lt_cons_iff, ltB_cons, list_lt_iff x y]
    by_cases h : a < b
    · simp [h]
    · by_cases k : b < a
      · have hne : a ≠ b := fun e => by subst e; exact h k
        simp [h, k, hne]
      · have e := u8_eq h k
        subst e
        simp [h]
theorem list_le_iff (x y : List UInt8) : decide (x ≤ y) = !ltB y x := by
  rw [Bool.eq_iff_iff, decide_eq_true_eq, Bool.not_eq_true', ← Bool.not_eq_true, ← list_lt_iff]
  exact List.not_lt.symm

/-- With one more. -/
def leastStep (left : List (List UInt8)) (p : List UInt8) : List (List UInt8) :=
  if left = [] ∨ begB (atR left (left.length - 1)) p = false then left ++ [p] else left
/-- What is left of a sorted list. -/
def leastL (s : List (List UInt8)) : List (List UInt8) := s.foldl leastStep []
theorem leastL_snoc (s : List (List UInt8)) (p : List UInt8) : leastL (s ++ [p]) = leastStep (leastL s) p := by
  unfold leastL
  rw [List.foldl_append]
  rfl
theorem leastStep_le (l : List (List UInt8)) (p : List UInt8) : (leastStep l p).length ≤ l.length + 1 := by
  unfold leastStep
  split <;> simp
theorem leastL_le (s : List (List UInt8)) : (leastL s).length ≤ s.length := by
  have key : ∀ (s l : List (List UInt8)), (s.foldl leastStep l).length ≤ l.length + s.length := by
    intro s
    induction s with
    | nil => intro l; simp
    | cons p s ih =>
      intro l
      have h1 := ih (leastStep l p)
      have h2 := leastStep_le l p
      simp only [List.foldl_cons, List.length_cons]
      omega
  have := key s []
  simpa [leastL] using this
/-- Sorted, though not each once. -/
def Sorted (s : List (List UInt8)) : Prop := s.Pairwise fun a b => ltB b a = false
/-- What the loop keeps. -/
structure LeastInv (s L : List (List UInt8)) : Prop where
  rises : Rises L
  mem : ∀ x, x ∈ L → x ∈ s
  low : ∀ x, x ∈ L → ∀ y, y ∈ s → begB y x = true → y = x
  cov : ∀ x, x ∈ s → ∃ y, y ∈ L ∧ begB y x = true
theorem least_inv_nil : LeastInv [] [] := ⟨List.Pairwise.nil, fun _ h => h, fun _ h => by simp at h, fun _ h => by simp at h⟩
theorem le_eq {a b : List UInt8} (h : ltB a b = false) (k : ltB b a = false) : a = b := by
  apply Classical.byContradiction
  intro hne
  rw [ltB_total h hne] at k
  cases k
theorem least_inv_step {s L : List (List UInt8)} {p : List UInt8} (h : LeastInv s L) (hp : ∀ x, x ∈ s → ltB p x = false) : LeastInv (s ++ [p]) (leastStep L p) := by
  unfold leastStep
  by_cases h0 : L = []
  · subst h0
    have hs : s = [] := by
      cases s with
      | nil => rfl
      | cons a t =>
        obtain ⟨y, hy, _⟩ := h.cov a List.mem_cons_self
        simp at hy
    subst hs
    rw [if_pos (Or.inl rfl)]
    refine ⟨by simp [Rises], fun x hx => hx, fun x hx y hy _ => ?_, fun x hx => ⟨x, hx, begB_refl x⟩⟩
    simp at hx hy
    rw [hx, hy]
  · have hlen := List.length_pos_iff.2 h0
    have hq : atR L (L.length - 1) ∈ L := atR_mem (by omega)
    have hlast : ∀ y, y ∈ L → y ≠ atR L (L.length - 1) → ltB y (atR L (L.length - 1)) = true := by
      intro y hy hne
      obtain ⟨i, hi, rfl⟩ := mem_atR hy
      have : i ≠ L.length - 1 := fun e => hne (by rw [e])
      exact rises_at h.rises (by omega) (by omega)
    generalize hqe : atR L (L.length - 1) = q at hq hlast
    by_cases hb : begB q p = true
    · rw [if_neg (by simp [h0, hb])]
      refine ⟨h.rises, fun x hx => List.mem_append_left _ (h.mem x hx), fun x hx y hy hbx => ?_, fun x hx => ?_⟩
      · rcases List.mem_append.1 hy with hy | hy
        · exact h.low x hx y hy hbx
        · rw [List.mem_singleton] at hy
          subst hy
          exact (le_eq (begB_le _ _ hbx) (hp x (h.mem x hx))).symm
      · rcases List.mem_append.1 hx with hx | hx
        · exact h.cov x hx
        · rw [List.mem_singleton] at hx
          subst hx
          exact ⟨q, hq, hb⟩
    · have hb' : begB q p = false := by simpa using hb
      rw [if_pos (Or.inr hb')]
      have hL : ∀ y, y ∈ L → begB y p = false := by
        intro y hy
        rw [Bool.eq_false_iff]
        intro hyp
        by_cases e : y = q
        · rw [e, hb'] at hyp; cases hyp
        · have h1 := ltB_asymm (hlast y hy e)
          have h2 := begB_between y q p hyp h1 (hp q (h.mem q hq))
          exact e (h.low q hq y (h.mem y hy) h2)
      have hS : ∀ y, y ∈ s → begB y p = false := by
        intro y hy
        rw [Bool.eq_false_iff]
        intro hyp
        obtain ⟨z, hz, hzy⟩ := h.cov y hy
        have := hL z hz
        rw [begB_trans hzy hyp] at this
        cases this
      refine ⟨?_, fun x hx => ?_, fun x hx y hy hbx => ?_, fun x hx => ?_⟩
      · refine List.pairwise_append.2 ⟨h.rises, List.pairwise_singleton _ _, fun x hx y hy => ?_⟩
        rw [List.mem_singleton] at hy
        subst hy
        refine ltB_total (hp x (h.mem x hx)) fun e => ?_
        have := hS x (h.mem x hx)
        rw [← e, begB_refl] at this
        cases this
      · rcases List.mem_append.1 hx with hx | hx
        · exact List.mem_append_left _ (h.mem x hx)
        · exact List.mem_append_right _ hx
      · rcases List.mem_append.1 hx with hxL | hx
        · rcases List.mem_append.1 hy with hy | hy
          · exact h.low x hxL y hy hbx
          · rw [List.mem_singleton] at hy
            subst hy
            exact (le_eq (begB_le _ _ hbx) (hp x (h.mem x hxL))).symm
        · rw [List.mem_singleton] at hx
          subst hx
          rcases List.mem_append.1 hy with hy | hy
          · rw [hS y hy] at hbx; cases hbx
          · exact List.mem_singleton.1 hy
      · rcases List.mem_append.1 hx with hx | hx
        · obtain ⟨y, hy, hyx⟩ := h.cov x hx
          exact ⟨y, List.mem_append_left _ hy, hyx⟩
        · exact ⟨x, List.mem_append_right _ hx, begB_refl x⟩
theorem least_inv (s : List (List UInt8)) (hs : Sorted s) : LeastInv s (leastL s) := by
  have key : ∀ k, k ≤ s.length → LeastInv (s.take k) (leastL (s.take k)) := by
    intro k
    induction k with
    | zero => intro _; simpa [leastL] using least_inv_nil
    | succ k ih =>
      intro hk
      rw [List.take_succ_eq_append_getElem (by omega), leastL_snoc]
      refine least_inv_step (ih (by omega)) fun x hx => ?_
      obtain ⟨i, hi, rfl⟩ := List.getElem_of_mem hx
      rw [List.length_take] at hi
      rw [List.getElem_take]
      exact List.pairwise_iff_getElem.1 hs i k (by omega) (by omega) (by omega)
  have := key s.length (Nat.le_refl _)
  rwa [List.take_length] at this
theorem least_made_of {s : List (List UInt8)} (hs : Sorted s) : IsMade (· ∈ s) (leastL s) := by
  have h := least_inv s hs
  refine ⟨h.rises, fun x => ⟨fun hx => ⟨h.mem x hx, fun y hy hb => h.low x hx y hy hb⟩, fun ⟨hx, hy⟩ => ?_⟩⟩
  obtain ⟨y, hyL, hb⟩ := h.cov x hx
  rw [← hy y (h.mem y hyL) hb]
  exact hyL
/-- The sort's answer. -/
def sortL (l : List (List UInt8)) : List (List UInt8) := l.mergeSort fun x y => decide (x ≤ y)
theorem sortL_perm (l : List (List UInt8)) : (sortL l).Perm l := List.mergeSort_perm _ _
theorem sortL_len (l : List (List UInt8)) : (sortL l).length = l.length := (sortL_perm l).length_eq
theorem sortL_sorted (l : List (List UInt8)) : Sorted (sortL l) := by
  have h := List.pairwise_mergeSort (le := fun x y : List UInt8 => decide (x ≤ y)) (fun a b c h k => by
    simp only [decide_eq_true_eq] at *
    exact List.le_trans h k) (fun a b => by
    have := List.le_total a b
    simpa [Bool.or_eq_true] using this) l
  refine h.imp fun {a b} hab => ?_
  rw [list_le_iff] at hab
  simpa using hab
/-- The prefixes that are left of any list. -/
def leastOf (l : List (List UInt8)) : List (List UInt8) := leastL (sortL l)
theorem least_made (l : List (List UInt8)) : IsMade (· ∈ l) (leastOf l) :=
  made_congr (least_made_of (sortL_sorted l)) fun _ => (sortL_perm l).mem_iff
theorem leastOf_len (l : List (List UInt8)) : (leastOf l).length ≤ l.length := by
  have := leastL_le (sortL l)
  rw [sortL_len] at this
  exact this
/-- It is a reach just if all may be prefixes, they are not too many, and none is dropped. -/
theorem goodR_least (r : List (List UInt8)) : goodR r = (decide (r.length ≤ 6) && (r.all preB && decide (r = leastOf r))) := by
  rw [Bool.eq_iff_iff, Bool.and_eq_true, Bool.and_eq_true, decide_eq_true_eq, decide_eq_true_eq, List.all_eq_true]
  constructor
  · intro h
    exact ⟨(goodR_iff.1 h).2, fun x hx => goodR_pre h hx, made_uniq (goodR_made h) (least_made r) fun _ => Iff.rfl⟩
  · rintro ⟨h1, h2, h3⟩
    have hm := least_made r
    rw [← h3] at hm
    exact made_good hm h2 h1
end Go.Proofs.Ytokkmofcijfmiab

namespace Go.Proofs.Ytokkmofcijfmiab
open Go.RowKit

/-- A row of strings of the call's own that a call answered. -/
def AnsO (base : Nat) (R : List (List UInt8)) (e : Ending) (w' : World) : Prop :=
  ∃ (A : Option Addr) (c : Nat) (r : List ByteArray), e = .returned (.slice A R.length c) ∧ OwnS base w' A R.length c r ∧ dL r = R
theorem rd_nil_len {B : Nat} {W : World} {l : List ByteArray} (h : RdS B W none l) : l = [] := by
  cases l with
  | nil => rfl
  | cons x r =>
    obtain ⟨ad, he, _⟩ := h 0 x rfl
    cases he

theorem below_grows (w : World) (os : Array Obj) : Below w.heap.size w (Sort.grow w os) :=
  ⟨rfl, rfl, rfl, by show w.heap.size ≤ (w.heap ++ os).size; rw [Array.size_append]; omega, fun _ hj => Sort.heap_grow_old w os hj⟩
/-- Their texts. -/
def baL (s : List (List UInt8)) : List ByteArray := s.map fun b => ⟨b.toArray⟩
theorem dL_baL (s : List (List UInt8)) : dL (baL s) = s := by
  unfold baL
  rw [dL, List.map_map]
  conv => rhs; rw [← List.map_id s]
  apply List.map_congr_left
  intro x _
  simp
theorem strV_enc (s : List (List UInt8)) : s.map encStr = strV (baL s) := by
  unfold baL
  rw [strV, List.map_map]
  rfl
theorem strV_dL (l : List ByteArray) : strV l = (dL l).map encStr := (Lib.map_encStr l).symm

theorem sort_any {base : Nat} (A : Option Addr) (n c : Nat) (l : List ByteArray) (w : World) (h : OwnS base w A n c l) (hm : n ≤ 1099511627776) (hb : base ≤ w.heap.size) :
    Calls Try.prog 25 #[.slice A n c] w fun e w' => e = .returned (.tuple #[]) ∧ OwnS base w' A n c (baL (sortL (dL l))) ∧ Below base w w' := by
  have hl := h.len
  by_cases h0 : n = 0
  · subst h0
    have e0 : l = [] := List.length_eq_zero_iff.1 hl
    subst e0
    refine (Try.slices_Sort_string_none A c w).mono ?_
    rintro e w' ⟨rfl, rfl⟩
    refine ⟨rfl, ?_, Below.refl _ _⟩
    have e1 : baL (sortL (dL [])) = [] := by simp [sortL, baL]
    rw [e1]
    exact h
  · have hown : w.ownsRow base 9 1 (.slice A n c) n ((dL l).map encStr) := by rw [← strV_dL]; exact h
    have hne : (Value.slice A n c) ≠ .slice none 0 0 := by
      intro e
      injection e with _ e2 _
      exact h0 e2
    obtain ⟨g, cap, hv, hbg, hg, hnc, hcm, hlen, hH⟩ := Lib.holds_of_ownsRow hown hne
    injection hv with hv1 _ hv3
    subst hv1
    subst hv3
    have hs : (dL l).length < 4611686018427387904 := by rw [hlen]; omega
    have hcall := Try.slices_Sort_string g 0 c (dL l) w hH hg hs
    rw [hlen] at hcall
    refine hcall.mono ?_
    rintro e w' ⟨rfl, k, os, rfl⟩
    have hput := Lib.ownsRow_putRow (q := k) (k := n) (ys := sortL (dL l)) hown (by rw [sortL_len]; exact hlen) (Nat.le_refl _)
    rw [List.take_of_length_le (by rw [sortL_len]; omega), strV_enc] at hput
    have hbel := Lib.below_putRow (enc := encStr) (B := base) (w0 := w) (w := w) (g := g) (q := k) (d := (sortL (dL l)).toArray) (Below.refl _ _) hbg
    have hgrow := below_grows (Sort.putRow encStr (Sort.ahead w k) g 0 (sortL (dL l)).toArray) os
    have hput2 : OwnS base (Sort.putRow encStr (Sort.ahead w k) g 0 (sortL (dL l)).toArray) (some ⟨g, 0, none⟩) n c (baL (sortL (dL l))) := hput
    exact ⟨rfl, hput2.keep hgrow, hbel.trans (hgrow.mono (Nat.le_trans hb hbel.size))⟩
theorem baL_len (s : List (List UInt8)) : (baL s).length = s.length := by simp [baL]
theorem baL_get {s : List (List UInt8)} {k : Nat} (h : k < s.length) : (baL s)[k]? = some ⟨s[k].toArray⟩ := by simp [baL, h]
end Go.Proofs.Ytokkmofcijfmiab

namespace Go.Proofs.Ytokkmofcijfmiab
open Go.RowKit

theorem made_one (v : Value) (n : Nat) : (madeCells #[v] n).toList = List.replicate n v := by
  unfold madeCells
  apply List.ext_getElem
  · simp
  · intro i h1 h2
    simp [Nat.mod_one]
theorem run_makeS (W : World) (n : Nat) (hn : n ≤ 1000000) :
    (Instr.makeSlice 24 (.int .i64 (n : Int)) (.int .i64 (n : Int))).run Try.prog W = .ok (.slice (some ⟨W.heap.size, 0, none⟩) n n) (W.alloc (.cells (madeCells #[.string ⟨#[]⟩] n) 9)) := by
  obtain ⟨i0, hi0, hz0, hz1, hz2⟩ := info_parts str_info
  have h := run_make W 24 9 i0 (.string ⟨#[]⟩) Try.underlying24 hi0 hz0 .i64 .i64 (n : Int) (n : Int) (by omega) (Int.le_refl _) (by rw [hz2]; omega) (by omega)
  rw [Int.toNat_natCast, hz1, Nat.mul_one] at h
  exact h
theorem ownMade (w : World) (n : Nat) (hn : n ≤ 1000000) : OwnS w.heap.size (w.alloc (.cells (madeCells #[.string ⟨#[]⟩] n) 9)) (some ⟨w.heap.size, 0, none⟩) n n (List.replicate n ⟨#[]⟩) :=
  OwnS.lit w _ _ (by rw [made_one, strV, List.map_replicate]) (by simp) (Nat.le_refl _) (by unfold maxLen; omega)
/-- What stands there behind k rounds. -/
def freshTo (l : List ByteArray) (k : Nat) : List ByteArray := l.take k ++ List.replicate (l.length - k) ⟨#[]⟩
theorem freshTo_zero (l : List ByteArray) : freshTo l 0 = List.replicate l.length ⟨#[]⟩ := by simp [freshTo]
theorem freshTo_all (l : List ByteArray) {k : Nat} (h : k = l.length) : freshTo l k = l := by subst h; simp [freshTo]
theorem freshTo_set {l : List ByteArray} {k : Nat} {x : ByteArray} (h : l[k]? = some x) : (freshTo l k).set k x = freshTo l (k + 1) := by
  obtain ⟨hk, rfl⟩ := List.getElem?_eq_some_iff.1 h
  unfold freshTo
  rw [List.set_append_right _ _ (by rw [List.length_take]; omega), List.length_take, Nat.min_eq_left (by omega), Nat.sub_self]
  obtain ⟨d, hd⟩ : ∃ d, l.length - k = d + 1 := ⟨l.length - k - 1, by omega⟩
  rw [hd, show l.length - (k + 1) = d by omega, List.replicate_succ, List.set_cons_zero, List.take_succ_eq_append_getElem hk, List.append_assoc]
  rfl
theorem OwnS.cellAt {base : Nat} {W : World} {g n c : Nat} {l : List ByteArray} (h : OwnS base W (some ⟨g, 0, none⟩) n c l) {k : Nat} (hk : k < n) : ∃ v, W.cell? ⟨g, k, none⟩ = some v := by
  obtain ⟨ad, he, _, hc⟩ := h.rd.at_ (show k < l.length by rw [h.len]; exact hk)
  injection he with he
  subst he
  have e : (Addr.mk g 0 none).add k = Addr.mk g k none := by unfold Addr.add; split <;> simp_all
  rw [e] at hc
  exact ⟨_, hc⟩

theorem en_eachS : ∀ args w, (callFunc 45 args).run Try.prog w = .ok (.enter 45 args) w := enters_of Try.func45 (by kernel_rfl) rfl
set_option maxHeartbeats 2000000 in
theorem eachS_any (A : Option Addr) (n c : Nat) (l : List ByteArray) (w : World) (hn : l.length = n) (hr : RdS w.heap.size w A l) (hm : n ≤ 1000000) (hs : ∀ x, x ∈ l → x.size ≤ 1000000) :
    Calls Try.prog 45 #[.slice A n c, .func (.func 46) #[] #[]] w fun e w' => (∃ g, e = .returned (.slice (some ⟨g, 0, none⟩) n n) ∧ OwnS w.heap.size w' (some ⟨g, 0, none⟩) n n l) ∧ Below w.heap.size w w' := by
  have hmk : ∀ W : World, (Instr.makeSlice 24 (.int .i64 (n : Int)) (.int .i64 (n : Int))).run Try.prog W = .ok (.slice (some ⟨W.heap.size, 0, none⟩) n n) (W.alloc (.cells (madeCells #[.string ⟨#[]⟩] n) 9)) := fun W => run_makeS W n hm
  have HO := Lib.hid (ownMade w n hm)
  have hBa := b0 w (.cells (madeCells #[.string ⟨#[]⟩] n) 9)
  have HN := Lib.hid hn
  have HS := Lib.hid hs
  clear hn hs
  go_enter Try.func45, Try.ntmps45
  go_wp2_with fail
  generalize w.alloc (.cells (madeCells #[.string ⟨#[]⟩] n) 9) = wa at HO hBa ⊢
  clear hmk
  go_loopw [6, 7, 13] (fun _ _ i wr => ∃ k : Nat, k ≤ n ∧ i = .int .i64 k ∧ OwnS w.heap.size wr (some ⟨w.heap.size, 0, none⟩) n n (freshTo l k) ∧ Below w.heap.size w wr) (fun _ _ i _ => n - (intOf i).toNat)
  case atStart => exact ⟨0, Nat.zero_le _, rfl, by rw [freshTo_zero, HN.out]; exact HO.out, hBa⟩
  case round =>
    obtain ⟨k, hk, rfl, hO, hB⟩ := hrel
    clear HO hBa
    by_cases hlt : k < n
    · obtain ⟨x, hx⟩ := get_ex (show k < l.length by have := HN.out; omega)
      obtain ⟨ad, rfl, _, hc⟩ := (hr.keep hB (Nat.le_refl _)) k x hx
      have i1 : (0 : Int) ≤ (k : Int) := by omega
      have i2 : (k : Int) < (n : Int) := by omega
      have HX := Lib.hid hx
      have hxs := HS.out x (List.mem_of_getElem? hx)
      clear hx
      go_wp2_with fail
      refine (sclone_any _ _ hxs).mono ?_
      rintro e w2 ⟨rfl, hb2⟩
      obtain ⟨v0, hc0⟩ := (hO.keep hb2).cellAt hlt
      have hf0 := (hO.keep hb2).free k
      go_wp2_with fail
      go_roundw
      case rel =>
        refine ⟨k + 1, by omega, by go_num, ?_, (bt hB hb2).setCell (p := ⟨w.heap.size, k, none⟩) (Nat.le_refl _) _⟩
        rw [← freshTo_set HX.out]
        exact (hO.keep hb2).set k x
      case measure => simp [intOf]; omega
    · have hq : ¬ (k : Int) < (n : Int) := by omega
      have hO2 : OwnS w.heap.size wr (some ⟨w.heap.size, 0, none⟩) n n l := by rw [freshTo_all l (k := k) (by have := HN.out; omega)] at hO; exact hO
      clear hO
      go_wp2_with fail
      go_ret
      exact ⟨⟨_, rfl, hO2⟩, hB⟩
theorem freshTexts_any (A : Option Addr) (n c : Nat) (l : List ByteArray) (w : World) (hn : l.length = n) (hr : RdS w.heap.size w A l) (hm : n ≤ 1000000) (hs : ∀ x, x ∈ l → x.size ≤ 1000000) :
    Calls Try.prog 26 #[.slice A n c] w fun e w' => (∃ g, e = .returned (.slice (some ⟨g, 0, none⟩) n n) ∧ OwnS w.heap.size w' (some ⟨g, 0, none⟩) n n l) ∧ Below w.heap.size w w' := by
  have c1 := eachS_any A n c l w hn hr hm hs
  go_enter Try.func26, Try.ntmps26
  go_wp2_with fail
  refine c1.mono ?_
  rintro e w2 ⟨⟨g, rfl, hO⟩, hB⟩
  go_wp2_with fail
  go_ret
  exact ⟨⟨g, rfl, hO⟩, hB⟩
end Go.Proofs.Ytokkmofcijfmiab

namespace Go.Proofs.Ytokkmofcijfmiab
open Go.RowKit

/-! Lists each of which is good, and ahead of the next. -/
section
variable {α : Type}
def GoodAt (good : α → Bool) (lt : α → α → Bool) (l : List α) (i : Nat) : Prop := ∀ x, l[i]? = some x → good x = true ∧ ∀ y, 0 < i → l[i - 1]? = some y → lt y x = true
open Classical in
noncomputable def goodLs (good : α → Bool) (lt : α → α → Bool) (l : List α) : Bool := decide (∀ i, GoodAt good lt l i)
open Classical in
theorem goodLs_yes {good : α → Bool} {lt : α → α → Bool} {l : List α} (h : ∀ i, i < l.length → GoodAt good lt l i) : goodLs good lt l = true := by
  unfold goodLs
  rw [decide_eq_true_eq]
  intro i x hx
  exact h i (List.getElem?_eq_some_iff.1 hx).1 x hx
open Classical in
theorem goodLs_no {good : α → Bool} {lt : α → α → Bool} {l : List α} {i : Nat} {x : α} (hx : l[i]? = some x) (h : good x = false ∨ ∃ y, 0 < i ∧ l[i - 1]? = some y ∧ lt y x = false) : goodLs good lt l = false := by
  unfold goodLs
  rw [decide_eq_false_iff_not]
  intro hall
  obtain ⟨h1, h2⟩ := hall i x hx
  rcases h with h | ⟨y, h0, hy, h⟩
  · rw [h] at h1
    cases h1
  · rw [h2 y h0 hy] at h
    cases h
open Classical in
theorem goodLs_mem {good : α → Bool} {lt : α → α → Bool} {l : List α} (h : goodLs good lt l = true) {x : α} (hx : x ∈ l) : good x = true := by
  unfold goodLs at h
  rw [decide_eq_true_eq] at h
  obtain ⟨i, hi⟩ := List.getElem?_of_mem hx
  exact (h i x hi).1
end

/-! A cell. -/
structure Cl where
  ky : ByteArray
  k : Int
  x : Int
  s : ByteArray
abbrev clI (ky : ByteArray) (k x : Int) (s : ByteArray) : Array Value := #[.string ky, .int .i64 k, .int .i64 x, .string s]
abbrev Cl.cells (c : Cl) : Array Value := clI c.ky c.k c.x c.s
def Cl.fits (c : Cl) : Prop := c.ky.size ≤ maxLen ∧ c.s.size ≤ maxLen ∧ -9223372036854775808 ≤ c.x ∧ c.x ≤ 9223372036854775807
def clGoodB (ky : ByteArray) (k x : Int) (s : ByteArray) : Bool := keyB ky.data.toList && (goodB k x s && !(k == 0))
def Cl.good (c : Cl) : Bool := clGoodB c.ky c.k c.x c.s
def clLt (a b : Cl) : Bool := ltB a.ky.data.toList b.ky.data.toList
noncomputable def goodCls (l : List Cl) : Bool := goodLs Cl.good clLt l
def clB (c : Cl) : List UInt8 := textB c.ky.data.toList ++ valB c.k c.x c.s.data.toList
abbrev clNo : Cl := ⟨⟨#[]⟩, 0, 0, ⟨#[]⟩⟩
/-- A cell, taken. -/
def takeClB (b : List UInt8) : Cl × Nat :=
  if (takeTextB b 20).2 = 0 ∨ (takeValB (b.drop (takeTextB b 20).2)).2 = 0 then (clNo, 0)
  else (⟨⟨(takeTextB b 20).1.toArray⟩, (takeValB (b.drop (takeTextB b 20).2)).1.1, (takeValB (b.drop (takeTextB b 20).2)).1.2.1, ⟨(takeValB (b.drop (takeTextB b 20).2)).1.2.2.toArray⟩⟩, (takeTextB b 20).2 + (takeValB (b.drop (takeTextB b 20).2)).2)
theorem cl_in {c : Cl} (h : c.good = true) : (1 ≤ c.ky.size ∧ c.ky.size ≤ 20) ∧ (c.k = 1 ∨ c.k = 2) ∧ c.s.size ≤ 40 ∧ keyB c.ky.data.toList = true ∧ goodB c.k c.x c.s = true := by
  unfold Cl.good clGoodB at h
  simp only [Bool.and_eq_true, Bool.not_eq_true', beq_eq_false_iff_ne] at h
  obtain ⟨h1, h2, h3⟩ := h
  have h4 := (keyB_all h1).2
  have h5 : c.ky.data.toList.length = c.ky.size := Array.length_toList
  have h6 := goodB_in h2
  exact ⟨by omega, by omega, h6.2, h1, h2⟩
theorem ba_list (s : ByteArray) : (⟨s.data.toList.toArray⟩ : ByteArray) = s := by
  obtain ⟨d⟩ := s
  simp
theorem text_pos (s : List UInt8) : 1 ≤ (textB s).length := by unfold textB; rw [List.length_append, numB_len]; omega
theorem val_pos {k n : Int} {s : ByteArray} (h : goodB k n s = true) : 1 ≤ (valB k n s.data.toList).length := by
  rcases (goodB_in h).1 with rfl | rfl | rfl
  · rw [valB_0, numB_len]; omega
  · rw [valB_1, List.length_append, numB_len]; omega
  · rw [valB_2, List.length_append, numB_len]; omega
theorem take_cl {c : Cl} (h : c.good = true) (hf : c.fits) : PutG takeClB clB c := by
  intro r
  obtain ⟨h1, h2, h3, h4, h5⟩ := cl_in h
  have hk : c.ky.data.toList.length = c.ky.size := Array.length_toList
  have ht : takeTextB (clB c ++ r) 20 = (c.ky.data.toList, (textB c.ky.data.toList).length) := by
    unfold clB
    rw [List.append_assoc]
    exact take_text _ (by omega) (by omega)
  have hd : (clB c ++ r).drop (textB c.ky.data.toList).length = valB c.k c.x c.s.data.toList ++ r := by
    unfold clB
    rw [List.append_assoc, List.drop_left]
  have hv := take_val (k := c.k) (n := c.x) (s := c.s) r h5 hf.2.2.1 hf.2.2.2
  have p1 := text_pos c.ky.data.toList
  have p2 := val_pos h5
  unfold takeClB
  rw [ht]
  dsimp only
  rw [hd, hv]
  dsimp only
  rw [if_neg (by omega), ba_list, ba_list]
  unfold clB
  rw [List.length_append]
theorem clB_pos {c : Cl} (_h : c.good = true) : (clB c).length ≠ 0 := by
  have := text_pos c.ky.data.toList
  unfold clB
  rw [List.length_append]
  omega
theorem takeCl_le (b : List UInt8) : (takeClB b).2 ≤ b.length := by
  unfold takeClB
  split
  · exact Nat.zero_le _
  · have h1 := takeText_le b 20
    have h2 := takeVal_le (b.drop (takeTextB b 20).2)
    rw [List.length_drop] at h2
    dsimp only
    omega
theorem takeCl_two (b : List UInt8) (h : (takeClB b).2 ≠ 0) : 2 ≤ (takeClB b).2 := by
  unfold takeClB at h ⊢
  split at h
  · exact absurd rfl h
  · rename_i h1
    rw [if_neg h1]
    dsimp only
    omega
/-- A reader's step. -/
def clStep (st : Rest) : Cl × Rest := (⟨⟨(textOf st 20).1.toArray⟩, (valOf (textOf st 20).2).1.1, (valOf (textOf st 20).2).1.2.1, ⟨(valOf (textOf st 20).2).1.2.2.toArray⟩⟩, (valOf (textOf st 20).2).2)
theorem clStep_is : StepG takeClB clStep := by
  intro b
  have ht : textOf (some b) 20 = if (takeTextB b 20).2 = 0 then ([], none) else ((takeTextB b 20).1, some (b.drop (takeTextB b 20).2)) := rfl
  unfold takeClB clStep
  by_cases h0 : (takeTextB b 20).2 = 0
  · rw [if_pos h0] at ht
    rw [if_pos (.inl h0), ht]
    exact ⟨fun _ => rfl, fun h => absurd rfl h⟩
  · rw [if_neg h0] at ht
    have hv : valOf (some (b.drop (takeTextB b 20).2)) = if (takeValB (b.drop (takeTextB b 20).2)).2 = 0 then ((0, 0, []), none) else ((takeValB (b.drop (takeTextB b 20).2)).1, some ((b.drop (takeTextB b 20).2).drop (takeValB (b.drop (takeTextB b 20).2)).2)) := rfl
    rw [ht]
    dsimp only
    by_cases h1 : (takeValB (b.drop (takeTextB b 20).2)).2 = 0
    · rw [if_pos h1] at hv
      rw [if_pos (.inr h1), hv]
      exact ⟨fun _ => rfl, fun h => absurd rfl h⟩
    · rw [if_neg h1] at hv
      rw [if_neg (by omega), hv]
      dsimp only
      rw [List.drop_drop]
      exact ⟨fun h => absurd h (by omega), fun _ => rfl⟩

/-! A line. -/
structure Ln where
  pl : Int
  w : Wr
abbrev lnI (pl dev seq K : Int) (ky : ByteArray) (ka na : Int) (sa : ByteArray) (kb nb : Int) (sb : ByteArray) : Array Value :=
  #[.int .i64 pl, .int .i64 dev, .int .i64 seq, .int .i64 K, .string ky, .int .i64 ka, .int .i64 na, .string sa, .int .i64 kb, .int .i64 nb, .string sb]
abbrev Ln.cells (x : Ln) : Array Value := lnI x.pl x.w.dev x.w.seq x.w.K x.w.ky x.w.ka x.w.na x.w.sa x.w.kb x.w.nb x.w.sb
def Ln.fits (x : Ln) : Prop := x.w.fits
def plB (pl : Int) : Bool := decide (0 ≤ pl ∧ pl ≤ 4095)
def Ln.good (x : Ln) : Bool := plB x.pl && x.w.good
def lnLt (a b : Ln) : Bool := decide (a.pl < b.pl)
noncomputable def goodLns (l : List Ln) : Bool := goodLs Ln.good lnLt l
def lnB (x : Ln) : List UInt8 := numB x.pl.toNat ++ wB x.w
abbrev lnNo : Ln := ⟨0, wrNo⟩
/-- A line, taken. -/
noncomputable def takeLnB (b : List UInt8) : Ln × Nat :=
  if (takeNum b 4095).2 = 0 ∨ (takeWrB (b.drop (takeNum b 4095).2)).2 = 0 then (lnNo, 0)
  else (⟨((takeNum b 4095).1 : Int), (takeWrB (b.drop (takeNum b 4095).2)).1⟩, (takeNum b 4095).2 + (takeWrB (b.drop (takeNum b 4095).2)).2)
theorem ln_in {x : Ln} (h : x.good = true) : (0 ≤ x.pl ∧ x.pl ≤ 4095) ∧ x.w.good = true := by
  unfold Ln.good plB at h
  simp only [Bool.and_eq_true, decide_eq_true_eq] at h
  exact h
theorem wB_pos (x : Wr) : 1 ≤ (wB x).length := by
  unfold wB wrB
  simp only [List.length_append, numB_len]
  omega
theorem take_ln {x : Ln} (h : x.good = true) (hf : x.fits) : PutG takeLnB lnB x := by
  intro r
  obtain ⟨h1, h2⟩ := ln_in h
  have ht : takeNum (lnB x ++ r) 4095 = (x.pl.toNat, (numB x.pl.toNat).length) := by
    unfold lnB
    rw [List.append_assoc]
    exact take_num _ (by omega) (by omega)
  have hd : (lnB x ++ r).drop (numB x.pl.toNat).length = wB x.w ++ r := by
    unfold lnB
    rw [List.append_assoc, List.drop_left]
  have hw := take_wr r h2 hf
  have p1 := numB_len x.pl.toNat
  have p2 := wB_pos x.w
  unfold takeLnB
  rw [ht]
  dsimp only
  rw [hd, hw]
  dsimp only
  rw [if_neg (by omega), Int.toNat_of_nonneg h1.1]
  unfold lnB
  rw [List.length_append]
theorem lnB_pos (x : Ln) : (lnB x).length ≠ 0 := by
  have := wB_pos x.w
  unfold lnB
  rw [List.length_append]
  omega
theorem takeLn_le (b : List UInt8) : (takeLnB b).2 ≤ b.length := by
  unfold takeLnB
  split
  · exact Nat.zero_le _
  · have h1 := (takeNum_lt b 4095).2.2.2
    have h2 := takeWr_le (b.drop (takeNum b 4095).2)
    rw [List.length_drop] at h2
    dsimp only
    omega
noncomputable def lnStep (st : Rest) : Ln × Rest := (⟨((numOf st 4095).1 : Int), (wrOf (numOf st 4095).2).1⟩, (wrOf (numOf st 4095).2).2)
theorem lnStep_is : StepG takeLnB lnStep := by
  intro b
  have ht : numOf (some b) 4095 = if (takeNum b 4095).2 = 0 then (0, none) else ((takeNum b 4095).1, some (b.drop (takeNum b 4095).2)) := rfl
  unfold takeLnB lnStep
  by_cases h0 : (takeNum b 4095).2 = 0
  · rw [if_pos h0] at ht
    rw [if_pos (.inl h0), ht]
    exact ⟨fun _ => rfl, fun h => absurd rfl h⟩
  · rw [if_neg h0] at ht
    have hv : wrOf (some (b.drop (takeNum b 4095).2)) = if (takeWrB (b.drop (takeNum b 4095).2)).2 = 0 then (wrNo, none) else ((takeWrB (b.drop (takeNum b 4095).2)).1, some ((b.drop (takeNum b 4095).2).drop (takeWrB (b.drop (takeNum b 4095).2)).2)) := rfl
    rw [ht]
    dsimp only
    by_cases h1 : (takeWrB (b.drop (takeNum b 4095).2)).2 = 0
    · rw [if_pos h1] at hv
      rw [if_pos (.inr h1), hv]
      exact ⟨fun _ => rfl, fun h => absurd rfl h⟩
    · rw [if_neg h1] at hv
      rw [if_neg (by omega), hv]
      dsimp only
      rw [List.drop_drop]
      exact ⟨fun h => absurd h (by omega), fun _ => rfl⟩

/-! A prefix. -/
theorem take_pre {s : List UInt8} (h : s.length ≤ 20) : PutG (fun b => takeTextB b 20) textB s := fun r => take_text r (by omega) h
theorem preStep_is : StepG (fun b => takeTextB b 20) (fun st => textOf st 20) := by
  intro b
  have ht : textOf (some b) 20 = if (takeTextB b 20).2 = 0 then ([], none) else ((takeTextB b 20).1, some (b.drop (takeTextB b 20).2)) := rfl
  dsimp only
  by_cases h0 : (takeTextB b 20).2 = 0
  · rw [if_pos h0] at ht
    rw [ht]
    exact ⟨fun _ => rfl, fun h => absurd h0 h⟩
  · rw [if_neg h0] at ht
    rw [ht]
    exact ⟨fun h => absurd h h0, fun _ => rfl⟩

/-! Lasts: twelve numbers. -/
abbrev lastsI (l : List Int) : Array Value := (l.map (Value.int .i64)).toArray
def goodLa (l : List Int) : Bool := l.all (fun x => decide (0 ≤ x ∧ x ≤ 40)) && (l.head? == some 0)
def laB (l : List Int) : List UInt8 := l.flatMap fun x => numB x.toNat
abbrev takeLa1 (b : List UInt8) : Nat × Nat := takeNum b 40
open Classical in
noncomputable def takeLaB (b : List UInt8) : List Int × Nat :=
  if StdG takeLa1 b 0 12 ∧ (nthG takeLa1 b 0 0).1 = 0 then ((listG takeLa1 b 0 12).map Int.ofNat, posG takeLa1 b 0 12) else (List.replicate 12 0, 0)
end Go.Proofs.Ytokkmofcijfmiab
