/-
  WHAT IS PROVED: plain facts on what is left of a sorted list of texts if each is dropped that begins with the last one left: the reach of these prefixes. No program. No condition.
-/
import Derived.Test.YtccdpbcldpmegaaDoorReachMath
namespace Go.Proofs.YtccdpbcldpmegaaDoor
open Go

theorem lex_cons (a b : UInt8) (as bs : List UInt8) : Lib.compareBytes (a :: as) (b :: bs) = if a < b then -1 else if b < a then 1 else Lib.compareBytes as bs := by simp only [Lib.compareBytes]
theorem begB_cons (a b : UInt8) (as bs : List UInt8) : begB (a :: as) (b :: bs) = ((a == b) && begB as bs) := by simp [begB, List.isPrefixOf]
theorem u8_eq {a b : UInt8} (h : ¬ a < b) (k : ¬ b < a) : a = b := by
  rw [UInt8.lt_iff_toNat_lt] at *
  exact UInt8.toNat_inj.1 (by omega)
theorem u8_irrefl (a : UInt8) : ¬ a < a := by rw [UInt8.lt_iff_toNat_lt]; omega
theorem ltB_cons (a b : UInt8) (as bs : List UInt8) : ltB (a :: as) (b :: bs) = if a < b then true else if b < a then false else ltB as bs := by
  unfold ltB
  rw [lex_cons]
  by_cases h : a < b
  · simp [h]
  · by_cases k : b < a
    · simp [h, k]
    · simp [h, k]
/-- What stands between a text and one that it begins begins with it. -/
theorem begB_between : ∀ (y q p : List UInt8), begB y p = true → ltB q y = false → ltB p q = false → begB y q = true
  | [], q, p, _, _, _ => by simp [begB, List.isPrefixOf]
  | a :: y, [], p, _, h1, _ => by simp [ltB, Lib.compareBytes] at h1
  | a :: y, b :: q, [], h, _, _ => by simp [begB, List.isPrefixOf] at h
  | a :: y, b :: q, c :: p, h, h1, h2 => by
    rw [begB_cons, Bool.and_eq_true, beq_iff_eq] at h
    obtain ⟨rfl, h⟩ := h
    rw [ltB_cons] at h1 h2
    have n1 : ¬ b < a := fun e => by simp [e] at h1
    have n2 : ¬ a < b := fun e => by simp [e] at h2
    have e : a = b := u8_eq n2 n1
    subst e
    rw [if_neg (u8_irrefl _), if_neg (u8_irrefl _)] at h1 h2
    rw [begB_cons, begB_between y q p h h1 h2]
    simp
/-- What begins a text isn't behind it. -/
theorem begB_le : ∀ (p x : List UInt8), begB p x = true → ltB x p = false
  | [], x, _ => by cases x <;> simp [ltB, Lib.compareBytes]
  | a :: p, [], h => by simp [begB, List.isPrefixOf] at h
  | a :: p, b :: x, h => by
    rw [begB_cons, Bool.and_eq_true, beq_iff_eq] at h
    obtain ⟨rfl, h⟩ := h
    rw [ltB_cons, if_neg (u8_irrefl _), if_neg (u8_irrefl _)]
    exact begB_le p x h
theorem list_lt_iff : ∀ (x y : List UInt8), x < y ↔ ltB x y = true
  | [], [] => by simp [ltB, Lib.compareBytes]
  | [], _ :: _ => by simp [ltB, Lib.compareBytes]
  | _ :: _, [] => by simp [ltB, Lib.compareBytes]
  | a :: x, b :: y => by
    rw [List.cons_lt_cons_iff, ltB_cons, list_lt_iff x y]
    by_cases h : a < b
    · simp [h]
    · by_cases k : b < a
      · have hne : a ≠ b := fun e => by subst e; exact h k
        simp [h, k, hne]
      · have e := u8_eq h k
        subst e
        simp [h]
theorem list_le_iff (x y : List UInt8) : decide (x ≤ y) = !ltB y x := by
  rw [Bool.eq_iff_iff, decide_eq_true_eq, Bool.not_eq_true', ← Bool.not_eq_true, ← list_lt_iff]
  exact List.not_lt.symm

/-- With one more. -/
def leastStep (left : List (List UInt8)) (p : List UInt8) : List (List UInt8) :=
  if left = [] ∨ begB (atR left (left.length - 1)) p = false then left ++ [p] else left
/-- What is left of a sorted list. -/
def leastL (s : List (List UInt8)) : List (List UInt8) := s.foldl leastStep []
theorem leastL_snoc (s : List (List UInt8)) (p : List UInt8) : leastL (s ++ [p]) = leastStep (leastL s) p := by
  unfold leastL
  rw [List.foldl_append]
  rfl
theorem leastStep_le (l : List (List UInt8)) (p : List UInt8) : (leastStep l p).length ≤ l.length + 1 := by
  unfold leastStep
  split <;> simp
theorem leastL_le (s : List (List UInt8)) : (leastL s).length ≤ s.length := by
  have key : ∀ (s l : List (List UInt8)), (s.foldl leastStep l).length ≤ l.length + s.length := by
    intro s
    induction s with
    | nil => intro l; simp
    | cons p s ih =>
      intro l
      have h1 := ih (leastStep l p)
      have h2 := leastStep_le l p
      simp only [List.foldl_cons, List.length_cons]
      omega
  have := key s []
  simpa [leastL] using this
/-- Sorted, though not each once. -/
def Sorted (s : List (List UInt8)) : Prop := s.Pairwise fun a b => ltB b a = false
/-- What the loop keeps. -/
structure LeastInv (s L : List (List UInt8)) : Prop where
  rises : Rises L
  mem : ∀ x, x ∈ L → x ∈ s
  low : ∀ x, x ∈ L → ∀ y, y ∈ s → begB y x = true → y = x
  cov : ∀ x, x ∈ s → ∃ y, y ∈ L ∧ begB y x = true
theorem least_inv_nil : LeastInv [] [] := ⟨List.Pairwise.nil, fun _ h => h, fun _ h => by simp at h, fun _ h => by simp at h⟩
theorem le_eq {a b : List UInt8} (h : ltB a b = false) (k : ltB b a = false) : a = b := by
  apply Classical.byContradiction
  intro hne
  rw [ltB_total h hne] at k
  cases k
theorem least_inv_step {s L : List (List UInt8)} {p : List UInt8} (h : LeastInv s L) (hp : ∀ x, x ∈ s → ltB p x = false) : LeastInv (s ++ [p]) (leastStep L p) := by
  unfold leastStep
  by_cases h0 : L = []
  · subst h0
    have hs : s = [] := by
      cases s with
      | nil => rfl
      | cons a t =>
        obtain ⟨y, hy, _⟩ := h.cov a List.mem_cons_self
        simp at hy
    subst hs
    rw [if_pos (Or.inl rfl)]
    refine ⟨by simp [Rises], fun x hx => hx, fun x hx y hy _ => ?_, fun x hx => ⟨x, hx, begB_refl x⟩⟩
    simp at hx hy
    rw [hx, hy]
  · have hlen := List.length_pos_iff.2 h0
    have hq : atR L (L.length - 1) ∈ L := atR_mem (by omega)
    have hlast : ∀ y, y ∈ L → y ≠ atR L (L.length - 1) → ltB y (atR L (L.length - 1)) = true := by
      intro y hy hne
      obtain ⟨i, hi, rfl⟩ := mem_atR hy
      have : i ≠ L.length - 1 := fun e => hne (by rw [e])
      exact rises_at h.rises (by omega) (by omega)
    generalize hqe : atR L (L.length - 1) = q at hq hlast
    by_cases hb : begB q p = true
    · rw [if_neg (by simp [h0, hb])]
      refine ⟨h.rises, fun x hx => List.mem_append_left _ (h.mem x hx), fun x hx y hy hbx => ?_, fun x hx => ?_⟩
      · rcases List.mem_append.1 hy with hy | hy
        · exact h.low x hx y hy hbx
        · rw [List.mem_singleton] at hy
          subst hy
          exact (le_eq (begB_le _ _ hbx) (hp x (h.mem x hx))).symm
      · rcases List.mem_append.1 hx with hx | hx
        · exact h.cov x hx
        · rw [List.mem_singleton] at hx
          subst hx
          exact ⟨q, hq, hb⟩
    · have hb' : begB q p = false := by simpa using hb
      rw [if_pos (Or.inr hb')]
      have hL : ∀ y, y ∈ L → begB y p = false := by
        intro y hy
        rw [Bool.eq_false_iff]
        intro hyp
        by_cases e : y = q
        · rw [e, hb'] at hyp; cases hyp
        · have h1 := ltB_asymm (hlast y hy e)
          have h2 := begB_between y q p hyp h1 (hp q (h.mem q hq))
          exact e (h.low q hq y (h.mem y hy) h2)
      have hS : ∀ y, y ∈ s → begB y p = false := by
        intro y hy
        rw [Bool.eq_false_iff]
        intro hyp
        obtain ⟨z, hz, hzy⟩ := h.cov y hy
        have := hL z hz
        rw [begB_trans hzy hyp] at this
        cases this
      refine ⟨?_, fun x hx => ?_, fun x hx y hy hbx => ?_, fun x hx => ?_⟩
      · refine List.pairwise_append.2 ⟨h.rises, List.pairwise_singleton _ _, fun x hx y hy => ?_⟩
        rw [List.mem_singleton] at hy
        subst hy
        refine ltB_total (hp x (h.mem x hx)) fun e => ?_
        have := hS x (h.mem x hx)
        rw [← e, begB_refl] at this
        cases this
      · rcases List.mem_append.1 hx with hx | hx
        · exact List.mem_append_left _ (h.mem x hx)
        · exact List.mem_append_right _ hx
      · rcases List.mem_append.1 hx with hxL | hx
        · rcases List.mem_append.1 hy with hy | hy
          · exact h.low x hxL y hy hbx
          · rw [List.mem_singleton] at hy
            subst hy
            exact (le_eq (begB_le _ _ hbx) (hp x (h.mem x hxL))).symm
        · rw [List.mem_singleton] at hx
          subst hx
          rcases List.mem_append.1 hy with hy | hy
          · rw [hS y hy] at hbx; cases hbx
          · exact List.mem_singleton.1 hy
      · rcases List.mem_append.1 hx with hx | hx
        · obtain ⟨y, hy, hyx⟩ := h.cov x hx
          exact ⟨y, List.mem_append_left _ hy, hyx⟩
        · exact ⟨x, List.mem_append_right _ hx, begB_refl x⟩
theorem least_inv (s : List (List UInt8)) (hs : Sorted s) : LeastInv s (leastL s) := by
  have key : ∀ k, k ≤ s.length → LeastInv (s.take k) (leastL (s.take k)) := by
    intro k
    induction k with
    | zero => intro _; simpa [leastL] using least_inv_nil
    | succ k ih =>
      intro hk
      rw [List.take_succ_eq_append_getElem (by omega), leastL_snoc]
      refine least_inv_step (ih (by omega)) fun x hx => ?_
      obtain ⟨i, hi, rfl⟩ := List.getElem_of_mem hx
      rw [List.length_take] at hi
      rw [List.getElem_take]
      exact List.pairwise_iff_getElem.1 hs i k (by omega) (by omega) (by omega)
  have := key s.length (Nat.le_refl _)
  rwa [List.take_length] at this
theorem least_made_of {s : List (List UInt8)} (hs : Sorted s) : IsMade (· ∈ s) (leastL s) := by
  have h := least_inv s hs
  refine ⟨h.rises, fun x => ⟨fun hx => ⟨h.mem x hx, fun y hy hb => h.low x hx y hy hb⟩, fun ⟨hx, hy⟩ => ?_⟩⟩
  obtain ⟨y, hyL, hb⟩ := h.cov x hx
  rw [← hy y (h.mem y hyL) hb]
  exact hyL
/-- The sort's answer. -/
def sortL (l : List (List UInt8)) : List (List UInt8) := l.mergeSort fun x y => decide (x ≤ y)
theorem sortL_perm (l : List (List UInt8)) : (sortL l).Perm l := List.mergeSort_perm _ _
theorem sortL_len (l : List (List UInt8)) : (sortL l).length = l.length := (sortL_perm l).length_eq
theorem sortL_sorted (l : List (List UInt8)) : Sorted (sortL l) := by
  have h := List.pairwise_mergeSort (le := fun x y : List UInt8 => decide (x ≤ y)) (fun a b c h k => by
    simp only [decide_eq_true_eq] at *
    exact List.le_trans h k) (fun a b => by
    have := List.le_total a b
    simpa [Bool.or_eq_true] using this) l
  refine h.imp fun {a b} hab => ?_
  rw [list_le_iff] at hab
  simpa using hab
/-- The prefixes that are left of any list. -/
def leastOf (l : List (List UInt8)) : List (List UInt8) := leastL (sortL l)
theorem least_made (l : List (List UInt8)) : IsMade (· ∈ l) (leastOf l) :=
  made_congr (least_made_of (sortL_sorted l)) fun _ => (sortL_perm l).mem_iff
theorem leastOf_len (l : List (List UInt8)) : (leastOf l).length ≤ l.length := by
  have := leastL_le (sortL l)
  rw [sortL_len] at this
  exact this
/-- It is a reach just if all may be prefixes, they are not too many, and none is dropped. -/
theorem goodR_least (r : List (List UInt8)) : goodR r = (decide (r.length ≤ 6) && (r.all preB && decide (r = leastOf r))) := by
  rw [Bool.eq_iff_iff, Bool.and_eq_true, Bool.and_eq_true, decide_eq_true_eq, decide_eq_true_eq, List.all_eq_true]
  constructor
  · intro h
    exact ⟨(goodR_iff.1 h).2, fun x hx => goodR_pre h hx, made_uniq (goodR_made h) (least_made r) fun _ => Iff.rfl⟩
  · rintro ⟨h1, h2, h3⟩
    have hm := least_made r
    rw [← h3] at hm
    exact made_good hm h2 h1
end Go.Proofs.YtccdpbcldpmegaaDoor
