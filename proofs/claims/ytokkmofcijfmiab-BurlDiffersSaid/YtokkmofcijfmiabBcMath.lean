/-
  WHAT IS PROVED: plain facts on what stands at a key among cells, on cells with a value set at a key, and on the leaves' sums of these. No call is spoken of.
-/
import Derived.Test.YtokkmofcijfmiabBuF
import Derived.Test.YtokkmofcijfmiabGQ7
import Derived.Test.YtokkmofcijfmiabGQ6
namespace Go.Proofs.Ytokkmofcijfmiab
open Go.RowKit

theorem addL_nil (L : List Nat) (h : ∀ x, x ∈ L → x < 18446744073709551616) (j : Nat) : addL L j 0 = L := by
  unfold addL
  rw [Nat.add_zero]
  by_cases hj : j < L.length
  · have e : L.getD j 0 = L[j] := by rw [List.getD_eq_getElem?_getD, List.getElem?_eq_getElem hj]; rfl
    rw [e, Nat.mod_eq_of_lt (h _ (List.getElem_mem hj))]
    exact List.set_getElem_self hj
  · exact List.set_eq_of_length_le (by omega)
theorem addL_comm (L : List Nat) (i x j y : Nat) : addL (addL L i x) j y = addL (addL L j y) i x := by
  by_cases e : i = j
  · subst e
    by_cases hj : i < L.length
    · unfold addL
      rw [List.set_set, List.set_set]
      congr 1
      simp only [List.getD_eq_getElem?_getD, List.getElem?_set_self hj, Option.getD_some]
      omega
    · unfold addL
      rw [List.set_eq_of_length_le (l := L) (by omega), List.set_eq_of_length_le (l := L) (by omega), List.set_eq_of_length_le (l := L) (by omega)]
  · unfold addL
    rw [List.set_comm _ _ e]
    congr 1
    · congr 1
      simp only [List.getD_eq_getElem?_getD]
      rw [List.getElem?_set_ne e]
    · congr 1
      simp only [List.getD_eq_getElem?_getD]
      rw [List.getElem?_set_ne (fun h => e h.symm)]
/-- The sum of a leaf, with one share taken away and another added. -/
theorem addL_swap (L : List Nat) (j a b : Nat) (ha : a < 18446744073709551616) (hb : b < 18446744073709551616) : addL (addL L j a) j ((b + 18446744073709551616 - a) % 18446744073709551616) = addL L j b := by
  by_cases hj : j < L.length
  · unfold addL
    rw [List.set_set]
    congr 1
    simp only [List.getD_eq_getElem?_getD, List.getElem?_set_self hj, Option.getD_some]
    omega
  · unfold addL
    rw [List.set_eq_of_length_le (l := L) (by omega), List.set_eq_of_length_le (l := L) (by omega), List.set_eq_of_length_le (l := L) (by omega)]
theorem lvFold_add (l : List Cl) : ∀ (L : List Nat) (j x : Nat), l.foldl (fun L c => addL L (leafL c.ky.data.toList) (shrC c)) (addL L j x) = addL (l.foldl (fun L c => addL L (leafL c.ky.data.toList) (shrC c)) L) j x := by
  induction l with
  | nil => exact fun _ _ _ => rfl
  | cons c r ih =>
    intro L j x
    rw [List.foldl_cons, List.foldl_cons, addL_comm, ih]
theorem lv_mid (A B : List Cl) (c : Cl) : lvTo (A ++ c :: B) = addL (lvTo (A ++ B)) (leafL c.ky.data.toList) (shrC c) := by
  unfold lvTo
  rw [List.foldl_append, List.foldl_append, List.foldl_cons, lvFold_add]

/-- A cell's value. -/
abbrev Vl := Int × Int × ByteArray
abbrev Vl.cells (v : Vl) : Array Value := #[.int .i64 v.1, .int .i64 v.2.1, .string v.2.2]
def mkC (ky : ByteArray) (v : Vl) : Cl := ⟨ky, v.1, v.2.1, v.2.2⟩
def noV : Vl := (0, 0, ⟨#[]⟩)
/-- What stands at a key. -/
def atV (ky : ByteArray) : List Cl → Vl
  | [] => noV
  | c :: r => if c.ky.data.toList = ky.data.toList then (c.k, c.x, c.s) else atV ky r
/-- One cell more, as the document goes. -/
def setStep (ky : ByteArray) (v : Vl) (st : List Cl × Bool) (c : Cl) : List Cl × Bool :=
  ((if st.2 = false ∧ ltB c.ky.data.toList ky.data.toList = false then st.1 ++ [mkC ky v] else st.1) ++ (if c.ky.data.toList = ky.data.toList then [] else [c]),
    st.2 || !(ltB c.ky.data.toList ky.data.toList))
def setTo (ky : ByteArray) (v : Vl) (l : List Cl) : List Cl × Bool := l.foldl (setStep ky v) ([], decide (v.1 = 0))
def setK (ky : ByteArray) (v : Vl) (l : List Cl) : List Cl := if (setTo ky v l).2 then (setTo ky v l).1 else (setTo ky v l).1 ++ [mkC ky v]
theorem setTo_next {ky : ByteArray} {v : Vl} {l : List Cl} {i : Nat} {c : Cl} (h : l[i]? = some c) : setTo ky v (l.take (i + 1)) = setStep ky v (setTo ky v (l.take i)) c := by
  obtain ⟨hi, hx⟩ := List.getElem?_eq_some_iff.1 h
  unfold setTo
  rw [List.take_succ_eq_append_getElem hi, List.foldl_append, hx]
  rfl
theorem setTo_zero (ky : ByteArray) (v : Vl) (l : List Cl) : setTo ky v (l.take 0) = ([], decide (v.1 = 0)) := rfl
theorem setTo_len (ky : ByteArray) (v : Vl) (l : List Cl) : (setTo ky v l).1.length ≤ 2 * l.length := by
  have g : ∀ (l : List Cl) (st : List Cl × Bool), (l.foldl (setStep ky v) st).1.length ≤ st.1.length + 2 * l.length := by
    intro l
    induction l with
    | nil => intro st; simp
    | cons c r ih =>
      intro st
      rw [List.foldl_cons]
      have h := ih (setStep ky v st c)
      have h2 : (setStep ky v st c).1.length ≤ st.1.length + 2 := by
        unfold setStep
        dsimp only
        rw [List.length_append]
        split <;> split <;> simp
      rw [List.length_cons]
      omega
  have h := g l ([], decide (v.1 = 0))
  unfold setTo
  simpa using h

/-- Cells whose keys rise strictly. -/
def Rise (l : List Cl) : Prop := l.Pairwise (fun a b => ltB a.ky.data.toList b.ky.data.toList = true)
/-- The cells ahead of a key, at it, behind it. -/
structure Cut3 (ky : ByteArray) (l A M B : List Cl) : Prop where
  is : l = A ++ (M ++ B)
  below : ∀ c, c ∈ A → ltB c.ky.data.toList ky.data.toList = true
  above : ∀ c, c ∈ B → ltB ky.data.toList c.ky.data.toList = true
  mid : M = [] ∨ ∃ c : Cl, c.ky.data.toList = ky.data.toList ∧ M = [c]
theorem ltB_ways (a b : List UInt8) : ltB a b = true ∨ a = b ∨ ltB b a = true := by
  by_cases h : ltB a b = true
  · exact .inl h
  · by_cases e : a = b
    · exact .inr (.inl e)
    · exact .inr (.inr (ltB_total (by simpa using h) e))
theorem cut3 (ky : ByteArray) : ∀ l : List Cl, Rise l → ∃ A M B, Cut3 ky l A M B
  | [], _ => ⟨[], [], [], rfl, by simp, by simp, .inl rfl⟩
  | c :: r, h => by
    have hr : Rise r := (List.pairwise_cons.1 h).2
    have hc := (List.pairwise_cons.1 h).1
    rcases ltB_ways c.ky.data.toList ky.data.toList with h1 | h1 | h1
    · obtain ⟨A, M, B, hC⟩ := cut3 ky r hr
      refine ⟨c :: A, M, B, by rw [hC.is]; rfl, ?_, hC.above, hC.mid⟩
      intro x hx
      rcases List.mem_cons.1 hx with rfl | hx
      · exact h1
      · exact hC.below x hx
    · refine ⟨[], [c], r, rfl, by simp, ?_, .inr ⟨c, h1, rfl⟩⟩
      intro x hx
      have := hc x hx
      rwa [h1] at this
    · refine ⟨[], [], c :: r, rfl, by simp, ?_, .inl rfl⟩
      intro x hx
      rcases List.mem_cons.1 hx with rfl | hx
      · exact h1
      · exact ltB_trans h1 (hc x hx)
theorem ltB_ne {a b : List UInt8} (h : ltB a b = true) : a ≠ b := fun e => by rw [e, ltB_irrefl] at h; cases h
theorem byt_ext {a b : ByteArray} (h : a.data.toList = b.data.toList) : a = b := by
  cases a; cases b
  simp only [ByteArray.mk.injEq]
  exact Array.toList_inj.1 h
theorem atV_below (ky : ByteArray) (X : List Cl) : ∀ A : List Cl, (∀ c, c ∈ A → ltB c.ky.data.toList ky.data.toList = true) → atV ky (A ++ X) = atV ky X
  | [], _ => rfl
  | c :: r, h => by
    show (if c.ky.data.toList = ky.data.toList then _ else atV ky (r ++ X)) = _
    rw [if_neg (ltB_ne (h c (List.mem_cons_self ..))), atV_below ky X r fun x hx => h x (List.mem_cons_of_mem _ hx)]
theorem atV_above (ky : ByteArray) : ∀ B : List Cl, (∀ c, c ∈ B → ltB ky.data.toList c.ky.data.toList = true) → atV ky B = noV
  | [], _ => rfl
  | c :: r, h => by
    show (if c.ky.data.toList = ky.data.toList then _ else atV ky r) = _
    rw [if_neg (fun e => ltB_ne (h c (List.mem_cons_self ..)) e.symm), atV_above ky r fun x hx => h x (List.mem_cons_of_mem _ hx)]
/-- The cells that a value at a key is. -/
def vCl (ky : ByteArray) (v : Vl) : List Cl := if v.1 = 0 then [] else [mkC ky v]
theorem fold_below (ky : ByteArray) (v : Vl) : ∀ (A : List Cl) (st : List Cl × Bool), (∀ c, c ∈ A → ltB c.ky.data.toList ky.data.toList = true) → A.foldl (setStep ky v) st = (st.1 ++ A, st.2)
  | [], st, _ => by simp
  | c :: r, st, h => by
    have h1 := h c (List.mem_cons_self ..)
    have e : setStep ky v st c = (st.1 ++ [c], st.2) := by
      unfold setStep
      rw [if_neg (by rw [h1]; simp), if_neg (ltB_ne h1), h1]
      simp
    rw [List.foldl_cons, e, fold_below ky v r _ fun x hx => h x (List.mem_cons_of_mem _ hx)]
    simp
theorem fold_above (ky : ByteArray) (v : Vl) : ∀ (B : List Cl) (s : List Cl), (∀ c, c ∈ B → ltB ky.data.toList c.ky.data.toList = true) → B.foldl (setStep ky v) (s, true) = (s ++ B, true)
  | [], s, _ => by simp
  | c :: r, s, h => by
    have h1 := h c (List.mem_cons_self ..)
    have e : setStep ky v (s, true) c = (s ++ [c], true) := by
      unfold setStep
      rw [if_neg (by simp), if_neg (fun e => ltB_ne h1 e.symm)]
      simp
    rw [List.foldl_cons, e, fold_above ky v r _ fun x hx => h x (List.mem_cons_of_mem _ hx)]
    simp
/-- Cells with a value set at a key. -/
theorem setK_is {ky : ByteArray} {l A M B : List Cl} (h : Cut3 ky l A M B) (v : Vl) : setK ky v l = A ++ (vCl ky v ++ B) := by
  have e0 : setTo ky v l = (M ++ B).foldl (setStep ky v) (A, decide (v.1 = 0)) := by
    unfold setTo
    rw [h.is, List.foldl_append, fold_below ky v A _ h.below, List.nil_append]
  have fin : ∀ (C : List Cl) (s : List Cl), (∀ c, c ∈ C → ltB ky.data.toList c.ky.data.toList = true) → v.1 ≠ 0 → (if (C.foldl (setStep ky v) (s, false)).2 then (C.foldl (setStep ky v) (s, false)).1 else (C.foldl (setStep ky v) (s, false)).1 ++ [mkC ky v]) = s ++ ([mkC ky v] ++ C) := by
    intro C s hC hv
    cases C with
    | nil => simp
    | cons c r =>
      have h1 := hC c (List.mem_cons_self ..)
      have e : setStep ky v (s, false) c = (s ++ [mkC ky v] ++ [c], true) := by
        unfold setStep
        rw [if_pos ⟨rfl, ltB_asymm h1⟩, if_neg (fun e => ltB_ne h1 e.symm), ltB_asymm h1]
        simp
      rw [List.foldl_cons, e, fold_above ky v r _ fun x hx => hC x (List.mem_cons_of_mem _ hx)]
      simp
  unfold setK
  rw [e0]
  rcases h.mid with rfl | ⟨c, hc, rfl⟩
  · by_cases hv : v.1 = 0
    · rw [show decide (v.1 = 0) = true by simp [hv], List.nil_append, fold_above ky v B A h.above]
      unfold vCl
      rw [if_pos hv]
      simp
    · rw [show decide (v.1 = 0) = false by simp [hv], List.nil_append, fin B A h.above hv]
      unfold vCl
      rw [if_neg hv]
  · by_cases hv : v.1 = 0
    · have e : setStep ky v (A, true) c = (A, true) := by
        unfold setStep
        rw [if_neg (by simp), if_pos hc]
        simp
      rw [show decide (v.1 = 0) = true by simp [hv], List.cons_append, List.foldl_cons, e, List.nil_append, fold_above ky v B A h.above]
      unfold vCl
      rw [if_pos hv]
      simp
    · have e : setStep ky v (A, false) c = (A ++ [mkC ky v], true) := by
        unfold setStep
        rw [hc, if_pos ⟨rfl, ltB_irrefl _⟩, if_pos rfl, ltB_irrefl]
        simp
      rw [show decide (v.1 = 0) = false by simp [hv], List.cons_append, List.foldl_cons, e, List.nil_append, fold_above ky v B _ h.above]
      unfold vCl
      rw [if_neg hv]
      simp
theorem atV_is {ky : ByteArray} {l A M B : List Cl} (h : Cut3 ky l A M B) : (M = [] ∧ atV ky l = noV) ∨ ∃ c : Cl, c.ky = ky ∧ M = [c] ∧ atV ky l = (c.k, c.x, c.s) := by
  rw [h.is, atV_below ky _ A h.below]
  rcases h.mid with rfl | ⟨c, hc, rfl⟩
  · exact .inl ⟨rfl, atV_above ky B h.above⟩
  · exact .inr ⟨c, byt_ext hc, rfl, by show (if c.ky.data.toList = ky.data.toList then _ else _) = _; rw [if_pos hc]⟩
theorem rise_mid {ky : ByteArray} {A B : List Cl} (hA : Rise A) (hB : Rise B) (h1 : ∀ c, c ∈ A → ltB c.ky.data.toList ky.data.toList = true) (h2 : ∀ c, c ∈ B → ltB ky.data.toList c.ky.data.toList = true) (v : Vl) : Rise (A ++ (vCl ky v ++ B)) := by
  have hV : ∀ c, c ∈ vCl ky v → c.ky = ky := by
    intro c hc
    unfold vCl at hc
    split at hc
    · cases hc
    · rw [List.mem_singleton] at hc
      rw [hc]
      rfl
  have hP : Rise (vCl ky v) := by
    unfold vCl
    split
    · exact List.Pairwise.nil
    · exact List.pairwise_singleton ..
  refine List.pairwise_append.2 ⟨hA, List.pairwise_append.2 ⟨hP, hB, ?_⟩, ?_⟩
  · intro a ha b hb
    rw [hV a ha]
    exact h2 b hb
  · intro a ha b hb
    rcases List.mem_append.1 hb with hb | hb
    · rw [hV b hb]
      exact h1 a ha
    · exact ltB_trans (h1 a ha) (h2 b hb)
theorem rise_cut {ky : ByteArray} {l A M B : List Cl} (hl : Rise l) (h : Cut3 ky l A M B) : Rise A ∧ Rise B := by
  unfold Rise at hl
  rw [h.is] at hl
  have h1 := List.pairwise_append.1 hl
  exact ⟨h1.1, (List.pairwise_append.1 h1.2.1).2.1⟩
theorem rise_set {ky : ByteArray} {l : List Cl} (hl : Rise l) (v : Vl) : Rise (setK ky v l) := by
  obtain ⟨A, M, B, hC⟩ := cut3 ky l hl
  obtain ⟨hA, hB⟩ := rise_cut hl hC
  rw [setK_is hC]
  exact rise_mid hA hB hC.below hC.above v
theorem set_mem {ky : ByteArray} {l : List Cl} (hl : Rise l) (v : Vl) {c : Cl} (h : c ∈ setK ky v l) : c ∈ l ∨ (v.1 ≠ 0 ∧ c = mkC ky v) := by
  obtain ⟨A, M, B, hC⟩ := cut3 ky l hl
  rw [setK_is hC] at h
  rw [hC.is]
  rcases List.mem_append.1 h with h | h
  · exact .inl (List.mem_append_left _ h)
  · rcases List.mem_append.1 h with h | h
    · unfold vCl at h
      split at h
      · cases h
      · rename_i hv
        exact .inr ⟨hv, List.mem_singleton.1 h⟩
    · exact .inl (List.mem_append_right _ (List.mem_append_right _ h))
theorem at_mem {ky : ByteArray} {l : List Cl} : atV ky l = noV ∨ ∃ c, c ∈ l ∧ c.ky = ky ∧ atV ky l = (c.k, c.x, c.s) := by
  induction l with
  | nil => exact .inl rfl
  | cons c r ih =>
    by_cases h : c.ky.data.toList = ky.data.toList
    · exact .inr ⟨c, List.mem_cons_self .., byt_ext h, by show (if c.ky.data.toList = ky.data.toList then _ else _) = _; rw [if_pos h]⟩
    · have e : atV ky (c :: r) = atV ky r := by show (if c.ky.data.toList = ky.data.toList then _ else _) = _; rw [if_neg h]
      rw [e]
      rcases ih with ih | ⟨x, h1, h2, h3⟩
      · exact .inl ih
      · exact .inr ⟨x, List.mem_cons_of_mem _ h1, h2, h3⟩
def shrV (ky : ByteArray) (v : Vl) : Nat := shr28 ky v.1 v.2.1 v.2.2
theorem shrV_no (ky : ByteArray) (v : Vl) (h : v.1 = 0) : shrV ky v = 0 := by unfold shrV shr28; rw [if_pos h]
theorem shrV_lt (ky : ByteArray) (v : Vl) : shrV ky v < 18446744073709551616 := shr28_lt _ _ _ _
theorem lv_vCl (ky : ByteArray) (v : Vl) (A B : List Cl) : lvTo (A ++ (vCl ky v ++ B)) = addL (lvTo (A ++ B)) (leafL ky.data.toList) (shrV ky v) := by
  unfold vCl
  by_cases hv : v.1 = 0
  · rw [if_pos hv, shrV_no ky v hv, addL_nil _ (lvTo_lt _)]
    rfl
  · rw [if_neg hv]
    exact lv_mid A B (mkC ky v)
/-- What a change of a leaf's sum comes to. -/
def chgL (L : List Nat) (ky : ByteArray) (was now : Vl) : List Nat := addL L (leafL ky.data.toList) ((shrV ky now + 18446744073709551616 - shrV ky was) % 18446744073709551616)
theorem chg_set {ky : ByteArray} {l : List Cl} (hl : Rise l) (v : Vl) : chgL (lvTo l) ky (atV ky l) v = lvTo (setK ky v l) ∧ chgL (lvTo (setK ky v l)) ky v (atV ky l) = lvTo l := by
  obtain ⟨A, M, B, hC⟩ := cut3 ky l hl
  have e1 : lvTo l = addL (lvTo (A ++ B)) (leafL ky.data.toList) (shrV ky (atV ky l)) := by
    rcases atV_is hC with ⟨hM, h⟩ | ⟨c, h1, hM, h⟩
    · rw [h, shrV_no ky noV rfl, addL_nil _ (lvTo_lt _), hC.is, hM]
      rfl
    · have hs : shrV ky (atV ky l) = shrC c := by rw [h, ← h1]; rfl
      rw [hs, hC.is, hM, ← h1]
      exact lv_mid A B c
  rw [setK_is hC, lv_vCl]
  unfold chgL
  refine ⟨?_, ?_⟩
  · rw [e1]
    exact addL_swap _ _ _ _ (shrV_lt _ _) (shrV_lt _ _)
  · rw [addL_swap _ _ _ _ (shrV_lt _ _) (shrV_lt _ _)]
    exact e1.symm
/-- Of one cell more at the front. -/
theorem chg_front (c : Cl) (r : List Cl) : chgL (lvTo (c :: r)) c.ky (c.k, c.x, c.s) noV = lvTo r ∧ chgL (lvTo r) c.ky noV (c.k, c.x, c.s) = lvTo (c :: r) := by
  have e : lvTo (c :: r) = addL (lvTo r) (leafL c.ky.data.toList) (shrC c) := lv_mid [] r c
  have hs : shrV c.ky (c.k, c.x, c.s) = shrC c := rfl
  have e0 : addL (lvTo r) (leafL c.ky.data.toList) 0 = lvTo r := addL_nil _ (lvTo_lt _) _
  unfold chgL
  rw [hs, shrV_no c.ky noV rfl, e]
  refine ⟨?_, ?_⟩
  · have h := addL_swap (lvTo r) (leafL c.ky.data.toList) (shrC c) 0 (shr28_lt _ _ _ _) (by decide)
    rw [h]
    exact e0
  · have h := addL_swap (lvTo r) (leafL c.ky.data.toList) 0 (shrC c) (by decide) (shr28_lt _ _ _ _)
    rw [e0] at h
    exact h
end Go.Proofs.Ytokkmofcijfmiab
