/-
  WHAT IS PROVED: plain facts on things that are taken from bytes one behind the other, as many as a number ahead of them tells: step by step as a reader takes them, and as the document does; what is put is taken again. No program is spoken of. · plain facts: what is put of a good value, a good write, good writes, is taken again, whatever stands behind it. · plain facts on the order of lists of bytes and of values. No program. No condition. · plain facts on reaches: lists of prefixes that rise, none the beginning of another one; what is made of any prefixes; what both have. No program. No condition. · more words for a row of strings that the call owns: where it lies, that it may be written, a store into it. Over any program. · strings.Clone answers the same text. Conditions: those typed in the theorem. · spinneyref04.begins tells whether a text begins another one, for every two. Conditions: those typed in each theorem. · of the document's answers for reaches (spinneyref04): Same, for all slices of strings. Conditions: those typed in each theorem. · slices.ContainsFunc (and IndexFunc) of a slice of strings tells whether a predicate holds of one of them, for every function value that answers so and leaves what lay there. Conditions: those typed in each theorem.
-/
import Derived.Test.YtpjleeeligahaaaGreatDoorGQ3
import Derived.Lib.Bytealg
import Derived.Lib.Small
import Derived.Test.YtpjleeeligahaaaGreatDoorGQ0
import Derived.Test.YtpjleeeligahaaaGreatDoorShelf
import Derived.Laws.Strings
import Derived.Shelf.Abstract
namespace Go.Proofs.YtpjleeeligahaaaGreatDoor

section
variable {α : Type}
/-- Where the j-th of them begins, the first one at p. f: what stands at the front, and how many bytes it has; 0: none does. -/
def posG (f : List UInt8 → α × Nat) (l : List UInt8) (p : Nat) : Nat → Nat
  | 0 => p
  | j + 1 => posG f l p j + (f (l.drop (posG f l p j))).2
def nthG (f : List UInt8 → α × Nat) (l : List UInt8) (p j : Nat) : α × Nat := f (l.drop (posG f l p j))
def listG (f : List UInt8 → α × Nat) (l : List UInt8) (p : Nat) : Nat → List α
  | 0 => []
  | j + 1 => listG f l p j ++ [(nthG f l p j).1]
theorem posG_succ (f : List UInt8 → α × Nat) (l : List UInt8) (p j : Nat) : posG f l p (j + 1) = posG f l p j + (nthG f l p j).2 := rfl
theorem listG_succ (f : List UInt8 → α × Nat) (l : List UInt8) (p j : Nat) : listG f l p (j + 1) = listG f l p j ++ [(nthG f l p j).1] := rfl
theorem listG_len (f : List UInt8 → α × Nat) (l : List UInt8) (p : Nat) : ∀ j, (listG f l p j).length = j
  | 0 => rfl
  | j + 1 => by rw [listG_succ, List.length_append, listG_len f l p j]; rfl
theorem posG_le {f : List UInt8 → α × Nat} (hf : ∀ b, (f b).2 ≤ b.length) {l : List UInt8} {p : Nat} (hp : p ≤ l.length) : ∀ j, posG f l p j ≤ l.length
  | 0 => hp
  | j + 1 => by
    have h := posG_le hf hp j
    have k := hf (l.drop (posG f l p j))
    rw [List.length_drop] at k
    show posG f l p j + (f (l.drop (posG f l p j))).2 ≤ _
    omega
theorem posG_up (f : List UInt8 → α × Nat) (l : List UInt8) (p : Nat) : ∀ j, p ≤ posG f l p j
  | 0 => Nat.le_refl _
  | j + 1 => Nat.le_trans (posG_up f l p j) (by rw [posG_succ]; omega)
/-- Do n of them stand there? -/
def StdG (f : List UInt8 → α × Nat) (l : List UInt8) (p n : Nat) : Prop := ∀ j, j < n → (nthG f l p j).2 ≠ 0
theorem stdG_low {f : List UInt8 → α × Nat} {l : List UInt8} {p m : Nat} (hf : ∀ b, (f b).2 ≠ 0 → m ≤ (f b).2) : ∀ n, StdG f l p n → p + m * n ≤ posG f l p n
  | 0, _ => Nat.le_refl _
  | n + 1, h => by
    have h1 := stdG_low hf n fun j hj => h j (by omega)
    have h2 := hf _ (h n (by omega))
    rw [posG_succ]
    unfold nthG
    rw [Nat.mul_succ]
    omega
open Classical in
/-- As many as the number ahead tells, if they stand there and are good; how many bytes; 0: they don't. -/
noncomputable def takeG (f : List UInt8 → α × Nat) (good : List α → Bool) (l : List UInt8) (most : Nat) : List α × Nat :=
  if (takeNum l most).2 ≠ 0 ∧ StdG f l (takeNum l most).2 (takeNum l most).1 ∧ good (listG f l (takeNum l most).2 (takeNum l most).1) = true then (listG f l (takeNum l most).2 (takeNum l most).1, posG f l (takeNum l most).2 (takeNum l most).1) else ([], 0)
theorem takeG_yes {f : List UInt8 → α × Nat} {good : List α → Bool} {l : List UInt8} {most n k : Nat} (hq : takeNum l most = (n, k)) (h0 : k ≠ 0) (h1 : StdG f l k n) (h2 : good (listG f l k n) = true) : takeG f good l most = (listG f l k n, posG f l k n) := by
  unfold takeG
  rw [hq]
  exact if_pos ⟨h0, h1, h2⟩
theorem takeG_no {f : List UInt8 → α × Nat} {good : List α → Bool} {l : List UInt8} {most n k : Nat} (hq : takeNum l most = (n, k)) (h : k = 0 ∨ (∃ j, j < n ∧ (nthG f l k j).2 = 0) ∨ good (listG f l k n) = false) : takeG f good l most = ([], 0) := by
  unfold takeG
  rw [hq]
  refine if_neg ?_
  rintro ⟨h0, h1, h2⟩
  rcases h with h | ⟨j, hj, hz⟩ | h
  · exact h0 h
  · exact h1 j hj hz
  · rw [h2] at h
    cases h
/-- Either so or so. -/
theorem takeG_or (f : List UInt8 → α × Nat) (good : List α → Bool) (l : List UInt8) (most : Nat) : takeG f good l most = ([], 0) ∨ ((takeG f good l most).2 ≠ 0 ∧ good (takeG f good l most).1 = true) := by
  unfold takeG
  split
  · rename_i h
    refine .inr ⟨?_, h.2.2⟩
    have := posG_up f l (takeNum l most).2 (takeNum l most).1
    dsimp only
    omega
  · exact .inl rfl
theorem takeG_len {f : List UInt8 → α × Nat} {good : List α → Bool} {l : List UInt8} {most : Nat} : (takeG f good l most).1.length ≤ (takeNum l most).1 := by
  unfold takeG
  split
  · rw [listG_len]
    exact Nat.le_refl _
  · exact Nat.zero_le _

/-- A reader's steps: s is one. -/
def repG (s : Rest → α × Rest) : Nat → Rest → List α × Rest
  | 0, st => ([], st)
  | n + 1, st => match st with
    | none => ([], none)
    | some b => ((s (some b)).1 :: (repG s n (s (some b)).2).1, (repG s n (s (some b)).2).2)
theorem repG_none (s : Rest → α × Rest) : ∀ n, repG s n none = ([], none)
  | 0 => rfl
  | _ + 1 => rfl
theorem repG_more (s : Rest → α × Rest) (n : Nat) (b : List UInt8) : repG s (n + 1) (some b) = ((s (some b)).1 :: (repG s n (s (some b)).2).1, (repG s n (s (some b)).2).2) := rfl
/-- Such a step, of f. -/
def StepG (f : List UInt8 → α × Nat) (s : Rest → α × Rest) : Prop := ∀ b, ((f b).2 = 0 → (s (some b)).2 = none) ∧ ((f b).2 ≠ 0 → s (some b) = ((f b).1, some (b.drop (f b).2)))
theorem repG_at {f : List UInt8 → α × Nat} {s : Rest → α × Rest} (hs : StepG f s) (l : List UInt8) (p : Nat) : ∀ (r j : Nat),
    ((∀ i, j ≤ i → i < j + r → (nthG f l p i).2 ≠ 0) → listG f l p j ++ (repG s r (some (l.drop (posG f l p j)))).1 = listG f l p (j + r) ∧ (repG s r (some (l.drop (posG f l p j)))).2 = some (l.drop (posG f l p (j + r)))) ∧
    ((∃ i, j ≤ i ∧ i < j + r ∧ (nthG f l p i).2 = 0) → (repG s r (some (l.drop (posG f l p j)))).2 = none)
  | 0, j => ⟨fun _ => ⟨List.append_nil _, rfl⟩, fun ⟨i, h1, h2, _⟩ => by omega⟩
  | r + 1, j => by
    have ih := repG_at hs l p r (j + 1)
    have hw := hs (l.drop (posG f l p j))
    rw [repG_more]
    by_cases h0 : (nthG f l p j).2 = 0
    · refine ⟨fun h => absurd h0 (h j (Nat.le_refl _) (by omega)), fun _ => ?_⟩
      rw [hw.1 h0, repG_none]
    · rw [hw.2 h0, List.drop_drop]
      refine ⟨fun h => ?_, fun ⟨i, h1, h2, h3⟩ => ?_⟩
      · obtain ⟨e1, e2⟩ := ih.1 (fun i h1 h2 => h i (by omega) (by omega))
        rw [show j + (r + 1) = j + 1 + r by omega]
        refine ⟨?_, e2⟩
        rw [← e1, listG_succ, List.append_assoc]
        rfl
      · have hij : i ≠ j := by
          rintro rfl
          exact h0 h3
        exact ih.2 ⟨i, by omega, by omega, h3⟩
/-- What a reader takes of a list, and has left; nothing: an error. -/
noncomputable def outG (f : List UInt8 → α × Nat) (good : List α → Bool) (st : Rest) (most : Nat) : Option (List α × List UInt8) := match st with
  | none => none
  | some b => if (takeG f good b most).2 = 0 then none else some ((takeG f good b most).1, b.drop (takeG f good b most).2)
/-- .. step by step. -/
def gotG (s : Rest → α × Rest) (good : List α → Bool) (st : Rest) (most : Nat) : Option (List α × List UInt8) := match (repG s (numOf st most).1 (numOf st most).2).2 with
  | none => none
  | some b => if good (repG s (numOf st most).1 (numOf st most).2).1 = true then some ((repG s (numOf st most).1 (numOf st most).2).1, b) else none
theorem got_is {f : List UInt8 → α × Nat} {s : Rest → α × Rest} (hs : StepG f s) (good : List α → Bool) (st : Rest) (most : Nat) : gotG s good st most = outG f good st most := by
  cases st with
  | none => rfl
  | some b =>
    have hno : takeG f good b most = ([], 0) → outG f good (some b) most = none := fun h => by
      unfold outG
      dsimp only
      rw [h]
      exact if_pos rfl
    cases hq : takeNum b most with
    | mk n k =>
      have e0 : numOf (some b) most = if k = 0 then (0, none) else (n, some (b.drop (posG f b k 0))) := by
        unfold numOf
        dsimp only
        rw [hq]
        rfl
      unfold gotG
      by_cases h0 : k = 0
      · rw [if_pos h0] at e0
        rw [e0, hno (takeG_no hq (.inl h0))]
        rfl
      · rw [if_neg h0] at e0
        rw [e0]
        dsimp only
        have hr := repG_at hs b k n 0
        rw [Nat.zero_add] at hr
        by_cases hx : ∃ j, j < n ∧ (nthG f b k j).2 = 0
        · obtain ⟨j, h1, h2⟩ := hx
          rw [hr.2 ⟨j, Nat.zero_le _, h1, h2⟩, hno (takeG_no hq (.inr (.inl ⟨j, h1, h2⟩)))]
        · have hS : StdG f b k n := fun j hj hz => hx ⟨j, hj, hz⟩
          obtain ⟨e1, e2⟩ := hr.1 (fun i _ h2 => hS i h2)
          have e3 : (repG s n (some (b.drop (posG f b k 0)))).1 = listG f b k n := e1
          rw [e2, e3]
          dsimp only
          cases hg : good (listG f b k n) with
          | true =>
            rw [if_pos rfl]
            unfold outG
            dsimp only
            rw [takeG_yes hq h0 hS hg]
            dsimp only
            rw [if_neg]
            have := posG_up f b k n
            omega
          | false =>
            rw [if_neg Bool.false_ne_true, hno (takeG_no hq (.inr (.inr hg)))]
/-- What is put is taken again. -/
def PutG (f : List UInt8 → α × Nat) (E : α → List UInt8) (x : α) : Prop := ∀ r, f (E x ++ r) = (x, (E x).length)
theorem nthG_put {f : List UInt8 → α × Nat} {E : α → List UInt8} (H : List UInt8) (l : List α) (r : List UInt8) (hg : ∀ x, x ∈ l → PutG f E x) : ∀ j, j ≤ l.length →
    posG f (H ++ l.flatMap E ++ r) H.length j = H.length + ((l.take j).flatMap E).length ∧ listG f (H ++ l.flatMap E ++ r) H.length j = l.take j ∧ (∀ q x, q < j → l[q]? = some x → nthG f (H ++ l.flatMap E ++ r) H.length q = (x, (E x).length))
  | 0, _ => ⟨by simp [posG], by simp [listG], fun q x hq => by omega⟩
  | j + 1, hj => by
    obtain ⟨h1, h2, h3⟩ := nthG_put H l r hg j (by omega)
    have hx : l[j]? = some l[j] := List.getElem?_eq_getElem (by omega)
    have hmem := List.mem_of_getElem? hx
    have hsplit : l = l.take j ++ l[j] :: l.drop (j + 1) := by
      rw [List.getElem_cons_drop, List.take_append_drop]
    have hn : nthG f (H ++ l.flatMap E ++ r) H.length j = (l[j], (E l[j]).length) := by
      unfold nthG
      rw [h1]
      have e1 : l.flatMap E = (l.take j).flatMap E ++ (E l[j] ++ (l.drop (j + 1)).flatMap E) := by
        conv => lhs; rw [hsplit]
        rw [List.flatMap_append, List.flatMap_cons]
      have e : H ++ l.flatMap E ++ r = (H ++ (l.take j).flatMap E) ++ (E l[j] ++ ((l.drop (j + 1)).flatMap E ++ r)) := by
        rw [e1]
        simp only [List.append_assoc]
      rw [e, List.drop_append_of_le_length (by simp), show H.length + ((l.take j).flatMap E).length = (H ++ (l.take j).flatMap E).length by simp, List.drop_length, List.nil_append]
      exact hg _ hmem _
    refine ⟨?_, ?_, ?_⟩
    · rw [posG_succ, hn, h1, List.take_succ_eq_append_getElem (by omega), List.flatMap_append, List.length_append, List.flatMap_cons, List.flatMap_nil, List.append_nil, Nat.add_assoc]
    · rw [listG_succ, hn, h2, List.take_succ_eq_append_getElem (by omega)]
    · intro q x hq hqx
      by_cases e : q = j
      · subst e
        rw [hx] at hqx
        injection hqx with hqx
        rw [← hqx]
        exact hn
      · exact h3 q x (by omega) hqx
theorem takeG_put {f : List UInt8 → α × Nat} {E : α → List UInt8} {good : List α → Bool} {l : List α} {most : Nat} (r : List UInt8) (hn : l.length < 18446744073709551616) (hm : l.length ≤ most) (hg : ∀ x, x ∈ l → PutG f E x) (h0 : ∀ x, x ∈ l → (E x).length ≠ 0) (hgood : good l = true) :
    takeG f good (numB l.length ++ l.flatMap E ++ r) most = (l, (numB l.length ++ l.flatMap E).length) := by
  obtain ⟨h1, h2, h3⟩ := nthG_put (f := f) (E := E) (numB l.length) l r hg l.length (Nat.le_refl _)
  rw [List.take_length] at h1 h2
  have hq : takeNum (numB l.length ++ l.flatMap E ++ r) most = (l.length, (numB l.length).length) := by
    rw [List.append_assoc]
    exact take_num _ hn hm
  rw [takeG_yes hq (by rw [numB_len]; omega) (fun j hj => ?_) (by rw [h2]; exact hgood), h1, h2, List.length_append]
  have hx : l[j]? = some l[j] := List.getElem?_eq_getElem hj
  rw [h3 j _ hj hx]
  exact h0 _ (List.mem_of_getElem? hx)
/-- A greater most doesn't matter, where fewer bytes stand there. -/
theorem takeG_most {f : List UInt8 → α × Nat} {good : List α → Bool} {l : List UInt8} {m M k : Nat} (hmM : m ≤ M) (hf : ∀ b, (f b).2 ≤ b.length) (hk : ∀ b, (f b).2 ≠ 0 → k ≤ (f b).2) (hl : l.length < k * (m + 1)) : takeG f good l M = takeG f good l m := by
  cases hq : takeNum l M with
  | mk n p =>
    have hm := num_most l hmM
    rw [hq] at hm
    dsimp only at hm
    by_cases h0 : p = 0
    · rw [if_pos h0] at hm
      rw [takeG_no hq (.inl h0), takeG_no hm (.inl rfl)]
    · rw [if_neg h0] at hm
      by_cases hn : n ≤ m
      · rw [if_pos hn] at hm
        unfold takeG
        rw [hq, hm]
      · rw [if_neg hn] at hm
        rw [takeG_no hm (.inl rfl)]
        refine takeG_no hq (.inr (.inl ?_))
        apply Classical.byContradiction
        intro hx
        have hS : StdG f l p n := fun j hj hz => hx ⟨j, hj, hz⟩
        have h1 := stdG_low hk n hS
        have hp : p ≤ l.length := by
          have := (takeNum_lt l M).2.2.2
          rw [hq] at this
          exact this
        have h2 := posG_le hf hp n
        have h3 : k * (m + 1) ≤ k * n := Nat.mul_le_mul_left _ (by omega)
        omega
end
end Go.Proofs.YtpjleeeligahaaaGreatDoor

namespace Go.Proofs.YtpjleeeligahaaaGreatDoor
open Go.RowKit

theorem take_val {k n : Int} {s : ByteArray} (r : List UInt8) (h : goodB k n s = true) (h0 : -9223372036854775808 ≤ n) (h1 : n ≤ 9223372036854775807) :
    takeValB (valB k n s.data.toList ++ r) = ((k, n, s.data.toList), (valB k n s.data.toList).length) := by
  have hl : s.data.toList.length = s.size := Array.length_toList
  unfold goodB at h
  rw [decide_eq_true_eq] at h
  rcases h with ⟨rfl, rfl, hs⟩ | ⟨rfl, hs⟩ | ⟨rfl, rfl, hs⟩
  · have e : s.data.toList = [] := List.length_eq_zero_iff.1 (by omega)
    rw [e, valB_0]
    unfold takeValB
    rw [take_num r (by omega) (by omega)]
    unfold takeValC
    rw [if_pos (Or.inr rfl)]
  · have e : s.data.toList = [] := List.length_eq_zero_iff.1 (by omega)
    rw [e, valB_1]
    unfold takeValB
    rw [List.append_assoc, take_num _ (by omega) (by omega)]
    have hp := numB_len 1
    have hz := numB_len (zig n)
    unfold takeValC
    rw [if_neg (by simp only; omega), if_pos rfl]
    simp only [List.drop_left]
    rw [take_int r h0 h1, if_neg (by simp only; omega), List.length_append]
  · rw [valB_2]
    unfold takeValB
    rw [List.append_assoc, take_num _ (by omega) (by omega)]
    have hp := numB_len 2
    have ht : (textB s.data.toList).length ≠ 0 := by unfold textB; rw [List.length_append, numB_len]; omega
    unfold takeValC
    rw [if_neg (by simp only; omega), if_neg (by decide)]
    simp only [List.drop_left]
    rw [take_text r (by omega) (by omega), if_neg (by simp only; exact ht), List.length_append]
theorem drop_pre {P R : List UInt8} {n : Nat} (h : n = P.length) : (P ++ R).drop n = R := by rw [h, List.drop_left]
set_option maxRecDepth 100000 in
theorem take_wr {x : Wr} (r : List UInt8) (h : x.good = true) (hf : x.fits) : takeWrB (wB x ++ r) = (x, (wB x).length) := by
  obtain ⟨h1, h2, h3, h4, h5, h6⟩ := good_in h
  obtain ⟨f0, f1, f2, f3, f4⟩ := hf
  have hg := h
  unfold Wr.good wrGoodB opB at hg
  simp only [Bool.and_eq_true, decide_eq_true_eq] at hg
  obtain ⟨_, ⟨⟨_, ga⟩, gb⟩, _⟩ := hg
  have hk : x.ky.data.toList.length = x.ky.size := Array.length_toList
  have eL : wB x ++ r = numB x.dev.toNat ++ (numB x.seq.toNat ++ (numB x.K.toNat ++ (textB x.ky.data.toList ++ (valB x.ka x.na x.sa.data.toList ++ (valB x.kb x.nb x.sb.data.toList ++ r))))) := by
    unfold wB wrB
    simp only [List.append_assoc]
  have eN : (wB x).length = (numB x.dev.toNat).length + (numB x.seq.toNat).length + (numB x.K.toNat).length + (textB x.ky.data.toList).length + (valB x.ka x.na x.sa.data.toList).length + (valB x.kb x.nb x.sb.data.toList).length := by
    unfold wB wrB
    simp only [List.length_append]
  have tv1 := fun r => take_val (k := x.ka) (n := x.na) (s := x.sa) r ga f3.1 f3.2
  have tv2 := fun r => take_val (k := x.kb) (n := x.nb) (s := x.sb) r gb f4.1 f4.2
  have tt := fun r => take_text (s := x.ky.data.toList) (most := 20) r (by omega) (by omega)
  have t0 := fun r => take_num (n := x.dev.toNat) (most := 1000) r (by omega) (by omega)
  have t1 := fun r => take_num (n := x.seq.toNat) (most := 1000) r (by omega) (by omega)
  have t2 := fun r => take_num (n := x.K.toNat) (most := 1000) r (by omega) (by omega)
  have l0 := numB_len x.dev.toNat
  have l1 := numB_len x.seq.toNat
  have l2 := numB_len x.K.toNat
  have l3 : (textB x.ky.data.toList).length ≠ 0 := by unfold textB; rw [List.length_append, numB_len]; omega
  have l4 : (valB x.ka x.na x.sa.data.toList).length ≠ 0 := by unfold valB; rw [List.length_append, numB_len]; omega
  have l5 : (valB x.kb x.nb x.sb.data.toList).length ≠ 0 := by unfold valB; rw [List.length_append, numB_len]; omega
  have e0 : (x.dev.toNat : Int) = x.dev := Int.toNat_of_nonneg (by omega)
  have e1 : (x.seq.toNat : Int) = x.seq := Int.toNat_of_nonneg (by omega)
  have e2 : (x.K.toNat : Int) = x.K := Int.toNat_of_nonneg (by omega)
  rw [eN, eL]
  clear eL eN
  generalize numB x.dev.toNat = D at t0 l0 ⊢
  generalize numB x.seq.toNat = Q at t1 l1 ⊢
  generalize numB x.K.toNat = K at t2 l2 ⊢
  generalize textB x.ky.data.toList = T at tt l3 ⊢
  generalize valB x.ka x.na x.sa.data.toList = VA at tv1 l4 ⊢
  generalize valB x.kb x.nb x.sb.data.toList = VB at tv2 l5 ⊢
  generalize hLL : D ++ (Q ++ (K ++ (T ++ (VA ++ (VB ++ r))))) = L
  have n0 : numW L 0 = (x.dev.toNat, D.length) := by
    show takeNum (L.drop 0) 1000 = _
    rw [List.drop_zero, ← hLL, t0]
  have p1 : posW L 1 = D.length := by rw [posW_succ, n0]; show 0 + _ = _; simp
  have n1 : numW L 1 = (x.seq.toNat, Q.length) := by
    show takeNum (L.drop (posW L 1)) 1000 = _
    rw [p1, ← hLL, List.drop_left, t1]
  have p2 : posW L 2 = D.length + Q.length := by rw [posW_succ, n1, p1]
  have n2 : numW L 2 = (x.K.toNat, K.length) := by
    show takeNum (L.drop (posW L 2)) 1000 = _
    rw [p2, ← hLL, ← List.drop_drop, List.drop_left, List.drop_left, t2]
  have p3 : posW L 3 = D.length + Q.length + K.length := by rw [posW_succ, n2, p2]
  have n3 : textW L = (x.ky.data.toList, T.length) := by
    unfold textW
    rw [p3, ← hLL, ← List.drop_drop, ← List.drop_drop, List.drop_left, List.drop_left, List.drop_left, tt]
  have n4 : val1W L = ((x.ka, x.na, x.sa.data.toList), VA.length) := by
    unfold val1W
    rw [p3, n3, ← hLL, ← List.drop_drop, ← List.drop_drop, ← List.drop_drop, List.drop_left, List.drop_left, List.drop_left, List.drop_left, tv1]
  have n5 : val2W L = ((x.kb, x.nb, x.sb.data.toList), VB.length) := by
    unfold val2W
    rw [p3, n3, n4, ← hLL, ← List.drop_drop, ← List.drop_drop, ← List.drop_drop, ← List.drop_drop, List.drop_left, List.drop_left, List.drop_left, List.drop_left, List.drop_left, tv2]
  have hgot : gotW L = x := by
    unfold gotW
    rw [n0, n1, n2, n3, n4, n5]
    simp only [e0, e1, e2]
  have hs : stdW L := by
    refine ⟨fun m hm => ?_, by rw [n3]; exact l3, by rw [n4]; exact l4, by rw [n5]; exact l5, by rw [hgot]; exact h⟩
    have e : m = 0 ∨ m = 1 ∨ m = 2 := by omega
    rcases e with rfl | rfl | rfl
    · rw [n0]; show D.length ≠ 0; omega
    · rw [n1]; show Q.length ≠ 0; omega
    · rw [n2]; show K.length ≠ 0; omega
  rw [takeWr_yes hs, hgot, p3, n3, n4, n5]
theorem nth_put {l : List Wr} {most : Nat} (r : List UInt8) (hn : l.length < 18446744073709551616) (hm : l.length ≤ most) (hg : ∀ x, x ∈ l → x.fits ∧ x.good = true) :
    ∀ j, j ≤ l.length → posWs (wsB l ++ r) most j = (numB l.length).length + ((l.take j).flatMap wB).length ∧ listWs (wsB l ++ r) most j = l.take j ∧ (∀ q x, q < j → l[q]? = some x → nthWs (wsB l ++ r) most q = (x, (wB x).length)) := by
  have hT : takeNum (wsB l ++ r) most = (l.length, (numB l.length).length) := by
    unfold wsB
    rw [List.append_assoc, take_num _ hn hm]
  intro j
  induction j with
  | zero =>
    intro _
    refine ⟨?_, rfl, fun q x hq => by omega⟩
    show (takeNum (wsB l ++ r) most).2 = _
    rw [hT]
    simp
  | succ j ih =>
    intro hj
    obtain ⟨h1, h2, h3⟩ := ih (by omega)
    have hx : l[j]? = some l[j] := List.getElem?_eq_getElem (by omega)
    generalize l[j] = x at hx
    have hxg := hg x (List.mem_of_getElem? hx)
    have hd : l.drop j = x :: l.drop (j + 1) := by
      rw [List.drop_eq_getElem_cons (by omega)]
      congr 1
      rw [List.getElem?_eq_getElem (by omega)] at hx
      injection hx
    have hL : (wsB l ++ r).drop (posWs (wsB l ++ r) most j) = wB x ++ ((l.drop (j + 1)).flatMap wB ++ r) := by
      have e : wsB l ++ r = numB l.length ++ ((l.take j).flatMap wB ++ ((l.drop j).flatMap wB ++ r)) := by
        unfold wsB
        rw [← List.append_assoc ((l.take j).flatMap wB), ← List.flatMap_append, List.take_append_drop, List.append_assoc]
      rw [h1, e, ← List.drop_drop, List.drop_left, List.drop_left, hd]
      simp
    have hN : nthWs (wsB l ++ r) most j = (x, (wB x).length) := by
      unfold nthWs
      rw [hL, take_wr _ hxg.2 hxg.1]
    have ht : l.take (j + 1) = l.take j ++ [x] := by
      rw [List.take_add_one, hx]
      rfl
    refine ⟨?_, ?_, fun q y hq hy => ?_⟩
    · rw [posWs_succ, hN, h1, ht, List.flatMap_append, List.length_append]
      simp
      omega
    · show listWs (wsB l ++ r) most j ++ [(nthWs (wsB l ++ r) most j).1] = _
      rw [h2, hN, ht]
    · by_cases e : q = j
      · subst e
        rw [hx] at hy
        injection hy with hy
        subst hy
        exact hN
      · exact h3 q y (by omega) hy
/-- Writes put are taken again. -/
theorem take_wrs {l : List Wr} {most : Nat} (r : List UInt8) (hn : l.length < 18446744073709551616) (hm : l.length ≤ most) (hg : ∀ x, x ∈ l → x.fits ∧ x.good = true) : takeWrsB (wsB l ++ r) most = (l, (wsB l).length) := by
  have hT : takeNum (wsB l ++ r) most = (l.length, (numB l.length).length) := by
    unfold wsB
    rw [List.append_assoc, take_num _ hn hm]
  obtain ⟨h1, h2, h3⟩ := nth_put (most := most) r hn hm hg l.length (Nat.le_refl _)
  rw [takeWrs_yes, hT, h1, h2, List.take_length]
  · unfold wsB
    rw [List.length_append]
  · refine ⟨by rw [hT, numB_len]; simp only; omega, fun j hj => ?_⟩
    rw [hT] at hj
    have hx : l[j]? = some l[j] := List.getElem?_eq_getElem hj
    generalize l[j] = x at hx
    rw [h3 j x hj hx]
    show (wB x).length ≠ 0
    unfold wB wrB
    simp only [List.length_append, numB_len]
    omega
/-- What a reader takes of what was put. -/
theorem wrOf_put {x : Wr} (r : List UInt8) (h : x.good = true) (hf : x.fits) : wrOf (some (wB x ++ r)) = (x, some r) := by
  have hne : (wB x).length ≠ 0 := by
    unfold wB wrB
    simp only [List.length_append, numB_len]
    omega
  unfold wrOf
  simp only [take_wr r h hf, hne, if_false, List.drop_left]
theorem wrsOf_put {l : List Wr} {most : Nat} (r : List UInt8) (hn : l.length < 18446744073709551616) (hm : l.length ≤ most) (hg : ∀ x, x ∈ l → x.fits ∧ x.good = true) : wrsOf (some (wsB l ++ r)) most = (l, some r) := by
  have hne : (wsB l).length ≠ 0 := by
    unfold wsB
    rw [List.length_append, numB_len]
    omega
  unfold wrsOf
  simp only [take_wrs r hn hm hg, hne, if_false, List.drop_left]
end Go.Proofs.YtpjleeeligahaaaGreatDoor

namespace Go.Proofs.YtpjleeeligahaaaGreatDoor
open Go

theorem cmpB_swap : ∀ a b : List UInt8, Lib.compareBytes b a = - Lib.compareBytes a b
  | [], [] => rfl
  | [], _ :: _ => rfl
  | _ :: _, [] => rfl
  | a :: as1, b :: bs => by
    have ih := cmpB_swap as1 bs
    simp only [Lib.compareBytes]
    by_cases h : a < b
    · have h' : ¬ b < a := by rw [UInt8.lt_iff_toNat_lt] at *; omega
      simp [h, h']
    · by_cases h' : b < a
      · simp [h, h']
      · simp [h, h', ih]

theorem cmpB_cases : ∀ a b : List UInt8, Lib.compareBytes a b = -1 ∨ Lib.compareBytes a b = 0 ∨ Lib.compareBytes a b = 1
  | [], [] => by simp [Lib.compareBytes]
  | [], _ :: _ => by simp [Lib.compareBytes]
  | _ :: _, [] => by simp [Lib.compareBytes]
  | a :: as1, b :: bs => by
    have ih := cmpB_cases as1 bs
    simp only [Lib.compareBytes]
    by_cases h : a < b
    · simp [h]
    · by_cases h' : b < a
      · simp [h, h']
      · simpa [h, h'] using ih

theorem cmpB_zero : ∀ a b : List UInt8, Lib.compareBytes a b = 0 → a = b
  | [], [] => fun _ => rfl
  | [], _ :: _ => fun h => by simp [Lib.compareBytes] at h
  | _ :: _, [] => fun h => by simp [Lib.compareBytes] at h
  | a :: as1, b :: bs => fun h => by
    have ih := cmpB_zero as1 bs
    simp only [Lib.compareBytes] at h
    by_cases h1 : a < b
    · simp [h1] at h
    · by_cases h2 : b < a
      · simp [h1, h2] at h
      · simp only [h1, h2, if_false] at h
        have hab : a = b := by
          rw [UInt8.lt_iff_toNat_lt] at *
          exact UInt8.toNat_inj.1 (by omega)
        rw [hab, ih h]

theorem cmpB_refl : ∀ a : List UInt8, Lib.compareBytes a a = 0
  | [] => rfl
  | a :: as1 => by
    have h : ¬ a < a := by rw [UInt8.lt_iff_toNat_lt]; omega
    simp [Lib.compareBytes, h, cmpB_refl as1]

theorem cmpB_trans : ∀ a b c : List UInt8, Lib.compareBytes a b = -1 → Lib.compareBytes b c = -1 → Lib.compareBytes a c = -1
  | [], [], c => fun h _ => by simp [Lib.compareBytes] at h
  | [], _ :: _, [] => fun _ h => by simp [Lib.compareBytes] at h
  | [], _ :: _, _ :: _ => fun _ _ => rfl
  | _ :: _, [], _ => fun h _ => by simp [Lib.compareBytes] at h
  | _ :: _, _ :: _, [] => fun _ h => by simp [Lib.compareBytes] at h
  | a :: as1, b :: bs, c :: cs => fun h k => by
    have ih := cmpB_trans as1 bs cs
    simp only [Lib.compareBytes] at h k ⊢
    by_cases h1 : a < b
    · by_cases k1 : b < c
      · have : a < c := by rw [UInt8.lt_iff_toNat_lt] at *; omega
        simp [this]
      · by_cases k2 : c < b
        · simp [k1, k2] at k
        · have : a < c := by rw [UInt8.lt_iff_toNat_lt] at *; omega
          simp [this]
    · by_cases h2 : b < a
      · simp [h1, h2] at h
      · simp only [h1, h2, if_false] at h
        by_cases k1 : b < c
        · have : a < c := by rw [UInt8.lt_iff_toNat_lt] at *; omega
          simp [this]
        · by_cases k2 : c < b
          · simp [k1, k2] at k
          · simp only [k1, k2, if_false] at k
            have e1 : ¬ a < c := by rw [UInt8.lt_iff_toNat_lt] at *; omega
            have e2 : ¬ c < a := by rw [UInt8.lt_iff_toNat_lt] at *; omega
            simp only [e1, e2, if_false]
            exact ih h k

/-- The document's order of good values: the kind, the number, the text. -/
def ordV (ka na kb nb : Int) (sa sb : List UInt8) : Int :=
  if ka ≠ kb then Lib.compareInt ka kb else if ka = 1 then Lib.compareInt na nb else if ka = 2 then Lib.compareBytes sa sb else 0

theorem cmpI_swap (a b : Int) : Lib.compareInt b a = - Lib.compareInt a b := by
  unfold Lib.compareInt
  repeat' split
  all_goals omega
theorem cmpI_cases (a b : Int) : Lib.compareInt a b = -1 ∨ Lib.compareInt a b = 0 ∨ Lib.compareInt a b = 1 := by
  unfold Lib.compareInt
  repeat' split
  all_goals omega
theorem cmpI_zero {a b : Int} (h : Lib.compareInt a b = 0) : a = b := by
  unfold Lib.compareInt at h
  repeat' split at h
  all_goals omega
theorem cmpI_lt {a b : Int} (h : Lib.compareInt a b = -1) : a < b := by
  unfold Lib.compareInt at h
  repeat' split at h
  all_goals omega
theorem cmpI_of_lt {a b : Int} (h : a < b) : Lib.compareInt a b = -1 := by simp [Lib.compareInt, h]

theorem ordV_swap (ka na kb nb : Int) (sa sb : List UInt8) : ordV kb nb ka na sb sa = - ordV ka na kb nb sa sb := by
  unfold ordV
  by_cases h : ka = kb
  · subst h
    simp only [ne_eq, not_true_eq_false, if_false]
    by_cases h1 : ka = 1
    · simp only [h1, if_true]; exact cmpI_swap _ _
    · by_cases h2 : ka = 2
      · simp only [h2]; exact cmpB_swap _ _
      · simp [h1, h2]
  · have h' : ¬ kb = ka := fun e => h e.symm
    simp only [ne_eq, h, h', not_false_eq_true, if_true]
    exact cmpI_swap _ _
theorem ordV_cases (ka na kb nb : Int) (sa sb : List UInt8) : ordV ka na kb nb sa sb = -1 ∨ ordV ka na kb nb sa sb = 0 ∨ ordV ka na kb nb sa sb = 1 := by
  unfold ordV
  split
  · exact cmpI_cases _ _
  · split
    · exact cmpI_cases _ _
    · split
      · exact cmpB_cases _ _
      · simp

/-- What a good value is, in plain words. -/
def GoodV (k n : Int) (s : List UInt8) : Prop := (k = 0 ∧ n = 0 ∧ s = []) ∨ (k = 1 ∧ s = []) ∨ (k = 2 ∧ n = 0)

theorem ordV_zero {ka na kb nb : Int} {sa sb : List UInt8} (ga : GoodV ka na sa) (gb : GoodV kb nb sb) (h : ordV ka na kb nb sa sb = 0) : ka = kb ∧ na = nb ∧ sa = sb := by
  unfold ordV at h
  by_cases e : ka = kb
  · subst e
    simp only [ne_eq, not_true_eq_false, if_false] at h
    rcases ga with ⟨rfl, rfl, rfl⟩ | ⟨rfl, rfl⟩ | ⟨rfl, rfl⟩
    · rcases gb with ⟨_, rfl, rfl⟩ | ⟨h1, _⟩ | ⟨h1, _⟩
      · exact ⟨rfl, rfl, rfl⟩
      · omega
      · omega
    · rcases gb with ⟨h1, _⟩ | ⟨_, rfl⟩ | ⟨h1, _⟩
      · omega
      · simp only [if_true] at h
        exact ⟨rfl, cmpI_zero h, rfl⟩
      · omega
    · rcases gb with ⟨h1, _⟩ | ⟨h1, _⟩ | ⟨_, rfl⟩
      · omega
      · omega
      · exact ⟨rfl, rfl, cmpB_zero _ _ (by simpa using h)⟩
  · simp only [ne_eq, e, not_false_eq_true, if_true] at h
    exact absurd (cmpI_zero h) e
theorem ordV_refl (ka na : Int) (sa : List UInt8) : ordV ka na ka na sa sa = 0 := by
  unfold ordV
  simp [cmpB_refl, Lib.compareInt]
theorem ordV_trans {ka na kb nb kc nc : Int} {sa sb sc : List UInt8} (h : ordV ka na kb nb sa sb = -1) (k : ordV kb nb kc nc sb sc = -1) : ordV ka na kc nc sa sc = -1 := by
  unfold ordV at *
  by_cases e : ka = kb
  · subst e
    simp only [ne_eq, not_true_eq_false, if_false] at h
    by_cases f : ka = kc
    · subst f
      simp only [ne_eq, not_true_eq_false, if_false] at k ⊢
      by_cases h1 : ka = 1
      · simp only [h1, if_true] at h k ⊢
        have := cmpI_lt h
        have := cmpI_lt k
        exact cmpI_of_lt (by omega)
      · by_cases h2 : ka = 2
        · subst h2
          exact cmpB_trans _ _ _ h k
        · simp [h1, h2] at h
    · simp only [ne_eq, f, not_false_eq_true, if_true] at k ⊢
      exact k
  · simp only [ne_eq, e, not_false_eq_true, if_true] at h
    by_cases f : kb = kc
    · subst f
      simp only [ne_eq, e, not_false_eq_true, if_true]
      exact h
    · simp only [ne_eq, f, not_false_eq_true, if_true] at k
      have h1 := cmpI_lt h
      have h2 := cmpI_lt k
      have h3 : ¬ ka = kc := by omega
      simp only [ne_eq, h3, not_false_eq_true, if_true]
      exact cmpI_of_lt (by omega)
end Go.Proofs.YtpjleeeligahaaaGreatDoor

namespace Go.Proofs.YtpjleeeligahaaaGreatDoor
open Go

/-- Does a text begin another one? -/
def begB (p s : List UInt8) : Bool := p.isPrefixOf s
theorem begB_iff {p s : List UInt8} : begB p s = true ↔ p <+: s := List.isPrefixOf_iff_prefix
theorem begB_refl (p : List UInt8) : begB p p = true := begB_iff.2 (List.prefix_refl p)
theorem begB_trans {p q s : List UInt8} (h : begB p q = true) (k : begB q s = true) : begB p s = true := begB_iff.2 ((begB_iff.1 h).trans (begB_iff.1 k))
theorem begB_take {p s : List UInt8} : begB p s = (decide (p.length ≤ s.length) && (s.take p.length == p)) := by
  rw [Bool.eq_iff_iff, begB_iff, Bool.and_eq_true, decide_eq_true_eq, beq_iff_eq]
  constructor
  · intro h
    exact ⟨h.length_le, (List.prefix_iff_eq_take.1 h).symm⟩
  · intro h
    exact List.prefix_iff_eq_take.2 h.2.symm
/-- May it be a prefix? -/
def preB (p : List UInt8) : Bool := p.isEmpty || keyB p
/-- Does a text stand ahead of another one? -/
def ltB (a b : List UInt8) : Bool := decide (Lib.compareBytes a b < 0)
theorem ltB_iff {a b : List UInt8} : ltB a b = true ↔ Lib.compareBytes a b = -1 := by
  unfold ltB
  rw [decide_eq_true_eq]
  rcases cmpB_cases a b with h | h | h <;> rw [h] <;> simp
theorem ltB_irrefl (a : List UInt8) : ltB a a = false := by
  unfold ltB
  rw [cmpB_refl]
  rfl
theorem ltB_trans {a b c : List UInt8} (h : ltB a b = true) (k : ltB b c = true) : ltB a c = true :=
  ltB_iff.2 (cmpB_trans _ _ _ (ltB_iff.1 h) (ltB_iff.1 k))
theorem ltB_asymm {a b : List UInt8} (h : ltB a b = true) : ltB b a = false := by
  have h1 := ltB_iff.1 h
  unfold ltB
  rw [cmpB_swap a b, h1]
  rfl
theorem ltB_total {a b : List UInt8} (h : ltB a b = false) (hne : a ≠ b) : ltB b a = true := by
  rw [ltB_iff, cmpB_swap a b]
  rcases cmpB_cases a b with e | e | e
  · exact absurd (ltB_iff.2 e) (by simp [h])
  · exact absurd (cmpB_zero _ _ e) hne
  · rw [e]

/-- The text at a place. -/
def atR (r : List (List UInt8)) (i : Nat) : List UInt8 := r.getD i []
theorem atR_get {r : List (List UInt8)} {i : Nat} {x : List UInt8} (h : r[i]? = some x) : atR r i = x := by
  unfold atR
  rw [List.getD_eq_getElem?_getD, h]
  rfl
theorem atR_mem {r : List (List UInt8)} {i : Nat} (h : i < r.length) : atR r i ∈ r := by
  rw [atR_get (List.getElem?_eq_getElem h)]
  exact List.getElem_mem h
theorem mem_atR {r : List (List UInt8)} {x : List UInt8} (h : x ∈ r) : ∃ i, i < r.length ∧ atR r i = x := by
  obtain ⟨i, hi, e⟩ := List.getElem_of_mem h
  exact ⟨i, hi, by rw [atR_get (List.getElem?_eq_getElem hi), e]⟩
/-- What Good asks of place i. -/
def okAt (r : List (List UInt8)) (i : Nat) : Bool := preB (atR r i) && (decide (i = 0) || ltB (atR r (i - 1)) (atR r i)) && (List.range r.length).all fun k => decide (k = i) || !begB (atR r k) (atR r i)
/-- Is it a reach? -/
def goodR (r : List (List UInt8)) : Bool := (List.range r.length).all (okAt r) && decide (r.length ≤ 6)
theorem okAt_iff {r : List (List UInt8)} {i : Nat} : okAt r i = true ↔ preB (atR r i) = true ∧ (i = 0 ∨ ltB (atR r (i - 1)) (atR r i) = true) ∧ ∀ k, k < r.length → k ≠ i → begB (atR r k) (atR r i) = false := by
  unfold okAt
  simp only [Bool.and_eq_true, Bool.or_eq_true, decide_eq_true_eq, List.all_eq_true, List.mem_range, Bool.not_eq_true', and_assoc]
  constructor
  · rintro ⟨h1, h2, h3⟩
    exact ⟨h1, h2, fun k hk hne => (h3 k hk).resolve_left hne⟩
  · rintro ⟨h1, h2, h3⟩
    refine ⟨h1, h2, fun k hk => ?_⟩
    by_cases e : k = i
    · exact Or.inl e
    · exact Or.inr (h3 k hk e)
theorem goodR_iff {r : List (List UInt8)} : goodR r = true ↔ (∀ i, i < r.length → okAt r i = true) ∧ r.length ≤ 6 := by
  unfold goodR
  simp only [Bool.and_eq_true, decide_eq_true_eq, List.all_eq_true, List.mem_range]
theorem goodR_bad {r : List (List UInt8)} {i : Nat} (h : i < r.length) (hb : okAt r i = false) : goodR r = false := by
  rw [Bool.eq_false_iff]
  intro hg
  rw [(goodR_iff.1 hg).1 i h] at hb
  cases hb
theorem goodR_all {r : List (List UInt8)} (h : ∀ i, i < r.length → okAt r i = true) : goodR r = decide (r.length ≤ 6) := by
  unfold goodR
  have : (List.range r.length).all (okAt r) = true := by
    rw [List.all_eq_true]
    intro i hi
    exact h i (List.mem_range.1 hi)
  rw [this, Bool.true_and]

/-- They rise. -/
def Rises (r : List (List UInt8)) : Prop := r.Pairwise fun a b => ltB a b = true
/-- Rising lists with the same members are the same. -/
theorem rises_uniq : ∀ (r s : List (List UInt8)), Rises r → Rises s → (∀ x, x ∈ r ↔ x ∈ s) → r = s
  | [], [], _, _, _ => rfl
  | [], b :: s, _, _, h => absurd ((h b).2 (List.mem_cons_self)) (by simp)
  | a :: r, [], _, _, h => absurd ((h a).1 (List.mem_cons_self)) (by simp)
  | a :: r, b :: s, hr, hs, h => by
    have hr' := List.pairwise_cons.1 hr
    have hs' := List.pairwise_cons.1 hs
    have hab : a = b := by
      rcases List.mem_cons.1 ((h a).1 List.mem_cons_self) with e | e
      · exact e
      · rcases List.mem_cons.1 ((h b).2 List.mem_cons_self) with f | f
        · exact f.symm
        · have h1 := hs'.1 a e
          have h2 := hr'.1 b f
          rw [ltB_asymm h1] at h2
          cases h2
    subst hab
    have hx : ∀ x, x ∈ r ↔ x ∈ s := by
      intro x
      constructor
      · intro hm
        rcases List.mem_cons.1 ((h x).1 (List.mem_cons_of_mem _ hm)) with e | e
        · have h1 := hr'.1 x hm
          rw [e, ltB_irrefl] at h1
          cases h1
        · exact e
      · intro hm
        rcases List.mem_cons.1 ((h x).2 (List.mem_cons_of_mem _ hm)) with e | e
        · have h1 := hs'.1 x hm
          rw [e, ltB_irrefl] at h1
          cases h1
        · exact e
    rw [rises_uniq r s hr'.2 hs'.2 hx]

/-- r is the reach of the prefixes that S has: those that have no other one as a beginning, rising. -/
def IsMade (S : List UInt8 → Prop) (r : List (List UInt8)) : Prop := Rises r ∧ ∀ x, x ∈ r ↔ S x ∧ ∀ y, S y → begB y x = true → y = x
theorem made_uniq {S T : List UInt8 → Prop} {r s : List (List UInt8)} (h : IsMade S r) (k : IsMade T s) (e : ∀ x, S x ↔ T x) : r = s := by
  refine rises_uniq r s h.1 k.1 fun x => ?_
  rw [h.2, k.2]
  constructor
  · rintro ⟨h1, h2⟩
    exact ⟨(e x).1 h1, fun y hy => h2 y ((e y).2 hy)⟩
  · rintro ⟨h1, h2⟩
    exact ⟨(e x).2 h1, fun y hy => h2 y ((e y).1 hy)⟩
theorem made_congr {S T : List UInt8 → Prop} {r : List (List UInt8)} (h : IsMade S r) (e : ∀ x, S x ↔ T x) : IsMade T r := by
  refine ⟨h.1, fun x => ?_⟩
  rw [h.2]
  constructor
  · rintro ⟨h1, h2⟩
    exact ⟨(e x).1 h1, fun y hy => h2 y ((e y).2 hy)⟩
  · rintro ⟨h1, h2⟩
    exact ⟨(e x).2 h1, fun y hy => h2 y ((e y).1 hy)⟩

theorem rises_at {r : List (List UInt8)} (h : Rises r) {i j : Nat} (hij : i < j) (hj : j < r.length) : ltB (atR r i) (atR r j) = true := by
  have hi : i < r.length := by omega
  rw [atR_get (List.getElem?_eq_getElem hi), atR_get (List.getElem?_eq_getElem hj)]
  exact List.pairwise_iff_getElem.1 h i j hi hj hij
theorem rises_of_steps {r : List (List UInt8)} (h : ∀ i, 0 < i → i < r.length → ltB (atR r (i - 1)) (atR r i) = true) : Rises r := by
  refine List.pairwise_iff_getElem.2 fun i j hi hj hij => ?_
  have key : ∀ d, i + d + 1 < r.length → ltB (atR r i) (atR r (i + d + 1)) = true := by
    intro d
    induction d with
    | zero => intro hd; exact h (i + 1) (by omega) hd
    | succ d ih =>
      intro hd
      exact ltB_trans (ih (by omega)) (h (i + d + 1 + 1) (by omega) hd)
  have := key (j - i - 1) (by omega)
  have e : i + (j - i - 1) + 1 = j := by omega
  rw [e, atR_get (List.getElem?_eq_getElem hi), atR_get (List.getElem?_eq_getElem hj)] at this
  exact this
theorem goodR_rises {r : List (List UInt8)} (h : goodR r = true) : Rises r := by
  refine rises_of_steps fun i h0 hi => ?_
  rcases (okAt_iff.1 ((goodR_iff.1 h).1 i hi)).2.1 with e | e
  · omega
  · exact e
theorem goodR_mem {r : List (List UInt8)} (h : goodR r = true) {x y : List UInt8} (hx : x ∈ r) (hy : y ∈ r) (hb : begB y x = true) : y = x := by
  obtain ⟨i, hi, rfl⟩ := mem_atR hx
  obtain ⟨k, hk, rfl⟩ := mem_atR hy
  by_cases e : k = i
  · rw [e]
  · rw [(okAt_iff.1 ((goodR_iff.1 h).1 i hi)).2.2 k hk e] at hb
    cases hb
theorem goodR_pre {r : List (List UInt8)} (h : goodR r = true) {x : List UInt8} (hx : x ∈ r) : preB x = true := by
  obtain ⟨i, hi, rfl⟩ := mem_atR hx
  exact (okAt_iff.1 ((goodR_iff.1 h).1 i hi)).1
theorem goodR_of {r : List (List UInt8)} (h1 : ∀ x, x ∈ r → preB x = true) (h2 : Rises r) (h3 : ∀ x y, x ∈ r → y ∈ r → begB y x = true → y = x) (h4 : r.length ≤ 6) : goodR r = true := by
  refine goodR_iff.2 ⟨fun i hi => okAt_iff.2 ⟨h1 _ (atR_mem hi), ?_, fun k hk hne => ?_⟩, h4⟩
  · by_cases e : i = 0
    · exact Or.inl e
    · exact Or.inr (rises_at h2 (by omega) hi)
  · rw [Bool.eq_false_iff]
    intro hb
    have e := h3 _ _ (atR_mem hi) (atR_mem hk) hb
    rcases Nat.lt_or_ge k i with hl | hl
    · have := rises_at h2 hl hi
      rw [e, ltB_irrefl] at this
      cases this
    · have := rises_at h2 (show i < k by omega) hk
      rw [e, ltB_irrefl] at this
      cases this
/-- What is made of prefixes is a reach, if it is not too long. -/
theorem made_good {S : List UInt8 → Prop} {r : List (List UInt8)} (h : IsMade S r) (hp : ∀ x, S x → preB x = true) (hl : r.length ≤ 6) : goodR r = true := by
  refine goodR_of (fun x hx => hp x ((h.2 x).1 hx).1) h.1 (fun x y hx hy hb => ?_) hl
  exact ((h.2 x).1 hx).2 y ((h.2 y).1 hy).1 hb
theorem goodR_made {r : List (List UInt8)} (h : goodR r = true) : IsMade (· ∈ r) r :=
  ⟨goodR_rises h, fun _ => ⟨fun hx => ⟨hx, fun _ hy hb => goodR_mem h hx hy hb⟩, fun hx => hx.1⟩⟩

/-- Has it a key? -/
def hasB (r : List (List UInt8)) (s : List UInt8) : Bool := r.any fun p => begB p s
theorem hasB_iff {r : List (List UInt8)} {s : List UInt8} : hasB r s = true ↔ ∃ p, p ∈ r ∧ begB p s = true := by
  unfold hasB
  rw [List.any_eq_true]
theorem hasB_yes {r : List (List UInt8)} {s p : List UInt8} {k : Nat} (h : r[k]? = some p) (hb : begB p s = true) : hasB r s = true := hasB_iff.2 ⟨p, List.mem_of_getElem? h, hb⟩
theorem hasB_no {r : List (List UInt8)} {s : List UInt8} (h : ∀ k, k < r.length → begB (atR r k) s = false) : hasB r s = false := by
  rw [Bool.eq_false_iff]
  intro hh
  obtain ⟨p, hp, hb⟩ := hasB_iff.1 hh
  obtain ⟨i, hi, rfl⟩ := mem_atR hp
  rw [h i hi] at hb
  cases hb
/-- Has it all that another one has? -/
def covB (a b : List (List UInt8)) : Bool := b.all fun q => hasB a q
theorem covB_no {a b : List (List UInt8)} {k : Nat} {q : List UInt8} (h : b[k]? = some q) (hb : hasB a q = false) : covB a b = false := by
  unfold covB
  rw [List.all_eq_false]
  exact ⟨q, List.mem_of_getElem? h, by simp [hb]⟩
theorem covB_yes {a b : List (List UInt8)} (h : ∀ k, k < b.length → hasB a (atR b k) = true) : covB a b = true := by
  unfold covB
  rw [List.all_eq_true]
  intro q hq
  obtain ⟨i, hi, rfl⟩ := mem_atR hq
  exact h i hi
/-- The prefixes out of which that is made which both have. -/
def BothS (a b : List (List UInt8)) (x : List UInt8) : Prop := (x ∈ b ∧ hasB a x = true) ∨ (x ∈ a ∧ hasB b x = true)
theorem bothS_swap (a b : List (List UInt8)) (x : List UInt8) : BothS a b x ↔ BothS b a x := Or.comm

/-- Prefixes that have no other one as a beginning; each once. -/
def loneB (l : List (List UInt8)) (i : Nat) : Bool := (List.range l.length).all fun k => !(begB (atR l k) (atR l i) && (atR l k != atR l i || decide (k < i)))
theorem loneB_iff {l : List (List UInt8)} {i : Nat} : loneB l i = true ↔ ∀ k, k < l.length → begB (atR l k) (atR l i) = true → atR l k = atR l i ∧ i ≤ k := by
  unfold loneB
  simp only [List.all_eq_true, List.mem_range, Bool.not_eq_true', Bool.and_eq_false_iff, Bool.or_eq_false_iff, bne_eq_false_iff_eq, decide_eq_false_iff_not, Nat.not_lt]
  constructor
  · intro h k hk hb
    rcases h k hk with e | e
    · rw [hb] at e; cases e
    · exact e
  · intro h k hk
    by_cases hb : begB (atR l k) (atR l i) = true
    · exact Or.inr (h k hk hb)
    · exact Or.inl (by simpa using hb)
/-- What was made of the first m. -/
def MadeTo (l : List (List UInt8)) (m : Nat) (r : List (List UInt8)) : Prop := Rises r ∧ ∀ x, x ∈ r ↔ ∃ i, i < m ∧ loneB l i = true ∧ atR l i = x
theorem madeTo_zero (l : List (List UInt8)) : MadeTo l 0 [] := ⟨List.Pairwise.nil, fun x => ⟨fun h => by simp at h, fun ⟨_, h, _⟩ => by omega⟩⟩
theorem madeTo_skip {l : List (List UInt8)} {m : Nat} {r : List (List UInt8)} (h : MadeTo l m r) (hl : loneB l m = false) : MadeTo l (m + 1) r := by
  refine ⟨h.1, fun x => ?_⟩
  rw [h.2]
  constructor
  · rintro ⟨i, hi, h1, h2⟩
    exact ⟨i, by omega, h1, h2⟩
  · rintro ⟨i, hi, h1, h2⟩
    by_cases e : i = m
    · rw [e, hl] at h1; cases h1
    · exact ⟨i, by omega, h1, h2⟩
/-- It is put at the place ahead of which all are ahead of it. -/
theorem madeTo_put {l : List (List UInt8)} {m t : Nat} {r : List (List UInt8)} (h : MadeTo l m r) (hm : m < l.length) (hl : loneB l m = true) (ht : t ≤ r.length)
    (h1 : ∀ j, j < t → ltB (atR r j) (atR l m) = true) (h2 : t < r.length → ltB (atR r t) (atR l m) = false) : MadeTo l (m + 1) (r.take t ++ [atR l m] ++ r.drop t) := by
  have hnot : atR l m ∉ r := by
    intro hmem
    obtain ⟨i, hi, hli, e⟩ := (h.2 _).1 hmem
    have := (loneB_iff.1 hl) i (by omega) (by rw [e]; exact begB_refl _)
    omega
  have hhigh : ∀ y, y ∈ r.drop t → ltB (atR l m) y = true := by
    intro y hy
    obtain ⟨j, hj, e⟩ := List.getElem_of_mem hy
    rw [List.length_drop] at hj
    rw [List.getElem_drop] at e
    have htl : t < r.length := by omega
    have h3 := ltB_total (h2 htl) (fun e2 => hnot (e2 ▸ atR_mem htl))
    by_cases e0 : j = 0
    · subst e0
      rw [← e]
      rw [atR_get (List.getElem?_eq_getElem htl)] at h3
      exact h3
    · have h4 := rises_at h.1 (show t < t + j by omega) (by omega)
      rw [atR_get (r := r) (i := t + j) (List.getElem?_eq_getElem (by omega)), e] at h4
      exact ltB_trans h3 h4
  have hlow : ∀ y, y ∈ r.take t → ltB y (atR l m) = true := by
    intro y hy
    obtain ⟨j, hj, e⟩ := List.getElem_of_mem hy
    rw [List.length_take] at hj
    rw [List.getElem_take] at e
    have := h1 j (by omega)
    rw [atR_get (List.getElem?_eq_getElem (show j < r.length by omega)), e] at this
    exact this
  refine ⟨?_, fun x => ?_⟩
  · refine List.pairwise_append.2 ⟨List.pairwise_append.2 ⟨h.1.sublist (List.take_sublist _ _), List.pairwise_singleton _ _, ?_⟩, h.1.sublist (List.drop_sublist _ _), ?_⟩
    · intro y hy z hz
      rw [List.mem_singleton] at hz
      rw [hz]
      exact hlow y hy
    · intro y hy z hz
      rcases List.mem_append.1 hy with hy | hy
      · exact ltB_trans (hlow y hy) (hhigh z hz)
      · rw [List.mem_singleton] at hy
        rw [hy]
        exact hhigh z hz
  · have e : x ∈ r.take t ++ [atR l m] ++ r.drop t ↔ x ∈ r ∨ x = atR l m := by
      have e2 : x ∈ r ↔ x ∈ r.take t ∨ x ∈ r.drop t := by
        conv => lhs; rw [← List.take_append_drop t r]
        exact List.mem_append
      rw [List.mem_append, List.mem_append, List.mem_singleton, e2]
      constructor
      · rintro ((h | h) | h)
        · exact Or.inl (Or.inl h)
        · exact Or.inr h
        · exact Or.inl (Or.inr h)
      · rintro ((h | h) | h)
        · exact Or.inl (Or.inl h)
        · exact Or.inr h
        · exact Or.inl (Or.inr h)
    rw [e, h.2]
    constructor
    · rintro (⟨i, hi, ha, hb⟩ | hx)
      · exact ⟨i, by omega, ha, hb⟩
      · exact ⟨m, by omega, hl, hx.symm⟩
    · rintro ⟨i, hi, ha, hb⟩
      by_cases e0 : i = m
      · subst e0
        exact Or.inr hb.symm
      · exact Or.inl ⟨i, by omega, ha, hb⟩
/-- All of them: what is made. -/
theorem madeTo_all {l r : List (List UInt8)} (h : MadeTo l l.length r) : IsMade (· ∈ l) r := by
  refine ⟨h.1, fun x => ?_⟩
  rw [h.2]
  constructor
  · rintro ⟨i, hi, hl, rfl⟩
    refine ⟨atR_mem hi, fun y hy hb => ?_⟩
    obtain ⟨k, hk, rfl⟩ := mem_atR hy
    exact ((loneB_iff.1 hl) k hk hb).1
  · rintro ⟨hx, hy⟩
    have key : ∀ n, ∀ i, i < n → i < l.length → atR l i = x → ∃ j, j < l.length ∧ loneB l j = true ∧ atR l j = x := by
      intro n
      induction n with
      | zero => intro i hi; omega
      | succ n ih =>
        intro i hi hil e
        by_cases hb : loneB l i = true
        · exact ⟨i, hil, hb, e⟩
        · have hb' : ¬ ∀ k, k < l.length → begB (atR l k) (atR l i) = true → atR l k = atR l i ∧ i ≤ k := fun h => hb (loneB_iff.2 h)
          have : ∃ k, k < l.length ∧ begB (atR l k) (atR l i) = true ∧ ¬ (atR l k = atR l i ∧ i ≤ k) := by
            apply Classical.byContradiction
            intro hn
            apply hb'
            intro k hk hbk
            apply Classical.byContradiction
            intro hc
            exact hn ⟨k, hk, hbk, hc⟩
          obtain ⟨k, hk, hbk, hnk⟩ := this
          have ek : atR l k = x := by
            rw [e] at hbk
            exact hy _ (atR_mem hk) hbk
          have hki : k < i := by
            apply Classical.byContradiction
            intro hc
            exact hnk ⟨by rw [ek, e], by omega⟩
          exact ih k (by omega) hk ek
    obtain ⟨i, hi, e⟩ := mem_atR hx
    exact key (i + 1) i (by omega) hi e
theorem loneB_no {l : List (List UInt8)} {i k : Nat} (hk : k < l.length) (h1 : begB (atR l k) (atR l i) = true) (h2 : atR l k ≠ atR l i ∨ k < i) : loneB l i = false := by
  rw [Bool.eq_false_iff]
  intro h
  have h3 := loneB_iff.1 h k hk h1
  rcases h2 with h2 | h2
  · exact h2 h3.1
  · omega
end Go.Proofs.YtpjleeeligahaaaGreatDoor

namespace Go.Proofs.YtpjleeeligahaaaGreatDoor
open Go.RowKit

theorem OwnS.form {base : Nat} {W : World} {A : Option Addr} {n c : Nat} {l : List ByteArray} (h : OwnS base W A n c l) (hn : 0 < n) : ∃ g, A = some ⟨g, 0, none⟩ ∧ base ≤ g ∧ g < W.heap.size := by
  obtain ⟨g, cap, hv, hb, hlt⟩ := World.ownsRow.form h hn
  injection hv with hv
  exact ⟨g, hv, hb, hlt⟩
theorem OwnS.free {base : Nat} {W : World} {g n c : Nat} {l : List ByteArray} (h : OwnS base W (some ⟨g, 0, none⟩) n c l) (i : Nat) : W.frozen? ⟨g, i, none⟩ = false := by
  rcases h.2 with ⟨hv, _⟩ | ⟨g', cap, cur, hv, hb, hg, h1, h2, h3, h4⟩
  · cases hv
  · injection hv with hv1 hv2 hv3
    injection hv1 with hv1
    injection hv1 with hv1
    subst hv1
    simp [World.frozen?, hg]
theorem sF0 {W : World} {p : Addr} {v : Value} (h : W.cell? p = some v) (hf : W.frozen? p = false) : W.drew.cell? p = some v ∧ W.drew.frozen? p = false ∧ Below W.heap.size W W.drew := ⟨h, hf, (Below.refl _ _).drew⟩
theorem sFA {H : Nat} {W w' : World} {p : Addr} {v : Value} (h : w'.cell? p = some v ∧ w'.frozen? p = false ∧ Below H W w') (hl : p.block < H) (hH : H ≤ W.heap.size) (o : Obj) : (w'.alloc o).cell? p = some v ∧ (w'.alloc o).frozen? p = false ∧ Below H W (w'.alloc o) := by
  have hz := h.2.2.size
  exact ⟨((b0 w' o).cell (by omega)).trans h.1, ((b0 w' o).frozen (by omega)).trans h.2.1, h.2.2.alloc (by omega) o⟩
/-- A store into a row of the call's own. -/
theorem OwnS.set {base : Nat} {W : World} {g n c : Nat} {l : List ByteArray} (h : OwnS base W (some ⟨g, 0, none⟩) n c l) (i : Nat) (x : ByteArray) : OwnS base (W.setCell ⟨g, i, none⟩ (.string x)) (some ⟨g, 0, none⟩) n c (l.set i x) := by
  rcases h.2 with ⟨hv, _⟩ | ⟨g', cap, cur, hv, hb, hg, h1, h2, h3, h4⟩
  · cases hv
  · injection hv with hv1 hv2 hv3
    injection hv1 with hv1
    injection hv1 with hv1
    subst hv1
    subst hv3
    refine ⟨by simpa using h.1, .inr ⟨g, c, cur.setIfInBounds i (.string x), rfl, hb, ?_, h1, h2, by simpa using h3, ?_⟩⟩
    · simp [World.setCell, Array.getElem?_modify, hg]
    · rw [Array.toList_setIfInBounds, List.take_set, h4]
      simp [strV, List.map_set]
end Go.Proofs.YtpjleeeligahaaaGreatDoor

namespace Go.Proofs.YtpjleeeligahaaaGreatDoor
open Go.RowKit

theorem sclone_any (s : ByteArray) (w : World) (hs : s.size ≤ 1000000) :
    Calls Tryz.prog 82 #[.string s] w fun e w' => e = .returned (.string s) ∧ Below w.heap.size w w' := by
  go_enter Tryz.func82, Tryz.ntmps82
  go_wp2_with fail
  refine (Tryz.stringslite_Clone s w (by omega)).mono ?_
  rintro e w2 ⟨rfl, hb2⟩
  go_wp2_with fail
  go_ret
  exact ⟨rfl, hb2⟩

end Go.Proofs.YtpjleeeligahaaaGreatDoor

namespace Go.Proofs.YtpjleeeligahaaaGreatDoor
open Go.RowKit

theorem str_eqB (a b : ByteArray) : (a.toList == b.toList) = (a.data.toList == b.data.toList) := by rw [ByteArray.toList_eq, ByteArray.toList_eq]
theorem beg_data {p s : ByteArray} (h : p.size ≤ s.size) : begB p.data.toList s.data.toList = ((s.extract 0 p.size).toList == p.toList) := by
  have h1 : p.data.toList.length = p.size := Array.length_toList
  have h2 : s.data.toList.length = s.size := Array.length_toList
  rw [begB_take, h1, h2, decide_eq_true h, Bool.true_and, str_eqB]
  simp
theorem beg_long {p s : ByteArray} (h : ¬ p.size ≤ s.size) : begB p.data.toList s.data.toList = false := by
  have h1 : p.data.toList.length = p.size := Array.length_toList
  have h2 : s.data.toList.length = s.size := Array.length_toList
  rw [begB_take, h1, h2, decide_eq_false h, Bool.false_and]

end Go.Proofs.YtpjleeeligahaaaGreatDoor

namespace Go.Proofs.YtpjleeeligahaaaGreatDoor
open Go.RowKit

/-- The texts as lists of bytes. -/
abbrev dL (l : List ByteArray) : List (List UInt8) := l.map (·.data.toList)
theorem dL_len (l : List ByteArray) : (dL l).length = l.length := by simp
theorem dL_get {l : List ByteArray} {k : Nat} {x : ByteArray} (h : l[k]? = some x) : (dL l)[k]? = some x.data.toList := by rw [List.getElem?_map, h]; rfl
theorem dL_at {l : List ByteArray} {k : Nat} {x : ByteArray} (h : l[k]? = some x) : atR (dL l) k = x.data.toList := atR_get (dL_get h)
theorem get_ex {l : List ByteArray} {k : Nat} (h : k < l.length) : ∃ x, l[k]? = some x := ⟨_, List.getElem?_eq_getElem h⟩

/-- The same lists? -/
def sameB (l l2 : List ByteArray) : Bool := decide (dL l = dL l2)
theorem same_no {l l2 : List ByteArray} {k : Nat} {x y : ByteArray} (h : l[k]? = some x) (h2 : l2[k]? = some y) (hne : x.data.toList ≠ y.data.toList) : sameB l l2 = false := by
  unfold sameB
  rw [decide_eq_false_iff_not]
  intro e
  have h3 := dL_get h
  rw [e, dL_get h2] at h3
  injection h3 with h3
  exact hne h3.symm
theorem same_len {l l2 : List ByteArray} (h : l.length ≠ l2.length) : sameB l l2 = false := by
  unfold sameB
  rw [decide_eq_false_iff_not]
  intro e
  have := congrArg List.length e
  rw [dL_len, dL_len] at this
  exact h this
theorem same_yes {l l2 : List ByteArray} (h : l.length = l2.length) (hA : ∀ j, j < l.length → atR (dL l) j = atR (dL l2) j) : sameB l l2 = true := by
  unfold sameB
  rw [decide_eq_true_eq]
  apply List.ext_getElem?
  intro i
  by_cases hi : i < l.length
  · obtain ⟨x, hx⟩ := get_ex hi
    obtain ⟨y, hy⟩ := get_ex (l := l2) (k := i) (by omega)
    have := hA i hi
    rw [dL_at hx, dL_at hy] at this
    rw [dL_get hx, dL_get hy, this]
  · rw [List.getElem?_eq_none (by rw [dL_len]; omega), List.getElem?_eq_none (by rw [dL_len]; omega)]

set_option maxHeartbeats 1000000 in
theorem refSame_any {B C : Nat} (A A2 : Option Addr) (n c m d : Nat) (l l2 : List ByteArray) (w : World) (hn : l.length = n) (hr : RdS B w A l) (hm : n ≤ maxLen) (hn2 : l2.length = m) (hr2 : RdS C w A2 l2) :
    Calls Tryz.prog 50 #[.slice A n c, .slice A2 m d] w fun e w' => e = .returned (.bool (sameB l l2)) ∧ Drn w w' := by
  unfold maxLen at hm
  have HN := Lib.hid hn
  have HN2 := Lib.hid hn2
  clear hn hn2
  by_cases hnm : n = m
  · subst hnm
    go_enter Tryz.func50, Tryz.ntmps50
    go_wp2_with fail
    go_loopw [13] (fun i wr => ∃ k : Nat, k ≤ n ∧ i = .int .i64 k ∧ Hid (∀ j, j < k → atR (dL l) j = atR (dL l2) j) ∧ Drn w wr) (fun i _ => n - (intOf i).toNat)
    case atStart => exact ⟨0, Nat.zero_le _, rfl, fun j hj => by omega, Drn.refl _⟩
    case round =>
      obtain ⟨k, hk, rfl, hA, hD⟩ := hrel
      by_cases hlt : k < n
      · obtain ⟨x, hx⟩ := get_ex (show k < l.length by have := HN.out; omega)
        obtain ⟨y, hy⟩ := get_ex (show k < l2.length by have := HN2.out; omega)
        obtain ⟨ad, rfl, _, hc⟩ := (hr.keep (hD.below B) (Nat.le_refl _)) k x hx
        obtain ⟨ad2, rfl, _, hc2⟩ := (hr2.keep (hD.below C) (Nat.le_refl _)) k y hy
        have i1 : (0 : Int) ≤ (k : Int) := by omega
        have i2 : (k : Int) < (n : Int) := by omega
        have HX := Lib.hid hx
        have HY := Lib.hid hy
        clear hx hy
        by_cases hxy : x.data.toList = y.data.toList
        · have e0 : (x.toList == y.toList) = true := by rw [str_eqB, hxy]; simp
          have HA2 : Hid (∀ j, j < k + 1 → atR (dL l) j = atR (dL l2) j) := fun j hj => by
            by_cases e : j = k
            · subst e
              rw [dL_at HX.out, dL_at HY.out, hxy]
            · exact hA.out j (by omega)
          clear hxy hA
          go_wp2_with fail
          go_quiet (fail)
          go_wp2_with fail
          go_roundw
          case rel => exact ⟨k + 1, by omega, by go_num, HA2, hD.draws _⟩
          case measure => simp [intOf]; omega
        · have e0 : (x.toList == y.toList) = false := by rw [str_eqB]; simpa using hxy
          have R := Lib.hid (same_no HX.out HY.out hxy)
          clear hxy hA
          go_wp2_with fail
          go_quiet (fail)
          go_wp2_with fail
          go_ret
          exact ⟨ret_bool R.out.symm, hD.draws _⟩
      · have hq : ¬ (k : Int) < (n : Int) := by omega
        have R : Hid (sameB l l2 = true) := same_yes (HN.out.trans HN2.out.symm) fun j hj => hA.out j (by have := HN.out; omega)
        clear hA
        go_wp2_with fail
        go_ret
        exact ⟨ret_bool R.out.symm, hD⟩
  · have e0 : ((n : Int) != (m : Int)) = true := by rw [bne_iff_ne]; omega
    have R := Lib.hid (same_len (l := l) (l2 := l2) (by rw [HN.out, HN2.out]; exact hnm))
    clear hnm
    go_enter Tryz.func50, Tryz.ntmps50
    go_wp2_with fail
    go_ret
    exact ⟨ret_bool R.out.symm, Drn.refl _⟩
theorem take_succ_get {l : List ByteArray} {k : Nat} {x : ByteArray} (h : l[k]? = some x) : (dL l).take (k + 1) = (dL l).take k ++ [x.data.toList] := by
  have hg := dL_get h
  have hk := (List.getElem?_eq_some_iff.1 hg).1
  rw [List.take_succ_eq_append_getElem hk]
  congr 1
  rw [List.getElem?_eq_getElem hk] at hg
  injection hg with hg
  rw [hg]
theorem ByteArray.toList_data_append' (a b : ByteArray) : (a ++ b).data.toList = a.data.toList ++ b.data.toList := by simp
theorem ret_strD {a b : ByteArray} (h : a.data.toList = b.data.toList) : Ending.returned (.string a) = .returned (.string b) := by
  rw [show a = b from ByteArray.ext (Array.toList_inj.1 h)]
end Go.Proofs.YtpjleeeligahaaaGreatDoor

namespace Go.Proofs.YtpjleeeligahaaaGreatDoor
open Go.RowKit

/-- A function value that tells of each of these whether p holds, in whatever world that keeps w. -/
def PredB (g : Nat) (lb : Array Value) (p : List UInt8 → Bool) (l : List ByteArray) (w : World) : Prop :=
  ∀ (x : ByteArray), x ∈ l → ∀ W, Below w.heap.size w W → Calls Tryz.prog g (#[.string x] ++ lb) W fun e W' => e = .returned (.bool (p x.data.toList)) ∧ Below W.heap.size W W'
theorem pred_is {g : Nat} {lb : Array Value} {p : List UInt8 → Bool} {l : List ByteArray} {w : World} (h : PredB g lb p l w) {k : Nat} {x : ByteArray} (hx : l[k]? = some x) (b : Bool) (hb : p x.data.toList = b) {W : World} (hB : Below w.heap.size w W) :
    Calls Tryz.prog g (#[.string x] ++ lb) W fun e W' => e = .returned (.bool b) ∧ Below W.heap.size W W' := by
  subst hb
  exact h x (List.mem_of_getElem? hx) W hB
/-- Does it hold of one of them? -/
def anyP (p : List UInt8 → Bool) (l : List ByteArray) : Bool := (dL l).any p
theorem any_yes {l : List ByteArray} {p : List UInt8 → Bool} {k : Nat} {x : ByteArray} (hx : l[k]? = some x) (hb : p x.data.toList = true) : anyP p l = true :=
  List.any_eq_true.2 ⟨_, List.mem_of_getElem? (dL_get hx), hb⟩
theorem any_no {l : List ByteArray} {p : List UInt8 → Bool} (h : ∀ j, j < l.length → p (atR (dL l) j) = false) : anyP p l = false := by
  unfold anyP
  rw [List.any_eq_false]
  intro x hx
  obtain ⟨i, hi, rfl⟩ := mem_atR hx
  rw [h i (by rwa [dL_len] at hi)]
  exact Bool.false_ne_true

set_option maxHeartbeats 1000000 in
theorem idxL_any (g : Nat) (lb : Array Value) (eg : ∀ args w, (callFunc g args).run Tryz.prog w = .ok (.enter g args) w) (p : List UInt8 → Bool) (A : Option Addr) (n c : Nat) (l : List ByteArray) (w : World) (hn : l.length = n) (hr : RdS w.heap.size w A l) (hm : n ≤ maxLen) (hp : PredB g lb p l w) :
    Calls Tryz.prog 169 #[.slice A n c, .func (.func g) #[] lb] w fun e w' => (∃ z : Int, e = .returned (.int .i64 z) ∧ decide (0 ≤ z) = anyP p l) ∧ Below w.heap.size w w' := by
  unfold maxLen at hm
  have HN := Lib.hid hn
  have HP := Lib.hid hp
  clear hn hp
  go_enter Tryz.func169, Tryz.ntmps169
  go_wp2_with fail
  go_loopw [5, 8] (fun _ i wr => ∃ k : Nat, k ≤ n ∧ i = .int .i64 k ∧ Hid (∀ j, j < k → p (atR (dL l) j) = false) ∧ Below w.heap.size w wr) (fun _ i _ => n - (intOf i).toNat)
  case atStart => exact ⟨0, Nat.zero_le _, rfl, fun j hj => by omega, Below.refl _ _⟩
  case round =>
    obtain ⟨k, hk, rfl, hA, hB⟩ := hrel
    by_cases hlt : k < n
    · obtain ⟨x, hx⟩ := get_ex (show k < l.length by have := HN.out; omega)
      obtain ⟨ad, rfl, _, hc⟩ := (hr.keep hB (Nat.le_refl _)) k x hx
      have i1 : (0 : Int) ≤ (k : Int) := by omega
      have i2 : (k : Int) < (n : Int) := by omega
      have HX := Lib.hid hx
      clear hx
      by_cases hb : p x.data.toList = true
      · have HB := Lib.hid hb
        clear hb
        go_wp2_with (go_at_fn g; refine (pred_is HP.out HX.out true HB.out hB).mono ?_; rintro e w2 ⟨rfl, hb2⟩)
        go_ret
        exact ⟨⟨_, rfl, (decide_eq_true i1).trans (any_yes HX.out HB.out).symm⟩, bt hB hb2⟩
      · have HB := Lib.hid (Bool.eq_false_iff.2 hb)
        clear hb
        go_wp2_with (go_at_fn g; refine (pred_is HP.out HX.out false HB.out hB).mono ?_; rintro e w2 ⟨rfl, hb2⟩)
        go_roundw
        case rel =>
          refine ⟨k + 1, by omega, by go_num, fun j hj => ?_, bt hB hb2⟩
          by_cases e : j = k
          · subst e
            rw [dL_at HX.out]
            exact HB.out
          · exact hA.out j (by omega)
        case measure => simp [intOf]; omega
    · have hq : ¬ (k : Int) < (n : Int) := by omega
      have R : Hid (decide ((0 : Int) ≤ -1) = anyP p l) := by
        show _ = _
        rw [any_no fun j hj => hA.out j (by have := HN.out; omega)]
        rfl
      go_wp2_with fail
      go_ret
      exact ⟨⟨_, rfl, R.out⟩, hB⟩

set_option maxHeartbeats 1000000 in
theorem contL_any (g : Nat) (lb : Array Value) (eg : ∀ args w, (callFunc g args).run Tryz.prog w = .ok (.enter g args) w) (p : List UInt8 → Bool) (A : Option Addr) (n c : Nat) (l : List ByteArray) (w : World) (hn : l.length = n) (hr : RdS w.heap.size w A l) (hm : n ≤ maxLen) (hp : PredB g lb p l w) :
    Calls Tryz.prog 160 #[.slice A n c, .func (.func g) #[] lb] w fun e w' => e = .returned (.bool (anyP p l)) ∧ Below w.heap.size w w' := by
  go_enter Tryz.func160, Tryz.ntmps160
  go_wp2_with fail
  refine (idxL_any g lb eg p A n c l w hn hr hm hp).mono ?_
  rintro e w2 ⟨⟨z, rfl, hz⟩, hb2⟩
  have HZ := Lib.hid hz
  clear hz
  go_wp2_with fail
  go_ret
  exact ⟨ret_bool HZ.out, hb2⟩
theorem contL_is (g : Nat) (lb : Array Value) (eg : ∀ args w, (callFunc g args).run Tryz.prog w = .ok (.enter g args) w) (p : List UInt8 → Bool) (A : Option Addr) (n c : Nat) (l : List ByteArray) (w : World) (b : Bool) (hb : anyP p l = b) (hn : l.length = n) (hr : RdS w.heap.size w A l) (hm : n ≤ maxLen) (hp : PredB g lb p l w) :
    Calls Tryz.prog 160 #[.slice A n c, .func (.func g) #[] lb] w fun e w' => e = .returned (.bool b) ∧ Below w.heap.size w w' := by
  subst hb
  exact contL_any g lb eg p A n c l w hn hr hm hp
end Go.Proofs.YtpjleeeligahaaaGreatDoor
