/-
  WHAT IS PROVED: plain facts on things that are taken from bytes one behind the other, as many as a number ahead of them tells: step by step as a reader takes them, and as the document does; what is put is taken again. No program is spoken of.
-/
import Derived.Test.YtokkmofcijfmiabGQ6
namespace Go.Proofs.Ytokkmofcijfmiab

section
variable {α : Type}
/-- Where the j-th of them begins, the first one at p. f: what stands at the front, and how many bytes it has; 0: none does. -/
def posG (f : List UInt8 → α × Nat) (l : List UInt8) (p : Nat) : Nat → Nat
  | 0 => p
  | j + 1 => posG f l p j + (f (l.drop (posG f l p j))).2
def nthG (f : List UInt8 → α × Nat) (l : List UInt8) (p j : Nat) : α × Nat := f (l.drop (posG f l p j))
def listG (f : List UInt8 → α × Nat) (l : List UInt8) (p : Nat) : Nat → List α
  | 0 => []
  | j + 1 => listG f l p j ++ [(nthG f l p j).1]
theorem posG_succ (f : List UInt8 → α × Nat) (l : List UInt8) (p j : Nat) : posG f l p (j + 1) = posG f l p j + (nthG f l p j).2 := rfl
theorem listG_succ (f : List UInt8 → α × Nat) (l : List UInt8) (p j : Nat) : listG f l p (j + 1) = listG f l p j ++ [(nthG f l p j).1] := rfl
theorem listG_len (f : List UInt8 → α × Nat) (l : List UInt8) (p : Nat) : ∀ j, (listG f l p j).length = j
  | 0 => rfl
  | j + 1 => by rw [listG_succ, List.length_append, listG_len f l p j]; rfl
theorem posG_le {f : List UInt8 → α × Nat} (hf : ∀ b, (f b).2 ≤ b.length) {l : List UInt8} {p : Nat} (hp : p ≤ l.length) : ∀ j, posG f l p j ≤ l.length
  | 0 => hp
  | j + 1 => by
    have h := posG_le hf hp j
    have k := hf (l.drop (posG f l p j))
    rw [List.length_drop] at k
    show posG f l p j + (f (l.drop (posG f l p j))).2 ≤ _
    omega
theorem posG_up (f : List UInt8 → α × Nat) (l : List UInt8) (p : Nat) : ∀ j, p ≤ posG f l p j
  | 0 => Nat.le_refl _
  | j + 1 => Nat.le_trans (posG_up f l p j) (by rw [posG_succ]; omega)
/-- Do n of them stand there? -/
def StdG (f : List UInt8 → α × Nat) (l : List UInt8) (p n : Nat) : Prop := ∀ j, j < n → (nthG f l p j).2 ≠ 0
theorem stdG_low {f : List UInt8 → α × Nat} {l : List UInt8} {p m : Nat} (hf : ∀ b, (f b).2 ≠ 0 → m ≤ (f b).2) : ∀ n, StdG f l p n → p + m * n ≤ posG f l p n
  | 0, _ => Nat.le_refl _
  | n + 1, h => by
    have h1 := stdG_low hf n fun j hj => h j (by omega)
    have h2 := hf _ (h n (by omega))
    rw [posG_succ]
    unfold nthG
    rw [Nat.mul_succ]
    omega
open Classical in
/-- As many as the number ahead tells, if they stand there and are good; how many bytes; 0: they don't. -/
noncomputable def takeG (f : List UInt8 → α × Nat) (good : List α → Bool) (l : List UInt8) (most : Nat) : List α × Nat :=
  if (takeNum l most).2 ≠ 0 ∧ StdG f l (takeNum l most).2 (takeNum l most).1 ∧ good (listG f l (takeNum l most).2 (takeNum l most).1) = true then (listG f l (takeNum l most).2 (takeNum l most).1, posG f l (takeNum l most).2 (takeNum l most).1) else ([], 0)
theorem takeG_yes {f : List UInt8 → α × Nat} {good : List α → Bool} {l : List UInt8} {most n k : Nat} (hq : takeNum l most = (n, k)) (h0 : k ≠ 0) (h1 : StdG f l k n) (h2 : good (listG f l k n) = true) : takeG f good l most = (listG f l k n, posG f l k n) := by
  unfold takeG
  rw [hq]
  exact if_pos ⟨h0, h1, h2⟩
theorem takeG_no {f : List UInt8 → α × Nat} {good : List α → Bool} {l : List UInt8} {most n k : Nat} (hq : takeNum l most = (n, k)) (h : k = 0 ∨ (∃ j, j < n ∧ (nthG f l k j).2 = 0) ∨ good (listG f l k n) = false) : takeG f good l most = ([], 0) := by
  unfold takeG
  rw [hq]
  refine if_neg ?_
  rintro ⟨h0, h1, h2⟩
  rcases h with h | ⟨j, hj, hz⟩ | h
  · exact h0 h
  · exact h1 j hj hz
  · rw [h2] at h
    cases h
/-- Either so or so. -/
theorem takeG_or (f : List UInt8 → α × Nat) (good : List α → Bool) (l : List UInt8) (most : Nat) : takeG f good l most = ([], 0) ∨ ((takeG f good l most).2 ≠ 0 ∧ good (takeG f good l most).1 = true) := by
  unfold takeG
  split
  · rename_i h
    refine .inr ⟨?_, h.2.2⟩
    have := posG_up f l (takeNum l most).2 (takeNum l most).1
    dsimp only
    omega
  · exact .inl rfl
theorem takeG_len {f : List UInt8 → α × Nat} {good : List α → Bool} {l : List UInt8} {most : Nat} : (takeG f good l most).1.length ≤ (takeNum l most).1 := by
  unfold takeG
  split
  · rw [listG_len]
    exact Nat.le_refl _
  · exact Nat.zero_le _

/-- A reader's steps: s is one. -/
def repG (s : Rest → α × Rest) : Nat → Rest → List α × Rest
  | 0, st => ([], st)
  | n + 1, st => match st with
    | none => ([], none)
    | some b => ((s (some b)).1 :: (repG s n (s (some b)).2).1, (repG s n (s (some b)).2).2)
theorem repG_none (s : Rest → α × Rest) : ∀ n, repG s n none = ([], none)
  | 0 => rfl
  | _ + 1 => rfl
theorem repG_more (s : Rest → α × Rest) (n : Nat) (b : List UInt8) : repG s (n + 1) (some b) = ((s (some b)).1 :: (repG s n (s (some b)).2).1, (repG s n (s (some b)).2).2) := rfl
/-- Such a step, of f. -/
def StepG (f : List UInt8 → α × Nat) (s : Rest → α × Rest) : Prop := ∀ b, ((f b).2 = 0 → (s (some b)).2 = none) ∧ ((f b).2 ≠ 0 → s (some b) = ((f b).1, some (b.drop (f b).2)))
theorem repG_at {f : List UInt8 → α × Nat} {s : Rest → α × Rest} (hs : StepG f s) (l : List UInt8) (p : Nat) : ∀ (r j : Nat),
    ((∀ i, j ≤ i → i < j + r → (nthG f l p i).2 ≠ 0) → listG f l p j ++ (repG s r (some (l.drop (posG f l p j)))).1 = listG f l p (j + r) ∧ (repG s r (some (l.drop (posG f l p j)))).2 = some (l.drop (posG f l p (j + r)))) ∧
    ((∃ i, j ≤ i ∧ i < j + r ∧ (nthG f l p i).2 = 0) → (repG s r (some (l.drop (posG f l p j)))).2 = none)
  | 0, j => ⟨fun _ => ⟨List.append_nil _, rfl⟩, fun ⟨i, h1, h2, _⟩ => by omega⟩
  | r + 1, j => by
    have ih := repG_at hs l p r (j + 1)
    have hw := hs (l.drop (posG f l p j))
    rw [repG_more]
    by_cases h0 : (nthG f l p j).2 = 0
    · refine ⟨fun h => absurd h0 (h j (Nat.le_refl _) (by omega)), fun _ => ?_⟩
      rw [hw.1 h0, repG_none]
    · rw [hw.2 h0, List.drop_drop]
      refine ⟨fun h => ?_, fun ⟨i, h1, h2, h3⟩ => ?_⟩
      · obtain ⟨e1, e2⟩ := ih.1 (fun i h1 h2 => h i (by omega) (by omega))
        rw [show j + (r + 1) = j + 1 + r by omega]
        refine ⟨?_, e2⟩
        rw [← e1, listG_succ, List.append_assoc]
        rfl
      · have hij : i ≠ j := by
          rintro rfl
          exact h0 h3
        exact ih.2 ⟨i, by omega, by omega, h3⟩
/-- What a reader takes of a list, and has left; nothing: an error. -/
noncomputable def outG (f : List UInt8 → α × Nat) (good : List α → Bool) (st : Rest) (most : Nat) : Option (List α × List UInt8) := match st with
  | none => none
  | some b => if (takeG f good b most).2 = 0 then none else some ((takeG f good b most).1, b.drop (takeG f good b most).2)
/-- .. step by step. -/
def gotG (s : Rest → α × Rest) (good : List α → Bool) (st : Rest) (most : Nat) : Option (List α × List UInt8) := match (repG s (numOf st most).1 (numOf st most).2).2 with
  | none => none
  | some b => if good (repG s (numOf st most).1 (numOf st most).2).1 = true then some ((repG s (numOf st most).1 (numOf st most).2).1, b) else none
theorem got_is {f : List UInt8 → α × Nat} {s : Rest → α × Rest} (hs : StepG f s) (good : List α → Bool) (st : Rest) (most : Nat) : gotG s good st most = outG f good st most := by
  cases st with
  | none => rfl
  | some b =>
    have hno : takeG f good b most = ([], 0) → outG f good (some b) most = none := fun h => by
      unfold outG
      dsimp only
      rw [h]
      exact if_pos rfl
    cases hq : takeNum b most with
    | mk n k =>
      have e0 : numOf (some b) most = if k = 0 then (0, none) else (n, some (b.drop (posG f b k 0))) := by
        unfold numOf
        dsimp only
        rw [hq]
        rfl
      unfold gotG
      by_cases h0 : k = 0
      · rw [if_pos h0] at e0
        rw [e0, hno (takeG_no hq (.inl h0))]
        rfl
      · rw [if_neg h0] at e0
        rw [e0]
        dsimp only
        have hr := repG_at hs b k n 0
        rw [Nat.zero_add] at hr
        by_cases hx : ∃ j, j < n ∧ (nthG f b k j).2 = 0
        · obtain ⟨j, h1, h2⟩ := hx
          rw [hr.2 ⟨j, Nat.zero_le _, h1, h2⟩, hno (takeG_no hq (.inr (.inl ⟨j, h1, h2⟩)))]
        · have hS : StdG f b k n := fun j hj hz => hx ⟨j, hj, hz⟩
          obtain ⟨e1, e2⟩ := hr.1 (fun i _ h2 => hS i h2)
          have e3 : (repG s n (some (b.drop (posG f b k 0)))).1 = listG f b k n := e1
          rw [e2, e3]
          dsimp only
          cases hg : good (listG f b k n) with
          | true =>
            rw [if_pos rfl]
            unfold outG
            dsimp only
            rw [takeG_yes hq h0 hS hg]
            dsimp only
            rw [if_neg]
            have := posG_up f b k n
            omega
          | false =>
            rw [if_neg Bool.false_ne_true, hno (takeG_no hq (.inr (.inr hg)))]
/-- What is put is taken again. -/
def PutG (f : List UInt8 → α × Nat) (E : α → List UInt8) (x : α) : Prop := ∀ r, f (E x ++ r) = (x, (E x).length)
theorem nthG_put {f : List UInt8 → α × Nat} {E : α → List UInt8} (H : List UInt8) (l : List α) (r : List UInt8) (hg : ∀ x, x ∈ l → PutG f E x) : ∀ j, j ≤ l.length →
    posG f (H ++ l.flatMap E ++ r) H.length j = H.length + ((l.take j).flatMap E).length ∧ listG f (H ++ l.flatMap E ++ r) H.length j = l.take j ∧ (∀ q x, q < j → l[q]? = some x → nthG f (H ++ l.flatMap E ++ r) H.length q = (x, (E x).length))
  | 0, _ => ⟨by simp [posG], by simp [listG], fun q x hq => by omega⟩
  | j + 1, hj => by
    obtain ⟨h1, h2, h3⟩ := nthG_put H l r hg j (by omega)
    have hx : l[j]? = some l[j] := List.getElem?_eq_getElem (by omega)
    have hmem := List.mem_of_getElem? hx
    have hsplit : l = l.take j ++ l[j] :: l.drop (j + 1) := by
      rw [List.getElem_cons_drop, List.take_append_drop]
    have hn : nthG f (H ++ l.flatMap E ++ r) H.length j = (l[j], (E l[j]).length) := by
      unfold nthG
      rw [h1]
      have e1 : l.flatMap E = (l.take j).flatMap E ++ (E l[j] ++ (l.drop (j + 1)).flatMap E) := by
        conv => lhs; rw [hsplit]
        rw [List.flatMap_append, List.flatMap_cons]
      have e : H ++ l.flatMap E ++ r = (H ++ (l.take j).flatMap E) ++ (E l[j] ++ ((l.drop (j + 1)).flatMap E ++ r)) := by
        rw [e1]
        simp only [List.append_assoc]
      rw [e, List.drop_append_of_le_length (by simp), show H.length + ((l.take j).flatMap E).length = (H ++ (l.take j).flatMap E).length by simp, List.drop_length, List.nil_append]
      exact hg _ hmem _
    refine ⟨?_, ?_, ?_⟩
    · rw [posG_succ, hn, h1, List.take_succ_eq_append_getElem (by omega), List.flatMap_append, List.length_append, List.flatMap_cons, List.flatMap_nil, List.append_nil, Nat.add_assoc]
    · rw [listG_succ, hn, h2, List.take_succ_eq_append_getElem (by omega)]
    · intro q x hq hqx
      by_cases e : q = j
      · subst e
        rw [hx] at hqx
        injection hqx with hqx
        rw [← hqx]
        exact hn
      · exact h3 q x (by omega) hqx
theorem takeG_put {f : List UInt8 → α × Nat} {E : α → List UInt8} {good : List α → Bool} {l : List α} {most : Nat} (r : List UInt8) (hn : l.length < 18446744073709551616) (hm : l.length ≤ most) (hg : ∀ x, x ∈ l → PutG f E x) (h0 : ∀ x, x ∈ l → (E x).length ≠ 0) (hgood : good l = true) :
    takeG f good (numB l.length ++ l.flatMap E ++ r) most = (l, (numB l.length ++ l.flatMap E).length) := by
  obtain ⟨h1, h2, h3⟩ := nthG_put (f := f) (E := E) (numB l.length) l r hg l.length (Nat.le_refl _)
  rw [List.take_length] at h1 h2
  have hq : takeNum (numB l.length ++ l.flatMap E ++ r) most = (l.length, (numB l.length).length) := by
    rw [List.append_assoc]
    exact take_num _ hn hm
  rw [takeG_yes hq (by rw [numB_len]; omega) (fun j hj => ?_) (by rw [h2]; exact hgood), h1, h2, List.length_append]
  have hx : l[j]? = some l[j] := List.getElem?_eq_getElem hj
  rw [h3 j _ hj hx]
  exact h0 _ (List.mem_of_getElem? hx)
/-- A greater most doesn't matter, where fewer bytes stand there. -/
theorem takeG_most {f : List UInt8 → α × Nat} {good : List α → Bool} {l : List UInt8} {m M k : Nat} (hmM : m ≤ M) (hf : ∀ b, (f b).2 ≤ b.length) (hk : ∀ b, (f b).2 ≠ 0 → k ≤ (f b).2) (hl : l.length < k * (m + 1)) : takeG f good l M = takeG f good l m := by
  cases hq : takeNum l M with
  | mk n p =>
    have hm := num_most l hmM
    rw [hq] at hm
    dsimp only at hm
    by_cases h0 : p = 0
    · rw [if_pos h0] at hm
      rw [takeG_no hq (.inl h0), takeG_no hm (.inl rfl)]
    · rw [if_neg h0] at hm
      by_cases hn : n ≤ m
      · rw [if_pos hn] at hm
        unfold takeG
        rw [hq, hm]
      · rw [if_neg hn] at hm
        rw [takeG_no hm (.inl rfl)]
        refine takeG_no hq (.inr (.inl ?_))
        apply Classical.byContradiction
        intro hx
        have hS : StdG f l p n := fun j hj hz => hx ⟨j, hj, hz⟩
        have h1 := stdG_low hk n hS
        have hp : p ≤ l.length := by
          have := (takeNum_lt l M).2.2.2
          rw [hq] at this
          exact this
        have h2 := posG_le hf hp n
        have h3 : k * (m + 1) ≤ k * n := Nat.mul_le_mul_left _ (by omega)
        omega
end
end Go.Proofs.Ytokkmofcijfmiab
