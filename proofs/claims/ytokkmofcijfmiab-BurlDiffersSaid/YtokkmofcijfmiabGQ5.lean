/-
  WHAT IS PROVED: words for slices of writes that the call owns (own work); append of one write onto such a row. Over any program that bears the types named. · the document's taking of lists of writes from bytes (spinneyref05.TakeWrites). Conditions: those typed in the theorem. · whether two lists of writes are the same (spinneyref03.Same), for all slices of writes. Conditions: those typed in the theorem. · nothing but plain facts: as definitions, what the walks of layer 5's statements take of package pack's calls on values and writes. The definitions are proved elsewhere, of the code itself. · plain facts: the steps by which package pack's reader takes a value come to what the chapter says is taken. No program is spoken of. · plain facts on things that are taken from bytes one behind the other, as many as a number ahead of them tells: step by step as a reader takes them, and as the document does; what is put is taken again. No program is spoken of. · plain facts: what is put of a good value, a good write, good writes, is taken again, whatever stands behind it.
-/
import Derived.Test.YtokkmofcijfmiabGQ3
import Derived.Test.YtokkmofcijfmiabGQ0
import Derived.Test.YtokkmofcijfmiabGQ4
import Derived.Deep.Cut
namespace Go.Proofs.Ytokkmofcijfmiab
open Go.RowKit

/-- The cells of writes. -/
abbrev wrV (l : List Wr) : List Value := l.flatMap fun x => x.cells.toList
theorem wrV_len (l : List Wr) : (wrV l).length = l.length * 10 := by
  induction l with
  | nil => rfl
  | cons x t ih =>
    show (x.cells.toList ++ wrV t).length = _
    rw [List.length_append, ih]
    show 10 + t.length * 10 = (t.length + 1) * 10
    omega
theorem wrV_get : ∀ (l : List Wr) (k j : Nat) (x : Wr) (v : Value), l[k]? = some x → x.cells[j]? = some v → (wrV l)[k * 10 + j]? = some v
  | [], k, j, x, v, h, _ => by simp at h
  | y :: t, 0, j, x, v, h, hv => by
    have e : y = x := by simpa using h
    subst e
    have hj : j < 10 := by
      have := (Array.getElem?_eq_some_iff.1 hv).1
      simpa using this
    show (y.cells.toList ++ wrV t)[0 * 10 + j]? = _
    rw [List.getElem?_append_left (by show _ < 10; omega), Nat.zero_mul, Nat.zero_add, Array.getElem?_toList]
    exact hv
  | y :: t, k + 1, j, x, v, h, hv => by
    have h2 : t[k]? = some x := by simpa using h
    have ih := wrV_get t k j x v h2 hv
    show (y.cells.toList ++ wrV t)[(k + 1) * 10 + j]? = _
    rw [List.getElem?_append_right (by show 10 ≤ _; omega)]
    show (wrV t)[(k + 1) * 10 + j - 10]? = _
    rw [show (k + 1) * 10 + j - 10 = k * 10 + j by omega]
    exact ih
theorem wr_one (x : Wr) : ∀ u ∈ x.cells.toList, u.oneCell' = true := by
  intro u hu
  simp only [List.mem_cons, List.not_mem_nil, or_false] at hu
  rcases hu with rfl | rfl | rfl | rfl | rfl | rfl | rfl | rfl | rfl | rfl <;> rfl
section
variable {P : Program} {w : World} {t t' e' : TypeId} {i : TypeInfo} {base : Nat} {A : Option Addr} {ad : Addr} {n c d : Nat} {l : List Wr} {xx : Wr} {o : Oper} {a : Act} {Q : Exit → Act → World → Prop} {ops : Array Oper}
end
end Go.Proofs.Ytokkmofcijfmiab

namespace Go.Proofs.Ytokkmofcijfmiab
open Go.RowKit
attribute [local go_sem ↓] Go.wp_at_zero Go.wp_at_succ

/-- Where the first j writes end; are they all there? -/
noncomputable def posWs (l : List UInt8) (most : Nat) : Nat → Nat
  | 0 => (takeNum l most).2
  | j + 1 => posWs l most j + (takeWrB (l.drop (posWs l most j))).2
noncomputable def nthWs (l : List UInt8) (most j : Nat) : Wr × Nat := takeWrB (l.drop (posWs l most j))
noncomputable def listWs (l : List UInt8) (most : Nat) : Nat → List Wr
  | 0 => []
  | j + 1 => listWs l most j ++ [(nthWs l most j).1]
def stdWs (l : List UInt8) (most : Nat) : Prop := (takeNum l most).2 ≠ 0 ∧ ∀ j, j < (takeNum l most).1 → (nthWs l most j).2 ≠ 0
open Classical in
/-- Writes, taken; how many bytes; 0: they don't stand there. -/
noncomputable def takeWrsB (l : List UInt8) (most : Nat) : List Wr × Nat :=
  if stdWs l most then (listWs l most (takeNum l most).1, posWs l most (takeNum l most).1) else ([], 0)
theorem takeWrs_no {l : List UInt8} {most : Nat} (h : ¬ stdWs l most) : takeWrsB l most = ([], 0) := if_neg h
theorem takeWrs_yes {l : List UInt8} {most : Nat} (h : stdWs l most) : takeWrsB l most = (listWs l most (takeNum l most).1, posWs l most (takeNum l most).1) := if_pos h
theorem listWs_len (l : List UInt8) (most : Nat) : ∀ j, (listWs l most j).length = j
  | 0 => rfl
  | j + 1 => by
    show (listWs l most j ++ [_]).length = _
    rw [List.length_append, listWs_len l most j]
    rfl
theorem takeWr_le (l : List UInt8) : (takeWrB l).2 ≤ l.length := by
  by_cases h : stdW l
  · rw [takeWr_yes h]
    have h1 := posW_le l 3
    have h2 := takeText_le (l.drop (posW l 3)) 20
    have h3 := takeVal_le (l.drop (posW l 3 + (textW l).2))
    have h4 := takeVal_le (l.drop (posW l 3 + (textW l).2 + (val1W l).2))
    rw [List.length_drop] at h2 h3 h4
    have e2 : (textW l).2 = (takeTextB (l.drop (posW l 3)) 20).2 := rfl
    have e3 : (val1W l).2 = (takeValB (l.drop (posW l 3 + (textW l).2))).2 := rfl
    have e4 : (val2W l).2 = (takeValB (l.drop (posW l 3 + (textW l).2 + (val1W l).2))).2 := rfl
    show posW l 3 + (textW l).2 + (val1W l).2 + (val2W l).2 ≤ _
    omega
  · rw [takeWr_no h]
    exact Nat.zero_le _
theorem posWs_le (l : List UInt8) (most : Nat) : ∀ j, posWs l most j ≤ l.length
  | 0 => (takeNum_lt l most).2.2.2
  | j + 1 => by
    have h := posWs_le l most j
    have k := takeWr_le (l.drop (posWs l most j))
    rw [List.length_drop] at k
    show posWs l most j + (takeWrB (l.drop (posWs l most j))).2 ≤ _
    omega
theorem posWs_succ (l : List UInt8) (most j : Nat) : posWs l most (j + 1) = posWs l most j + (nthWs l most j).2 := rfl
theorem add_zero_at (g j : Nat) : (⟨g, 0, none⟩ : Addr).add j = ⟨g, j, none⟩ := by
  unfold Addr.add
  by_cases h : j = 0
  · rw [if_pos h, h]
  · rw [if_neg h]
    simp
theorem new_cells (W : World) (x : Wr) (t : TypeId) : ∀ j v, x.cells[j]? = some v → (W.alloc (.cells x.cells t)).cell? ((⟨W.heap.size, 0, none⟩ : Addr).add j) = some v := by
  intro j v hv
  rw [add_zero_at, (blk_new W x.cells t).cell j]
  exact hv
end Go.Proofs.Ytokkmofcijfmiab

namespace Go.Proofs.Ytokkmofcijfmiab
open Go.RowKit
attribute [local go_sem ↓] Go.wp_at_zero Go.wp_at_succ

theorem str_ext {a b : ByteArray} (h : a.toList = b.toList) : a = b := by
  rw [ByteArray.toList_eq, ByteArray.toList_eq] at h
  cases a
  cases b
  simp only at h
  congr 1
  exact Array.toList_inj.1 h
open Classical in
/-- The same lists? -/
noncomputable def sameW (l l2 : List Wr) : Bool := decide (l = l2)
theorem sameW_iff (l l2 : List Wr) : sameW l l2 = true ↔ l = l2 := by
  unfold sameW
  simp
theorem sameW_no {l l2 : List Wr} (h : l ≠ l2) : sameW l l2 = false := Bool.eq_false_iff.2 fun e => h ((sameW_iff l l2).1 e)
theorem sameW_yes {l l2 : List Wr} (h : l = l2) : sameW l l2 = true := (sameW_iff l l2).2 h

end Go.Proofs.Ytokkmofcijfmiab

namespace Go.Proofs.Ytokkmofcijfmiab
open Go.RowKit

def valOf (st : Rest) : (Int × Int × List UInt8) × Rest := match st with
  | none => ((0, 0, []), none)
  | some b => if (takeValB b).2 = 0 then ((0, 0, []), none) else ((takeValB b).1, some (b.drop (takeValB b).2))
abbrev wrNo : Wr := ⟨0, 0, 0, ⟨#[]⟩, 0, 0, ⟨#[]⟩, 0, 0, ⟨#[]⟩⟩
noncomputable def wrOf (st : Rest) : Wr × Rest := match st with
  | none => (wrNo, none)
  | some b => if (takeWrB b).2 = 0 then (wrNo, none) else ((takeWrB b).1, some (b.drop (takeWrB b).2))
noncomputable def wrsOf (st : Rest) (most : Nat) : List Wr × Rest := match st with
  | none => ([], none)
  | some b => if (takeWrsB b most).2 = 0 then ([], none) else ((takeWrsB b most).1, some (b.drop (takeWrsB b most).2))
end Go.Proofs.Ytokkmofcijfmiab

namespace Go.Proofs.Ytokkmofcijfmiab

/-- A number of at most less. -/
theorem num_most (b : List UInt8) {m M : Nat} (h : m ≤ M) : takeNum b m = if (takeNum b M).2 = 0 then (0, 0) else if (takeNum b M).1 ≤ m then takeNum b M else (0, 0) := by
  cases b with
  | nil => rfl
  | cons c t =>
    rw [takeNum_cons, takeNum_cons]
    by_cases hc : 8 < c.toNat ∨ t.length < c.toNat ∨ (0 < c.toNat ∧ t.head? = some 0)
    · simp only [if_pos hc]
      rfl
    · simp only [if_neg hc]
      by_cases h1 : M < beV (t.take c.toNat)
      · have h2 : m < beV (t.take c.toNat) := by omega
        simp [h1, h2]
      · by_cases h2 : m < beV (t.take c.toNat)
        · have h3 : ¬ beV (t.take c.toNat) ≤ m := by omega
          simp [h1, h2, h3]
        · have h3 : beV (t.take c.toNat) ≤ m := by omega
          simp [h1, h2, h3]
/-- .. as a reader has it. -/
theorem numOf_most (st : Rest) {m M : Nat} (h : m ≤ M) : numOf st m = if (numOf st M).1 ≤ m then numOf st M else (0, none) := by
  cases st with
  | none => exact (if_pos (Nat.zero_le m)).symm
  | some b =>
    unfold numOf
    dsimp only
    rw [num_most b h]
    by_cases h0 : (takeNum b M).2 = 0
    · simp [h0]
    · by_cases h1 : (takeNum b M).1 ≤ m
      · simp [h0, h1]
      · simp [h0, h1]
theorem numOf_none {st : Rest} {m : Nat} (h : (numOf st m).2 = none) : (numOf st m).1 = 0 := by
  cases st with
  | none => rfl
  | some b =>
    revert h
    unfold numOf
    dsimp only
    by_cases h0 : (takeNum b m).2 = 0
    · simp [h0]
    · simp [h0]

abbrev valZ : Int × Int × List UInt8 := (0, 0, [])
/-- What a reader takes of a value, step by step. -/
def valM (st : Rest) : (Int × Int × List UInt8) × Rest :=
  if (numOf st 9223372036854775807).1 = 1 then (soundM valZ (intOfR (numOf st 9223372036854775807).2).2 (1, (intOfR (numOf st 9223372036854775807).2).1, []), (intOfR (numOf st 9223372036854775807).2).2)
  else if (numOf st 9223372036854775807).1 = 2 then (soundM valZ (textOf (numOf st 9223372036854775807).2 40).2 (2, 0, (textOf (numOf st 9223372036854775807).2 40).1), (textOf (numOf st 9223372036854775807).2 40).2)
  else (valZ, mustM (decide ((numOf st 9223372036854775807).1 = 0)) (numOf st 9223372036854775807).2)
theorem val_is (st : Rest) : valM st = valOf st := by
  cases st with
  | none => rfl
  | some b =>
    have hm := numOf_most (some b) (show 2 ≤ 9223372036854775807 by omega)
    have hv : valOf (some b) = if (takeValC (takeNum b 2).1 (takeNum b 2).2 b).2 = 0 then (valZ, none) else ((takeValC (takeNum b 2).1 (takeNum b 2).2 b).1, some (b.drop (takeValC (takeNum b 2).1 (takeNum b 2).2 b).2)) := rfl
    have hn : numOf (some b) 2 = if (takeNum b 2).2 = 0 then (0, none) else ((takeNum b 2).1, some (b.drop (takeNum b 2).2)) := rfl
    rw [hn] at hm
    rw [hv]
    unfold valM
    generalize numOf (some b) 9223372036854775807 = p at hm ⊢
    generalize takeNum b 2 = T at hm ⊢
    clear hv hn
    obtain ⟨k, st1⟩ := p
    obtain ⟨v, q⟩ := T
    dsimp only at hm ⊢
    by_cases hk : k ≤ 2
    · rw [if_pos hk] at hm
      by_cases hq : q = 0
      · rw [if_pos hq] at hm
        injection hm with h1 h2
        subst h1 h2 hq
        simp [takeValC, mustM_none]
      · rw [if_neg hq] at hm
        injection hm with h1 h2
        subst h1 h2
        have hk3 : v = 0 ∨ v = 1 ∨ v = 2 := by omega
        rcases hk3 with rfl | rfl | rfl
        · simp [takeValC, mustM, hq]
        · by_cases hi : (takeIntB (b.drop q)).2 = 0
          · simp [takeValC, hq, intOfR, soundM, hi]
          · simp [takeValC, hq, intOfR, soundM, hi, List.drop_drop]
        · by_cases hi : (takeTextB (b.drop q) 40).2 = 0
          · simp [takeValC, hq, textOf, soundM, hi]
          · simp [takeValC, hq, textOf, soundM, hi, List.drop_drop]
    · rw [if_neg hk] at hm
      by_cases hq : q = 0
      · subst hq
        have h0 : ¬ k = 0 := by omega
        have h1 : ¬ k = 1 := by omega
        have h2 : ¬ k = 2 := by omega
        simp [takeValC, mustM, h0, h1, h2]
      · rw [if_neg hq] at hm
        injection hm with _ h2
        cases h2
end Go.Proofs.Ytokkmofcijfmiab

namespace Go.Proofs.Ytokkmofcijfmiab

section
variable {α : Type}
/-- Where the j-th of them begins, the first one at p. f: what stands at the front, and how many bytes it has; 0: none does. -/
def posG (f : List UInt8 → α × Nat) (l : List UInt8) (p : Nat) : Nat → Nat
  | 0 => p
  | j + 1 => posG f l p j + (f (l.drop (posG f l p j))).2
def nthG (f : List UInt8 → α × Nat) (l : List UInt8) (p j : Nat) : α × Nat := f (l.drop (posG f l p j))
def listG (f : List UInt8 → α × Nat) (l : List UInt8) (p : Nat) : Nat → List α
  | 0 => []
  | j + 1 => listG f l p j ++ [(nthG f l p j).1]
theorem posG_succ (f : List UInt8 → α × Nat) (l : List UInt8) (p j : Nat) : posG f l p (j + 1) = posG f l p j + (nthG f l p j).2 := rfl
theorem listG_succ (f : List UInt8 → α × Nat) (l : List UInt8) (p j : Nat) : listG f l p (j + 1) = listG f l p j ++ [(nthG f l p j).1] := rfl
theorem listG_len (f : List UInt8 → α × Nat) (l : List UInt8) (p : Nat) : ∀ j, (listG f l p j).length = j
  | 0 => rfl
  | j + 1 => by rw [listG_succ, List.length_append, listG_len f l p j]; rfl
theorem posG_le {f : List UInt8 → α × Nat} (hf : ∀ b, (f b).2 ≤ b.length) {l : List UInt8} {p : Nat} (hp : p ≤ l.length) : ∀ j, posG f l p j ≤ l.length
  | 0 => hp
  | j + 1 => by
    have h := posG_le hf hp j
    have k := hf (l.drop (posG f l p j))
    rw [List.length_drop] at k
    show posG f l p j + (f (l.drop (posG f l p j))).2 ≤ _
    omega
theorem posG_up (f : List UInt8 → α × Nat) (l : List UInt8) (p : Nat) : ∀ j, p ≤ posG f l p j
  | 0 => Nat.le_refl _
  | j + 1 => Nat.le_trans (posG_up f l p j) (by rw [posG_succ]; omega)
/-- Do n of them stand there? -/
def StdG (f : List UInt8 → α × Nat) (l : List UInt8) (p n : Nat) : Prop := ∀ j, j < n → (nthG f l p j).2 ≠ 0
theorem stdG_low {f : List UInt8 → α × Nat} {l : List UInt8} {p m : Nat} (hf : ∀ b, (f b).2 ≠ 0 → m ≤ (f b).2) : ∀ n, StdG f l p n → p + m * n ≤ posG f l p n
  | 0, _ => Nat.le_refl _
  | n + 1, h => by
    have h1 := stdG_low hf n fun j hj => h j (by omega)
    have h2 := hf _ (h n (by omega))
    rw [posG_succ]
    unfold nthG
    rw [Nat.mul_succ]
    omega
open Classical in
/-- As many as the number ahead tells, if they stand there and are good; how many bytes; 0: they don't. -/
noncomputable def takeG (f : List UInt8 → α × Nat) (good : List α → Bool) (l : List UInt8) (most : Nat) : List α × Nat :=
  if (takeNum l most).2 ≠ 0 ∧ StdG f l (takeNum l most).2 (takeNum l most).1 ∧ good (listG f l (takeNum l most).2 (takeNum l most).1) = true then (listG f l (takeNum l most).2 (takeNum l most).1, posG f l (takeNum l most).2 (takeNum l most).1) else ([], 0)
theorem takeG_yes {f : List UInt8 → α × Nat} {good : List α → Bool} {l : List UInt8} {most n k : Nat} (hq : takeNum l most = (n, k)) (h0 : k ≠ 0) (h1 : StdG f l k n) (h2 : good (listG f l k n) = true) : takeG f good l most = (listG f l k n, posG f l k n) := by
  unfold takeG
  rw [hq]
  exact if_pos ⟨h0, h1, h2⟩
theorem takeG_no {f : List UInt8 → α × Nat} {good : List α → Bool} {l : List UInt8} {most n k : Nat} (hq : takeNum l most = (n, k)) (h : k = 0 ∨ (∃ j, j < n ∧ (nthG f l k j).2 = 0) ∨ good (listG f l k n) = false) : takeG f good l most = ([], 0) := by
  unfold takeG
  rw [hq]
  refine if_neg ?_
  rintro ⟨h0, h1, h2⟩
  rcases h with h | ⟨j, hj, hz⟩ | h
  · exact h0 h
  · exact h1 j hj hz
  · rw [h2] at h
    cases h
/-- Either so or so. -/
theorem takeG_or (f : List UInt8 → α × Nat) (good : List α → Bool) (l : List UInt8) (most : Nat) : takeG f good l most = ([], 0) ∨ ((takeG f good l most).2 ≠ 0 ∧ good (takeG f good l most).1 = true) := by
  unfold takeG
  split
  · rename_i h
    refine .inr ⟨?_, h.2.2⟩
    have := posG_up f l (takeNum l most).2 (takeNum l most).1
    dsimp only
    omega
  · exact .inl rfl
theorem takeG_len {f : List UInt8 → α × Nat} {good : List α → Bool} {l : List UInt8} {most : Nat} : (takeG f good l most).1.length ≤ (takeNum l most).1 := by
  unfold takeG
  split
  · rw [listG_len]
    exact Nat.le_refl _
  · exact Nat.zero_le _

/-- A reader's steps: s is one. -/
def repG (s : Rest → α × Rest) : Nat → Rest → List α × Rest
  | 0, st => ([], st)
  | n + 1, st => match st with
    | none => ([], none)
    | some b => ((s (some b)).1 :: (repG s n (s (some b)).2).1, (repG s n (s (some b)).2).2)
theorem repG_none (s : Rest → α × Rest) : ∀ n, repG s n none = ([], none)
  | 0 => rfl
  | _ + 1 => rfl
theorem repG_more (s : Rest → α × Rest) (n : Nat) (b : List UInt8) : repG s (n + 1) (some b) = ((s (some b)).1 :: (repG s n (s (some b)).2).1, (repG s n (s (some b)).2).2) := rfl
/-- Such a step, of f. -/
def StepG (f : List UInt8 → α × Nat) (s : Rest → α × Rest) : Prop := ∀ b, ((f b).2 = 0 → (s (some b)).2 = none) ∧ ((f b).2 ≠ 0 → s (some b) = ((f b).1, some (b.drop (f b).2)))
theorem repG_at {f : List UInt8 → α × Nat} {s : Rest → α × Rest} (hs : StepG f s) (l : List UInt8) (p : Nat) : ∀ (r j : Nat),
    ((∀ i, j ≤ i → i < j + r → (nthG f l p i).2 ≠ 0) → listG f l p j ++ (repG s r (some (l.drop (posG f l p j)))).1 = listG f l p (j + r) ∧ (repG s r (some (l.drop (posG f l p j)))).2 = some (l.drop (posG f l p (j + r)))) ∧
    ((∃ i, j ≤ i ∧ i < j + r ∧ (nthG f l p i).2 = 0) → (repG s r (some (l.drop (posG f l p j)))).2 = none)
  | 0, j => ⟨fun _ => ⟨List.append_nil _, rfl⟩, fun ⟨i, h1, h2, _⟩ => by omega⟩
  | r + 1, j => by
    have ih := repG_at hs l p r (j + 1)
    have hw := hs (l.drop (posG f l p j))
    rw [repG_more]
    by_cases h0 : (nthG f l p j).2 = 0
    · refine ⟨fun h => absurd h0 (h j (Nat.le_refl _) (by omega)), fun _ => ?_⟩
      rw [hw.1 h0, repG_none]
    · rw [hw.2 h0, List.drop_drop]
      refine ⟨fun h => ?_, fun ⟨i, h1, h2, h3⟩ => ?_⟩
      · obtain ⟨e1, e2⟩ := ih.1 (fun i h1 h2 => h i (by omega) (by omega))
        rw [show j + (r + 1) = j + 1 + r by omega]
        refine ⟨?_, e2⟩
        rw [← e1, listG_succ, List.append_assoc]
        rfl
      · have hij : i ≠ j := by
          rintro rfl
          exact h0 h3
        exact ih.2 ⟨i, by omega, by omega, h3⟩
/-- What a reader takes of a list, and has left; nothing: an error. -/
noncomputable def outG (f : List UInt8 → α × Nat) (good : List α → Bool) (st : Rest) (most : Nat) : Option (List α × List UInt8) := match st with
  | none => none
  | some b => if (takeG f good b most).2 = 0 then none else some ((takeG f good b most).1, b.drop (takeG f good b most).2)
/-- .. step by step. -/
def gotG (s : Rest → α × Rest) (good : List α → Bool) (st : Rest) (most : Nat) : Option (List α × List UInt8) := match (repG s (numOf st most).1 (numOf st most).2).2 with
  | none => none
  | some b => if good (repG s (numOf st most).1 (numOf st most).2).1 = true then some ((repG s (numOf st most).1 (numOf st most).2).1, b) else none
theorem got_is {f : List UInt8 → α × Nat} {s : Rest → α × Rest} (hs : StepG f s) (good : List α → Bool) (st : Rest) (most : Nat) : gotG s good st most = outG f good st most := by
  cases st with
  | none => rfl
  | some b =>
    have hno : takeG f good b most = ([], 0) → outG f good (some b) most = none := fun h => by
      unfold outG
      dsimp only
      rw [h]
      exact if_pos rfl
    cases hq : takeNum b most with
    | mk n k =>
      have e0 : numOf (some b) most = if k = 0 then (0, none) else (n, some (b.drop (posG f b k 0))) := by
        unfold numOf
        dsimp only
        rw [hq]
        rfl
      unfold gotG
      by_cases h0 : k = 0
      · rw [if_pos h0] at e0
        rw [e0, hno (takeG_no hq (.inl h0))]
        rfl
      · rw [if_neg h0] at e0
        rw [e0]
        dsimp only
        have hr := repG_at hs b k n 0
        rw [Nat.zero_add] at hr
        by_cases hx : ∃ j, j < n ∧ (nthG f b k j).2 = 0
        · obtain ⟨j, h1, h2⟩ := hx
          rw [hr.2 ⟨j, Nat.zero_le _, h1, h2⟩, hno (takeG_no hq (.inr (.inl ⟨j, h1, h2⟩)))]
        · have hS : StdG f b k n := fun j hj hz => hx ⟨j, hj, hz⟩
          obtain ⟨e1, e2⟩ := hr.1 (fun i _ h2 => hS i h2)
          have e3 : (repG s n (some (b.drop (posG f b k 0)))).1 = listG f b k n := e1
          rw [e2, e3]
          dsimp only
          cases hg : good (listG f b k n) with
          | true =>
            rw [if_pos rfl]
            unfold outG
            dsimp only
            rw [takeG_yes hq h0 hS hg]
            dsimp only
            rw [if_neg]
            have := posG_up f b k n
            omega
          | false =>
            rw [if_neg Bool.false_ne_true, hno (takeG_no hq (.inr (.inr hg)))]
/-- What is put is taken again. -/
def PutG (f : List UInt8 → α × Nat) (E : α → List UInt8) (x : α) : Prop := ∀ r, f (E x ++ r) = (x, (E x).length)
theorem nthG_put {f : List UInt8 → α × Nat} {E : α → List UInt8} (H : List UInt8) (l : List α) (r : List UInt8) (hg : ∀ x, x ∈ l → PutG f E x) : ∀ j, j ≤ l.length →
    posG f (H ++ l.flatMap E ++ r) H.length j = H.length + ((l.take j).flatMap E).length ∧ listG f (H ++ l.flatMap E ++ r) H.length j = l.take j ∧ (∀ q x, q < j → l[q]? = some x → nthG f (H ++ l.flatMap E ++ r) H.length q = (x, (E x).length))
  | 0, _ => ⟨by simp [posG], by simp [listG], fun q x hq => by omega⟩
  | j + 1, hj => by
    obtain ⟨h1, h2, h3⟩ := nthG_put H l r hg j (by omega)
    have hx : l[j]? = some l[j] := List.getElem?_eq_getElem (by omega)
    have hmem := List.mem_of_getElem? hx
    have hsplit : l = l.take j ++ l[j] :: l.drop (j + 1) := by
      rw [List.getElem_cons_drop, List.take_append_drop]
    have hn : nthG f (H ++ l.flatMap E ++ r) H.length j = (l[j], (E l[j]).length) := by
      unfold nthG
      rw [h1]
      have e1 : l.flatMap E = (l.take j).flatMap E ++ (E l[j] ++ (l.drop (j + 1)).flatMap E) := by
        conv => lhs; rw [hsplit]
        rw [List.flatMap_append, List.flatMap_cons]
      have e : H ++ l.flatMap E ++ r = (H ++ (l.take j).flatMap E) ++ (E l[j] ++ ((l.drop (j + 1)).flatMap E ++ r)) := by
        rw [e1]
        simp only [List.append_assoc]
      rw [e, List.drop_append_of_le_length (by simp), show H.length + ((l.take j).flatMap E).length = (H ++ (l.take j).flatMap E).length by simp, List.drop_length, List.nil_append]
      exact hg _ hmem _
    refine ⟨?_, ?_, ?_⟩
    · rw [posG_succ, hn, h1, List.take_succ_eq_append_getElem (by omega), List.flatMap_append, List.length_append, List.flatMap_cons, List.flatMap_nil, List.append_nil, Nat.add_assoc]
    · rw [listG_succ, hn, h2, List.take_succ_eq_append_getElem (by omega)]
    · intro q x hq hqx
      by_cases e : q = j
      · subst e
        rw [hx] at hqx
        injection hqx with hqx
        rw [← hqx]
        exact hn
      · exact h3 q x (by omega) hqx
theorem takeG_put {f : List UInt8 → α × Nat} {E : α → List UInt8} {good : List α → Bool} {l : List α} {most : Nat} (r : List UInt8) (hn : l.length < 18446744073709551616) (hm : l.length ≤ most) (hg : ∀ x, x ∈ l → PutG f E x) (h0 : ∀ x, x ∈ l → (E x).length ≠ 0) (hgood : good l = true) :
    takeG f good (numB l.length ++ l.flatMap E ++ r) most = (l, (numB l.length ++ l.flatMap E).length) := by
  obtain ⟨h1, h2, h3⟩ := nthG_put (f := f) (E := E) (numB l.length) l r hg l.length (Nat.le_refl _)
  rw [List.take_length] at h1 h2
  have hq : takeNum (numB l.length ++ l.flatMap E ++ r) most = (l.length, (numB l.length).length) := by
    rw [List.append_assoc]
    exact take_num _ hn hm
  rw [takeG_yes hq (by rw [numB_len]; omega) (fun j hj => ?_) (by rw [h2]; exact hgood), h1, h2, List.length_append]
  have hx : l[j]? = some l[j] := List.getElem?_eq_getElem hj
  rw [h3 j _ hj hx]
  exact h0 _ (List.mem_of_getElem? hx)
/-- A greater most doesn't matter, where fewer bytes stand there. -/
theorem takeG_most {f : List UInt8 → α × Nat} {good : List α → Bool} {l : List UInt8} {m M k : Nat} (hmM : m ≤ M) (hf : ∀ b, (f b).2 ≤ b.length) (hk : ∀ b, (f b).2 ≠ 0 → k ≤ (f b).2) (hl : l.length < k * (m + 1)) : takeG f good l M = takeG f good l m := by
  cases hq : takeNum l M with
  | mk n p =>
    have hm := num_most l hmM
    rw [hq] at hm
    dsimp only at hm
    by_cases h0 : p = 0
    · rw [if_pos h0] at hm
      rw [takeG_no hq (.inl h0), takeG_no hm (.inl rfl)]
    · rw [if_neg h0] at hm
      by_cases hn : n ≤ m
      · rw [if_pos hn] at hm
        unfold takeG
        rw [hq, hm]
      · rw [if_neg hn] at hm
        rw [takeG_no hm (.inl rfl)]
        refine takeG_no hq (.inr (.inl ?_))
        apply Classical.byContradiction
        intro hx
        have hS : StdG f l p n := fun j hj hz => hx ⟨j, hj, hz⟩
        have h1 := stdG_low hk n hS
        have hp : p ≤ l.length := by
          have := (takeNum_lt l M).2.2.2
          rw [hq] at this
          exact this
        have h2 := posG_le hf hp n
        have h3 : k * (m + 1) ≤ k * n := Nat.mul_le_mul_left _ (by omega)
        omega
end
end Go.Proofs.Ytokkmofcijfmiab

namespace Go.Proofs.Ytokkmofcijfmiab
open Go.RowKit

theorem take_val {k n : Int} {s : ByteArray} (r : List UInt8) (h : goodB k n s = true) (h0 : -9223372036854775808 ≤ n) (h1 : n ≤ 9223372036854775807) :
    takeValB (valB k n s.data.toList ++ r) = ((k, n, s.data.toList), (valB k n s.data.toList).length) := by
  have hl : s.data.toList.length = s.size := Array.length_toList
  unfold goodB at h
  rw [decide_eq_true_eq] at h
  rcases h with ⟨rfl, rfl, hs⟩ | ⟨rfl, hs⟩ | ⟨rfl, rfl, hs⟩
  · have e : s.data.toList = [] := List.length_eq_zero_iff.1 (by omega)
    rw [e, valB_0]
    unfold takeValB
    rw [take_num r (by omega) (by omega)]
    unfold takeValC
    rw [if_pos (Or.inr rfl)]
  · have e : s.data.toList = [] := List.length_eq_zero_iff.1 (by omega)
    rw [e, valB_1]
    unfold takeValB
    rw [List.append_assoc, take_num _ (by omega) (by omega)]
    have hp := numB_len 1
    have hz := numB_len (zig n)
    unfold takeValC
    rw [if_neg (by simp only; omega), if_pos rfl]
    simp only [List.drop_left]
    rw [take_int r h0 h1, if_neg (by simp only; omega), List.length_append]
  · rw [valB_2]
    unfold takeValB
    rw [List.append_assoc, take_num _ (by omega) (by omega)]
    have hp := numB_len 2
    have ht : (textB s.data.toList).length ≠ 0 := by unfold textB; rw [List.length_append, numB_len]; omega
    unfold takeValC
    rw [if_neg (by simp only; omega), if_neg (by decide)]
    simp only [List.drop_left]
    rw [take_text r (by omega) (by omega), if_neg (by simp only; exact ht), List.length_append]
theorem drop_pre {P R : List UInt8} {n : Nat} (h : n = P.length) : (P ++ R).drop n = R := by rw [h, List.drop_left]
set_option maxRecDepth 100000 in
theorem take_wr {x : Wr} (r : List UInt8) (h : x.good = true) (hf : x.fits) : takeWrB (wB x ++ r) = (x, (wB x).length) := by
  obtain ⟨h1, h2, h3, h4, h5, h6⟩ := good_in h
  obtain ⟨f0, f1, f2, f3, f4⟩ := hf
  have hg := h
  unfold Wr.good wrGoodB opB at hg
  simp only [Bool.and_eq_true, decide_eq_true_eq] at hg
  obtain ⟨_, ⟨⟨_, ga⟩, gb⟩, _⟩ := hg
  have hk : x.ky.data.toList.length = x.ky.size := Array.length_toList
  have eL : wB x ++ r = numB x.dev.toNat ++ (numB x.seq.toNat ++ (numB x.K.toNat ++ (textB x.ky.data.toList ++ (valB x.ka x.na x.sa.data.toList ++ (valB x.kb x.nb x.sb.data.toList ++ r))))) := by
    unfold wB wrB
    simp only [List.append_assoc]
  have eN : (wB x).length = (numB x.dev.toNat).length + (numB x.seq.toNat).length + (numB x.K.toNat).length + (textB x.ky.data.toList).length + (valB x.ka x.na x.sa.data.toList).length + (valB x.kb x.nb x.sb.data.toList).length := by
    unfold wB wrB
    simp only [List.length_append]
  have tv1 := fun r => take_val (k := x.ka) (n := x.na) (s := x.sa) r ga f3.1 f3.2
  have tv2 := fun r => take_val (k := x.kb) (n := x.nb) (s := x.sb) r gb f4.1 f4.2
  have tt := fun r => take_text (s := x.ky.data.toList) (most := 20) r (by omega) (by omega)
  have t0 := fun r => take_num (n := x.dev.toNat) (most := 1000) r (by omega) (by omega)
  have t1 := fun r => take_num (n := x.seq.toNat) (most := 1000) r (by omega) (by omega)
  have t2 := fun r => take_num (n := x.K.toNat) (most := 1000) r (by omega) (by omega)
  have l0 := numB_len x.dev.toNat
  have l1 := numB_len x.seq.toNat
  have l2 := numB_len x.K.toNat
  have l3 : (textB x.ky.data.toList).length ≠ 0 := by unfold textB; rw [List.length_append, numB_len]; omega
  have l4 : (valB x.ka x.na x.sa.data.toList).length ≠ 0 := by unfold valB; rw [List.length_append, numB_len]; omega
  have l5 : (valB x.kb x.nb x.sb.data.toList).length ≠ 0 := by unfold valB; rw [List.length_append, numB_len]; omega
  have e0 : (x.dev.toNat : Int) = x.dev := Int.toNat_of_nonneg (by omega)
  have e1 : (x.seq.toNat : Int) = x.seq := Int.toNat_of_nonneg (by omega)
  have e2 : (x.K.toNat : Int) = x.K := Int.toNat_of_nonneg (by omega)
  rw [eN, eL]
  clear eL eN
  generalize numB x.dev.toNat = D at t0 l0 ⊢
  generalize numB x.seq.toNat = Q at t1 l1 ⊢
  generalize numB x.K.toNat = K at t2 l2 ⊢
  generalize textB x.ky.data.toList = T at tt l3 ⊢
  generalize valB x.ka x.na x.sa.data.toList = VA at tv1 l4 ⊢
  generalize valB x.kb x.nb x.sb.data.toList = VB at tv2 l5 ⊢
  generalize hLL : D ++ (Q ++ (K ++ (T ++ (VA ++ (VB ++ r))))) = L
  have n0 : numW L 0 = (x.dev.toNat, D.length) := by
    show takeNum (L.drop 0) 1000 = _
    rw [List.drop_zero, ← hLL, t0]
  have p1 : posW L 1 = D.length := by rw [posW_succ, n0]; show 0 + _ = _; simp
  have n1 : numW L 1 = (x.seq.toNat, Q.length) := by
    show takeNum (L.drop (posW L 1)) 1000 = _
    rw [p1, ← hLL, List.drop_left, t1]
  have p2 : posW L 2 = D.length + Q.length := by rw [posW_succ, n1, p1]
  have n2 : numW L 2 = (x.K.toNat, K.length) := by
    show takeNum (L.drop (posW L 2)) 1000 = _
    rw [p2, ← hLL, ← List.drop_drop, List.drop_left, List.drop_left, t2]
  have p3 : posW L 3 = D.length + Q.length + K.length := by rw [posW_succ, n2, p2]
  have n3 : textW L = (x.ky.data.toList, T.length) := by
    unfold textW
    rw [p3, ← hLL, ← List.drop_drop, ← List.drop_drop, List.drop_left, List.drop_left, List.drop_left, tt]
  have n4 : val1W L = ((x.ka, x.na, x.sa.data.toList), VA.length) := by
    unfold val1W
    rw [p3, n3, ← hLL, ← List.drop_drop, ← List.drop_drop, ← List.drop_drop, List.drop_left, List.drop_left, List.drop_left, List.drop_left, tv1]
  have n5 : val2W L = ((x.kb, x.nb, x.sb.data.toList), VB.length) := by
    unfold val2W
    rw [p3, n3, n4, ← hLL, ← List.drop_drop, ← List.drop_drop, ← List.drop_drop, ← List.drop_drop, List.drop_left, List.drop_left, List.drop_left, List.drop_left, List.drop_left, tv2]
  have hgot : gotW L = x := by
    unfold gotW
    rw [n0, n1, n2, n3, n4, n5]
    simp only [e0, e1, e2]
  have hs : stdW L := by
    refine ⟨fun m hm => ?_, by rw [n3]; exact l3, by rw [n4]; exact l4, by rw [n5]; exact l5, by rw [hgot]; exact h⟩
    have e : m = 0 ∨ m = 1 ∨ m = 2 := by omega
    rcases e with rfl | rfl | rfl
    · rw [n0]; show D.length ≠ 0; omega
    · rw [n1]; show Q.length ≠ 0; omega
    · rw [n2]; show K.length ≠ 0; omega
  rw [takeWr_yes hs, hgot, p3, n3, n4, n5]
theorem nth_put {l : List Wr} {most : Nat} (r : List UInt8) (hn : l.length < 18446744073709551616) (hm : l.length ≤ most) (hg : ∀ x, x ∈ l → x.fits ∧ x.good = true) :
    ∀ j, j ≤ l.length → posWs (wsB l ++ r) most j = (numB l.length).length + ((l.take j).flatMap wB).length ∧ listWs (wsB l ++ r) most j = l.take j ∧ (∀ q x, q < j → l[q]? = some x → nthWs (wsB l ++ r) most q = (x, (wB x).length)) := by
  have hT : takeNum (wsB l ++ r) most = (l.length, (numB l.length).length) := by
    unfold wsB
    rw [List.append_assoc, take_num _ hn hm]
  intro j
  induction j with
  | zero =>
    intro _
    refine ⟨?_, rfl, fun q x hq => by omega⟩
    show (takeNum (wsB l ++ r) most).2 = _
    rw [hT]
    simp
  | succ j ih =>
    intro hj
    obtain ⟨h1, h2, h3⟩ := ih (by omega)
    have hx : l[j]? = some l[j] := List.getElem?_eq_getElem (by omega)
    generalize l[j] = x at hx
    have hxg := hg x (List.mem_of_getElem? hx)
    have hd : l.drop j = x :: l.drop (j + 1) := by
      rw [List.drop_eq_getElem_cons (by omega)]
      congr 1
      rw [List.getElem?_eq_getElem (by omega)] at hx
      injection hx
    have hL : (wsB l ++ r).drop (posWs (wsB l ++ r) most j) = wB x ++ ((l.drop (j + 1)).flatMap wB ++ r) := by
      have e : wsB l ++ r = numB l.length ++ ((l.take j).flatMap wB ++ ((l.drop j).flatMap wB ++ r)) := by
        unfold wsB
        rw [← List.append_assoc ((l.take j).flatMap wB), ← List.flatMap_append, List.take_append_drop, List.append_assoc]
      rw [h1, e, ← List.drop_drop, List.drop_left, List.drop_left, hd]
      simp
    have hN : nthWs (wsB l ++ r) most j = (x, (wB x).length) := by
      unfold nthWs
      rw [hL, take_wr _ hxg.2 hxg.1]
    have ht : l.take (j + 1) = l.take j ++ [x] := by
      rw [List.take_add_one, hx]
      rfl
    refine ⟨?_, ?_, fun q y hq hy => ?_⟩
    · rw [posWs_succ, hN, h1, ht, List.flatMap_append, List.length_append]
      simp
      omega
    · show listWs (wsB l ++ r) most j ++ [(nthWs (wsB l ++ r) most j).1] = _
      rw [h2, hN, ht]
    · by_cases e : q = j
      · subst e
        rw [hx] at hy
        injection hy with hy
        subst hy
        exact hN
      · exact h3 q y (by omega) hy
/-- Writes put are taken again. -/
theorem take_wrs {l : List Wr} {most : Nat} (r : List UInt8) (hn : l.length < 18446744073709551616) (hm : l.length ≤ most) (hg : ∀ x, x ∈ l → x.fits ∧ x.good = true) : takeWrsB (wsB l ++ r) most = (l, (wsB l).length) := by
  have hT : takeNum (wsB l ++ r) most = (l.length, (numB l.length).length) := by
    unfold wsB
    rw [List.append_assoc, take_num _ hn hm]
  obtain ⟨h1, h2, h3⟩ := nth_put (most := most) r hn hm hg l.length (Nat.le_refl _)
  rw [takeWrs_yes, hT, h1, h2, List.take_length]
  · unfold wsB
    rw [List.length_append]
  · refine ⟨by rw [hT, numB_len]; simp only; omega, fun j hj => ?_⟩
    rw [hT] at hj
    have hx : l[j]? = some l[j] := List.getElem?_eq_getElem hj
    generalize l[j] = x at hx
    rw [h3 j x hj hx]
    show (wB x).length ≠ 0
    unfold wB wrB
    simp only [List.length_append, numB_len]
    omega
/-- What a reader takes of what was put. -/
theorem wrOf_put {x : Wr} (r : List UInt8) (h : x.good = true) (hf : x.fits) : wrOf (some (wB x ++ r)) = (x, some r) := by
  have hne : (wB x).length ≠ 0 := by
    unfold wB wrB
    simp only [List.length_append, numB_len]
    omega
  unfold wrOf
  simp only [take_wr r h hf, hne, if_false, List.drop_left]
theorem wrsOf_put {l : List Wr} {most : Nat} (r : List UInt8) (hn : l.length < 18446744073709551616) (hm : l.length ≤ most) (hg : ∀ x, x ∈ l → x.fits ∧ x.good = true) : wrsOf (some (wsB l ++ r)) most = (l, some r) := by
  have hne : (wsB l).length ≠ 0 := by
    unfold wsB
    rw [List.length_append, numB_len]
    omega
  unfold wrsOf
  simp only [take_wrs r hn hm hg, hne, if_false, List.drop_left]
end Go.Proofs.Ytokkmofcijfmiab
