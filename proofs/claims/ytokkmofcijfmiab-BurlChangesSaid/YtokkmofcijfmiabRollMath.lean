/-
  WHAT IS PROVED: plain facts and words for cells, lasts and lines: their cells in memory, when they are good, their bytes, what is taken of bytes; what is put is taken again. No program is spoken of.
-/
import Derived.Test.YtokkmofcijfmiabListMath
import Derived.Test.YtokkmofcijfmiabGQ7
import Derived.Test.YtokkmofcijfmiabReachMath
import Derived.Test.YtokkmofcijfmiabGQ9
namespace Go.Proofs.Ytokkmofcijfmiab
open Go.RowKit

/-! Lists each of which is good, and ahead of the next. -/
section
variable {α : Type}
def GoodAt (good : α → Bool) (lt : α → α → Bool) (l : List α) (i : Nat) : Prop := ∀ x, l[i]? = some x → good x = true ∧ ∀ y, 0 < i → l[i - 1]? = some y → lt y x = true
open Classical in
noncomputable def goodLs (good : α → Bool) (lt : α → α → Bool) (l : List α) : Bool := decide (∀ i, GoodAt good lt l i)
open Classical in
theorem goodLs_yes {good : α → Bool} {lt : α → α → Bool} {l : List α} (h : ∀ i, i < l.length → GoodAt good lt l i) : goodLs good lt l = true := by
  unfold goodLs
  rw [decide_eq_true_eq]
  intro i x hx
  exact h i (List.getElem?_eq_some_iff.1 hx).1 x hx
open Classical in
theorem goodLs_no {good : α → Bool} {lt : α → α → Bool} {l : List α} {i : Nat} {x : α} (hx : l[i]? = some x) (h : good x = false ∨ ∃ y, 0 < i ∧ l[i - 1]? = some y ∧ lt y x = false) : goodLs good lt l = false := by
  unfold goodLs
  rw [decide_eq_false_iff_not]
  intro hall
  obtain ⟨h1, h2⟩ := hall i x hx
  rcases h with h | ⟨y, h0, hy, h⟩
  · rw [h] at h1
    cases h1
  · rw [h2 y h0 hy] at h
    cases h
open Classical in
theorem goodLs_mem {good : α → Bool} {lt : α → α → Bool} {l : List α} (h : goodLs good lt l = true) {x : α} (hx : x ∈ l) : good x = true := by
  unfold goodLs at h
  rw [decide_eq_true_eq] at h
  obtain ⟨i, hi⟩ := List.getElem?_of_mem hx
  exact (h i x hi).1
end

/-! A cell. -/
structure Cl where
  ky : ByteArray
  k : Int
  x : Int
  s : ByteArray
abbrev clI (ky : ByteArray) (k x : Int) (s : ByteArray) : Array Value := #[.string ky, .int .i64 k, .int .i64 x, .string s]
abbrev Cl.cells (c : Cl) : Array Value := clI c.ky c.k c.x c.s
def Cl.fits (c : Cl) : Prop := c.ky.size ≤ maxLen ∧ c.s.size ≤ maxLen ∧ -9223372036854775808 ≤ c.x ∧ c.x ≤ 9223372036854775807
def clGoodB (ky : ByteArray) (k x : Int) (s : ByteArray) : Bool := keyB ky.data.toList && (goodB k x s && !(k == 0))
def Cl.good (c : Cl) : Bool := clGoodB c.ky c.k c.x c.s
def clLt (a b : Cl) : Bool := ltB a.ky.data.toList b.ky.data.toList
noncomputable def goodCls (l : List Cl) : Bool := goodLs Cl.good clLt l
def clB (c : Cl) : List UInt8 := textB c.ky.data.toList ++ valB c.k c.x c.s.data.toList
abbrev clNo : Cl := ⟨⟨#[]⟩, 0, 0, ⟨#[]⟩⟩
/-- A cell, taken. -/
def takeClB (b : List UInt8) : Cl × Nat :=
  if (takeTextB b 20).2 = 0 ∨ (takeValB (b.drop (takeTextB b 20).2)).2 = 0 then (clNo, 0)
  else (⟨⟨(takeTextB b 20).1.toArray⟩, (takeValB (b.drop (takeTextB b 20).2)).1.1, (takeValB (b.drop (takeTextB b 20).2)).1.2.1, ⟨(takeValB (b.drop (takeTextB b 20).2)).1.2.2.toArray⟩⟩, (takeTextB b 20).2 + (takeValB (b.drop (takeTextB b 20).2)).2)
theorem cl_in {c : Cl} (h : c.good = true) : (1 ≤ c.ky.size ∧ c.ky.size ≤ 20) ∧ (c.k = 1 ∨ c.k = 2) ∧ c.s.size ≤ 40 ∧ keyB c.ky.data.toList = true ∧ goodB c.k c.x c.s = true := by
  unfold Cl.good clGoodB at h
  simp only [Bool.and_eq_true, Bool.not_eq_true', beq_eq_false_iff_ne] at h
  obtain ⟨h1, h2, h3⟩ := h
  have h4 := (keyB_all h1).2
  have h5 : c.ky.data.toList.length = c.ky.size := Array.length_toList
  have h6 := goodB_in h2
  exact ⟨by omega, by omega, h6.2, h1, h2⟩
theorem ba_list (s : ByteArray) : (⟨s.data.toList.toArray⟩ : ByteArray) = s := by
  obtain ⟨d⟩ := s
  simp
theorem text_pos (s : List UInt8) : 1 ≤ (textB s).length := by unfold textB; rw [List.length_append, numB_len]; omega
theorem val_pos {k n : Int} {s : ByteArray} (h : goodB k n s = true) : 1 ≤ (valB k n s.data.toList).length := by
  rcases (goodB_in h).1 with rfl | rfl | rfl
  · rw [valB_0, numB_len]; omega
  · rw [valB_1, List.length_append, numB_len]; omega
  · rw [valB_2, List.length_append, numB_len]; omega
theorem take_cl {c : Cl} (h : c.good = true) (hf : c.fits) : PutG takeClB clB c := by
  intro r
  obtain ⟨h1, h2, h3, h4, h5⟩ := cl_in h
  have hk : c.ky.data.toList.length = c.ky.size := Array.length_toList
  have ht : takeTextB (clB c ++ r) 20 = (c.ky.data.toList, (textB c.ky.data.toList).length) := by
    unfold clB
    rw [List.append_assoc]
    exact take_text _ (by omega) (by omega)
  have hd : (clB c ++ r).drop (textB c.ky.data.toList).length = valB c.k c.x c.s.data.toList ++ r := by
    unfold clB
    rw [List.append_assoc, List.drop_left]
  have hv := take_val (k := c.k) (n := c.x) (s := c.s) r h5 hf.2.2.1 hf.2.2.2
  have p1 := text_pos c.ky.data.toList
  have p2 := val_pos h5
  unfold takeClB
  rw [ht]
  dsimp only
  rw [hd, hv]
  dsimp only
  rw [if_neg (by omega), ba_list, ba_list]
  unfold clB
  rw [List.length_append]
theorem clB_pos {c : Cl} (_h : c.good = true) : (clB c).length ≠ 0 := by
  have := text_pos c.ky.data.toList
  unfold clB
  rw [List.length_append]
  omega
theorem takeCl_le (b : List UInt8) : (takeClB b).2 ≤ b.length := by
  unfold takeClB
  split
  · exact Nat.zero_le _
  · have h1 := takeText_le b 20
    have h2 := takeVal_le (b.drop (takeTextB b 20).2)
    rw [List.length_drop] at h2
    dsimp only
    omega
theorem takeCl_two (b : List UInt8) (h : (takeClB b).2 ≠ 0) : 2 ≤ (takeClB b).2 := by
  unfold takeClB at h ⊢
  split at h
  · exact absurd rfl h
  · rename_i h1
    rw [if_neg h1]
    dsimp only
    omega
/-- A reader's step. -/
def clStep (st : Rest) : Cl × Rest := (⟨⟨(textOf st 20).1.toArray⟩, (valOf (textOf st 20).2).1.1, (valOf (textOf st 20).2).1.2.1, ⟨(valOf (textOf st 20).2).1.2.2.toArray⟩⟩, (valOf (textOf st 20).2).2)
theorem clStep_is : StepG takeClB clStep := by
  intro b
  have ht : textOf (some b) 20 = if (takeTextB b 20).2 = 0 then ([], none) else ((takeTextB b 20).1, some (b.drop (takeTextB b 20).2)) := rfl
  unfold takeClB clStep
  by_cases h0 : (takeTextB b 20).2 = 0
  · rw [if_pos h0] at ht
    rw [if_pos (.inl h0), ht]
    exact ⟨fun _ => rfl, fun h => absurd rfl h⟩
  · rw [if_neg h0] at ht
    have hv : valOf (some (b.drop (takeTextB b 20).2)) = if (takeValB (b.drop (takeTextB b 20).2)).2 = 0 then ((0, 0, []), none) else ((takeValB (b.drop (takeTextB b 20).2)).1, some ((b.drop (takeTextB b 20).2).drop (takeValB (b.drop (takeTextB b 20).2)).2)) := rfl
    rw [ht]
    dsimp only
    by_cases h1 : (takeValB (b.drop (takeTextB b 20).2)).2 = 0
    · rw [if_pos h1] at hv
      rw [if_pos (.inr h1), hv]
      exact ⟨fun _ => rfl, fun h => absurd rfl h⟩
    · rw [if_neg h1] at hv
      rw [if_neg (by omega), hv]
      dsimp only
      rw [List.drop_drop]
      exact ⟨fun h => absurd h (by omega), fun _ => rfl⟩

/-! A line. -/
structure Ln where
  pl : Int
  w : Wr
abbrev lnI (pl dev seq K : Int) (ky : ByteArray) (ka na : Int) (sa : ByteArray) (kb nb : Int) (sb : ByteArray) : Array Value :=
  #[.int .i64 pl, .int .i64 dev, .int .i64 seq, .int .i64 K, .string ky, .int .i64 ka, .int .i64 na, .string sa, .int .i64 kb, .int .i64 nb, .string sb]
abbrev Ln.cells (x : Ln) : Array Value := lnI x.pl x.w.dev x.w.seq x.w.K x.w.ky x.w.ka x.w.na x.w.sa x.w.kb x.w.nb x.w.sb
def Ln.fits (x : Ln) : Prop := x.w.fits
def plB (pl : Int) : Bool := decide (0 ≤ pl ∧ pl ≤ 4095)
def Ln.good (x : Ln) : Bool := plB x.pl && x.w.good
def lnLt (a b : Ln) : Bool := decide (a.pl < b.pl)
noncomputable def goodLns (l : List Ln) : Bool := goodLs Ln.good lnLt l
def lnB (x : Ln) : List UInt8 := numB x.pl.toNat ++ wB x.w
abbrev lnNo : Ln := ⟨0, wrNo⟩
/-- A line, taken. -/
noncomputable def takeLnB (b : List UInt8) : Ln × Nat :=
  if (takeNum b 4095).2 = 0 ∨ (takeWrB (b.drop (takeNum b 4095).2)).2 = 0 then (lnNo, 0)
  else (⟨((takeNum b 4095).1 : Int), (takeWrB (b.drop (takeNum b 4095).2)).1⟩, (takeNum b 4095).2 + (takeWrB (b.drop (takeNum b 4095).2)).2)
theorem ln_in {x : Ln} (h : x.good = true) : (0 ≤ x.pl ∧ x.pl ≤ 4095) ∧ x.w.good = true := by
  unfold Ln.good plB at h
  simp only [Bool.and_eq_true, decide_eq_true_eq] at h
  exact h
theorem wB_pos (x : Wr) : 1 ≤ (wB x).length := by
  unfold wB wrB
  simp only [List.length_append, numB_len]
  omega
theorem take_ln {x : Ln} (h : x.good = true) (hf : x.fits) : PutG takeLnB lnB x := by
  intro r
  obtain ⟨h1, h2⟩ := ln_in h
  have ht : takeNum (lnB x ++ r) 4095 = (x.pl.toNat, (numB x.pl.toNat).length) := by
    unfold lnB
    rw [List.append_assoc]
    exact take_num _ (by omega) (by omega)
  have hd : (lnB x ++ r).drop (numB x.pl.toNat).length = wB x.w ++ r := by
    unfold lnB
    rw [List.append_assoc, List.drop_left]
  have hw := take_wr r h2 hf
  have p1 := numB_len x.pl.toNat
  have p2 := wB_pos x.w
  unfold takeLnB
  rw [ht]
  dsimp only
  rw [hd, hw]
  dsimp only
  rw [if_neg (by omega), Int.toNat_of_nonneg h1.1]
  unfold lnB
  rw [List.length_append]
theorem lnB_pos (x : Ln) : (lnB x).length ≠ 0 := by
  have := wB_pos x.w
  unfold lnB
  rw [List.length_append]
  omega
theorem takeLn_le (b : List UInt8) : (takeLnB b).2 ≤ b.length := by
  unfold takeLnB
  split
  · exact Nat.zero_le _
  · have h1 := (takeNum_lt b 4095).2.2.2
    have h2 := takeWr_le (b.drop (takeNum b 4095).2)
    rw [List.length_drop] at h2
    dsimp only
    omega
noncomputable def lnStep (st : Rest) : Ln × Rest := (⟨((numOf st 4095).1 : Int), (wrOf (numOf st 4095).2).1⟩, (wrOf (numOf st 4095).2).2)
theorem lnStep_is : StepG takeLnB lnStep := by
  intro b
  have ht : numOf (some b) 4095 = if (takeNum b 4095).2 = 0 then (0, none) else ((takeNum b 4095).1, some (b.drop (takeNum b 4095).2)) := rfl
  unfold takeLnB lnStep
  by_cases h0 : (takeNum b 4095).2 = 0
  · rw [if_pos h0] at ht
    rw [if_pos (.inl h0), ht]
    exact ⟨fun _ => rfl, fun h => absurd rfl h⟩
  · rw [if_neg h0] at ht
    have hv : wrOf (some (b.drop (takeNum b 4095).2)) = if (takeWrB (b.drop (takeNum b 4095).2)).2 = 0 then (wrNo, none) else ((takeWrB (b.drop (takeNum b 4095).2)).1, some ((b.drop (takeNum b 4095).2).drop (takeWrB (b.drop (takeNum b 4095).2)).2)) := rfl
    rw [ht]
    dsimp only
    by_cases h1 : (takeWrB (b.drop (takeNum b 4095).2)).2 = 0
    · rw [if_pos h1] at hv
      rw [if_pos (.inr h1), hv]
      exact ⟨fun _ => rfl, fun h => absurd rfl h⟩
    · rw [if_neg h1] at hv
      rw [if_neg (by omega), hv]
      dsimp only
      rw [List.drop_drop]
      exact ⟨fun h => absurd h (by omega), fun _ => rfl⟩

/-! A prefix. -/
theorem take_pre {s : List UInt8} (h : s.length ≤ 20) : PutG (fun b => takeTextB b 20) textB s := fun r => take_text r (by omega) h
theorem preStep_is : StepG (fun b => takeTextB b 20) (fun st => textOf st 20) := by
  intro b
  have ht : textOf (some b) 20 = if (takeTextB b 20).2 = 0 then ([], none) else ((takeTextB b 20).1, some (b.drop (takeTextB b 20).2)) := rfl
  dsimp only
  by_cases h0 : (takeTextB b 20).2 = 0
  · rw [if_pos h0] at ht
    rw [ht]
    exact ⟨fun _ => rfl, fun h => absurd h0 h⟩
  · rw [if_neg h0] at ht
    rw [ht]
    exact ⟨fun h => absurd h h0, fun _ => rfl⟩

/-! Lasts: twelve numbers. -/
abbrev lastsI (l : List Int) : Array Value := (l.map (Value.int .i64)).toArray
def goodLa (l : List Int) : Bool := l.all (fun x => decide (0 ≤ x ∧ x ≤ 40)) && (l.head? == some 0)
def laB (l : List Int) : List UInt8 := l.flatMap fun x => numB x.toNat
abbrev takeLa1 (b : List UInt8) : Nat × Nat := takeNum b 40
open Classical in
noncomputable def takeLaB (b : List UInt8) : List Int × Nat :=
  if StdG takeLa1 b 0 12 ∧ (nthG takeLa1 b 0 0).1 = 0 then ((listG takeLa1 b 0 12).map Int.ofNat, posG takeLa1 b 0 12) else (List.replicate 12 0, 0)
end Go.Proofs.Ytokkmofcijfmiab
