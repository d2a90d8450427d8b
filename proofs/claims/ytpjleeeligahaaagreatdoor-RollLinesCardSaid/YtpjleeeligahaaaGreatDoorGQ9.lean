/-
  WHAT IS PROVED: plain facts and words for cells, lasts and lines: their cells in memory, when they are good, their bytes, what is taken of bytes; what is put is taken again. No program is spoken of. · words for slices of structs (own work): a slice that reads as a list of elements of so many cells each, nil let in; one that the call owns; append of one element onto such a row. Over any program that bears the types named. · package pack's own calls that put values and writes behind other bytes (putValue, putWrite): the document's bytes. Conditions: those typed in each theorem. · package pack's calls that put things behind other bytes (Number, Int, Text, Flag, Value, Write, Writes): the document's bytes, and what was handed in stays. Conditions: those typed in each theorem.
-/
import Derived.Test.YtpjleeeligahaaaGreatDoorGQ6
import Derived.Test.YtpjleeeligahaaaGreatDoorGQ7
import Derived.Test.YtpjleeeligahaaaGreatDoorGQ8
import Derived.Test.YtpjleeeligahaaaGreatDoorGQ0
import Derived.Test.YtpjleeeligahaaaGreatDoorGQ1
import Derived.Test.YtpjleeeligahaaaGreatDoorGQ5
import Derived.Test.YtpjleeeligahaaaGreatDoorGQ2
namespace Go.Proofs.YtpjleeeligahaaaGreatDoor
open Go.RowKit

/-! Lists each of which is good, and ahead of the next. -/
section
variable {α : Type}
def GoodAt (good : α → Bool) (lt : α → α → Bool) (l : List α) (i : Nat) : Prop := ∀ x, l[i]? = some x → good x = true ∧ ∀ y, 0 < i → l[i - 1]? = some y → lt y x = true
open Classical in
noncomputable def goodLs (good : α → Bool) (lt : α → α → Bool) (l : List α) : Bool := decide (∀ i, GoodAt good lt l i)
open Classical in
theorem goodLs_yes {good : α → Bool} {lt : α → α → Bool} {l : List α} (h : ∀ i, i < l.length → GoodAt good lt l i) : goodLs good lt l = true := by
  unfold goodLs
  rw [decide_eq_true_eq]
  intro i x hx
  exact h i (List.getElem?_eq_some_iff.1 hx).1 x hx
open Classical in
theorem goodLs_no {good : α → Bool} {lt : α → α → Bool} {l : List α} {i : Nat} {x : α} (hx : l[i]? = some x) (h : good x = false ∨ ∃ y, 0 < i ∧ l[i - 1]? = some y ∧ lt y x = false) : goodLs good lt l = false := by
  unfold goodLs
  rw [decide_eq_false_iff_not]
  intro hall
  obtain ⟨h1, h2⟩ := hall i x hx
  rcases h with h | ⟨y, h0, hy, h⟩
  · rw [h] at h1
    cases h1
  · rw [h2 y h0 hy] at h
    cases h
open Classical in
theorem goodLs_mem {good : α → Bool} {lt : α → α → Bool} {l : List α} (h : goodLs good lt l = true) {x : α} (hx : x ∈ l) : good x = true := by
  unfold goodLs at h
  rw [decide_eq_true_eq] at h
  obtain ⟨i, hi⟩ := List.getElem?_of_mem hx
  exact (h i x hi).1
end

/-! A cell. -/
structure Cl where
  ky : ByteArray
  k : Int
  x : Int
  s : ByteArray
abbrev clI (ky : ByteArray) (k x : Int) (s : ByteArray) : Array Value := #[.string ky, .int .i64 k, .int .i64 x, .string s]
abbrev Cl.cells (c : Cl) : Array Value := clI c.ky c.k c.x c.s
def Cl.fits (c : Cl) : Prop := c.ky.size ≤ maxLen ∧ c.s.size ≤ maxLen ∧ -9223372036854775808 ≤ c.x ∧ c.x ≤ 9223372036854775807
def clGoodB (ky : ByteArray) (k x : Int) (s : ByteArray) : Bool := keyB ky.data.toList && (goodB k x s && !(k == 0))
def Cl.good (c : Cl) : Bool := clGoodB c.ky c.k c.x c.s
def clLt (a b : Cl) : Bool := ltB a.ky.data.toList b.ky.data.toList
noncomputable def goodCls (l : List Cl) : Bool := goodLs Cl.good clLt l
def clB (c : Cl) : List UInt8 := textB c.ky.data.toList ++ valB c.k c.x c.s.data.toList
abbrev clNo : Cl := ⟨⟨#[]⟩, 0, 0, ⟨#[]⟩⟩
/-- A cell, taken. -/
def takeClB (b : List UInt8) : Cl × Nat :=
  if (takeTextB b 20).2 = 0 ∨ (takeValB (b.drop (takeTextB b 20).2)).2 = 0 then (clNo, 0)
  else (⟨⟨(takeTextB b 20).1.toArray⟩, (takeValB (b.drop (takeTextB b 20).2)).1.1, (takeValB (b.drop (takeTextB b 20).2)).1.2.1, ⟨(takeValB (b.drop (takeTextB b 20).2)).1.2.2.toArray⟩⟩, (takeTextB b 20).2 + (takeValB (b.drop (takeTextB b 20).2)).2)
theorem cl_in {c : Cl} (h : c.good = true) : (1 ≤ c.ky.size ∧ c.ky.size ≤ 20) ∧ (c.k = 1 ∨ c.k = 2) ∧ c.s.size ≤ 40 ∧ keyB c.ky.data.toList = true ∧ goodB c.k c.x c.s = true := by
  unfold Cl.good clGoodB at h
  simp only [Bool.and_eq_true, Bool.not_eq_true', beq_eq_false_iff_ne] at h
  obtain ⟨h1, h2, h3⟩ := h
  have h4 := (keyB_all h1).2
  have h5 : c.ky.data.toList.length = c.ky.size := Array.length_toList
  have h6 := goodB_in h2
  exact ⟨by omega, by omega, h6.2, h1, h2⟩
theorem ba_list (s : ByteArray) : (⟨s.data.toList.toArray⟩ : ByteArray) = s := by
  obtain ⟨d⟩ := s
  simp
theorem text_pos (s : List UInt8) : 1 ≤ (textB s).length := by unfold textB; rw [List.length_append, numB_len]; omega
theorem val_pos {k n : Int} {s : ByteArray} (h : goodB k n s = true) : 1 ≤ (valB k n s.data.toList).length := by
  rcases (goodB_in h).1 with rfl | rfl | rfl
  · rw [valB_0, numB_len]; omega
  · rw [valB_1, List.length_append, numB_len]; omega
  · rw [valB_2, List.length_append, numB_len]; omega
theorem take_cl {c : Cl} (h : c.good = true) (hf : c.fits) : PutG takeClB clB c := by
  intro r
  obtain ⟨h1, h2, h3, h4, h5⟩ := cl_in h
  have hk : c.ky.data.toList.length = c.ky.size := Array.length_toList
  have ht : takeTextB (clB c ++ r) 20 = (c.ky.data.toList, (textB c.ky.data.toList).length) := by
    unfold clB
    rw [List.append_assoc]
    exact take_text _ (by omega) (by omega)
  have hd : (clB c ++ r).drop (textB c.ky.data.toList).length = valB c.k c.x c.s.data.toList ++ r := by
    unfold clB
    rw [List.append_assoc, List.drop_left]
  have hv := take_val (k := c.k) (n := c.x) (s := c.s) r h5 hf.2.2.1 hf.2.2.2
  have p1 := text_pos c.ky.data.toList
  have p2 := val_pos h5
  unfold takeClB
  rw [ht]
  dsimp only
  rw [hd, hv]
  dsimp only
  rw [if_neg (by omega), ba_list, ba_list]
  unfold clB
  rw [List.length_append]
theorem clB_pos {c : Cl} (_h : c.good = true) : (clB c).length ≠ 0 := by
  have := text_pos c.ky.data.toList
  unfold clB
  rw [List.length_append]
  omega
theorem takeCl_le (b : List UInt8) : (takeClB b).2 ≤ b.length := by
  unfold takeClB
  split
  · exact Nat.zero_le _
  · have h1 := takeText_le b 20
    have h2 := takeVal_le (b.drop (takeTextB b 20).2)
    rw [List.length_drop] at h2
    dsimp only
    omega
theorem takeCl_two (b : List UInt8) (h : (takeClB b).2 ≠ 0) : 2 ≤ (takeClB b).2 := by
  unfold takeClB at h ⊢
  split at h
  · exact absurd rfl h
  · rename_i h1
    rw [if_neg h1]
    dsimp only
    omega
/-- A reader's step. -/
def clStep (st : Rest) : Cl × Rest := (⟨⟨(textOf st 20).1.toArray⟩, (valOf (textOf st 20).2).1.1, (valOf (textOf st 20).2).1.2.1, ⟨(valOf (textOf st 20).2).1.2.2.toArray⟩⟩, (valOf (textOf st 20).2).2)
theorem clStep_is : StepG takeClB clStep := by
  intro b
  have ht : textOf (some b) 20 = if (takeTextB b 20).2 = 0 then ([], none) else ((takeTextB b 20).1, some (b.drop (takeTextB b 20).2)) := rfl
  unfold takeClB clStep
  by_cases h0 : (takeTextB b 20).2 = 0
  · rw [if_pos h0] at ht
    rw [if_pos (.inl h0), ht]
    exact ⟨fun _ => rfl, fun h => absurd rfl h⟩
  · rw [if_neg h0] at ht
    have hv : valOf (some (b.drop (takeTextB b 20).2)) = if (takeValB (b.drop (takeTextB b 20).2)).2 = 0 then ((0, 0, []), none) else ((takeValB (b.drop (takeTextB b 20).2)).1, some ((b.drop (takeTextB b 20).2).drop (takeValB (b.drop (takeTextB b 20).2)).2)) := rfl
    rw [ht]
    dsimp only
    by_cases h1 : (takeValB (b.drop (takeTextB b 20).2)).2 = 0
    · rw [if_pos h1] at hv
      rw [if_pos (.inr h1), hv]
      exact ⟨fun _ => rfl, fun h => absurd rfl h⟩
    · rw [if_neg h1] at hv
      rw [if_neg (by omega), hv]
      dsimp only
      rw [List.drop_drop]
      exact ⟨fun h => absurd h (by omega), fun _ => rfl⟩

/-! A line. -/
structure Ln where
  pl : Int
  w : Wr
abbrev lnI (pl dev seq K : Int) (ky : ByteArray) (ka na : Int) (sa : ByteArray) (kb nb : Int) (sb : ByteArray) : Array Value :=
  #[.int .i64 pl, .int .i64 dev, .int .i64 seq, .int .i64 K, .string ky, .int .i64 ka, .int .i64 na, .string sa, .int .i64 kb, .int .i64 nb, .string sb]
abbrev Ln.cells (x : Ln) : Array Value := lnI x.pl x.w.dev x.w.seq x.w.K x.w.ky x.w.ka x.w.na x.w.sa x.w.kb x.w.nb x.w.sb
def Ln.fits (x : Ln) : Prop := x.w.fits
def plB (pl : Int) : Bool := decide (0 ≤ pl ∧ pl ≤ 4095)
def Ln.good (x : Ln) : Bool := plB x.pl && x.w.good
def lnLt (a b : Ln) : Bool := decide (a.pl < b.pl)
noncomputable def goodLns (l : List Ln) : Bool := goodLs Ln.good lnLt l
def lnB (x : Ln) : List UInt8 := numB x.pl.toNat ++ wB x.w
abbrev lnNo : Ln := ⟨0, wrNo⟩
/-- A line, taken. -/
noncomputable def takeLnB (b : List UInt8) : Ln × Nat :=
  if (takeNum b 4095).2 = 0 ∨ (takeWrB (b.drop (takeNum b 4095).2)).2 = 0 then (lnNo, 0)
  else (⟨((takeNum b 4095).1 : Int), (takeWrB (b.drop (takeNum b 4095).2)).1⟩, (takeNum b 4095).2 + (takeWrB (b.drop (takeNum b 4095).2)).2)
theorem ln_in {x : Ln} (h : x.good = true) : (0 ≤ x.pl ∧ x.pl ≤ 4095) ∧ x.w.good = true := by
  unfold Ln.good plB at h
  simp only [Bool.and_eq_true, decide_eq_true_eq] at h
  exact h
theorem wB_pos (x : Wr) : 1 ≤ (wB x).length := by
  unfold wB wrB
  simp only [List.length_append, numB_len]
  omega
theorem take_ln {x : Ln} (h : x.good = true) (hf : x.fits) : PutG takeLnB lnB x := by
  intro r
  obtain ⟨h1, h2⟩ := ln_in h
  have ht : takeNum (lnB x ++ r) 4095 = (x.pl.toNat, (numB x.pl.toNat).length) := by
    unfold lnB
    rw [List.append_assoc]
    exact take_num _ (by omega) (by omega)
  have hd : (lnB x ++ r).drop (numB x.pl.toNat).length = wB x.w ++ r := by
    unfold lnB
    rw [List.append_assoc, List.drop_left]
  have hw := take_wr r h2 hf
  have p1 := numB_len x.pl.toNat
  have p2 := wB_pos x.w
  unfold takeLnB
  rw [ht]
  dsimp only
  rw [hd, hw]
  dsimp only
  rw [if_neg (by omega), Int.toNat_of_nonneg h1.1]
  unfold lnB
  rw [List.length_append]
theorem lnB_pos (x : Ln) : (lnB x).length ≠ 0 := by
  have := wB_pos x.w
  unfold lnB
  rw [List.length_append]
  omega
theorem takeLn_le (b : List UInt8) : (takeLnB b).2 ≤ b.length := by
  unfold takeLnB
  split
  · exact Nat.zero_le _
  · have h1 := (takeNum_lt b 4095).2.2.2
    have h2 := takeWr_le (b.drop (takeNum b 4095).2)
    rw [List.length_drop] at h2
    dsimp only
    omega
noncomputable def lnStep (st : Rest) : Ln × Rest := (⟨((numOf st 4095).1 : Int), (wrOf (numOf st 4095).2).1⟩, (wrOf (numOf st 4095).2).2)
theorem lnStep_is : StepG takeLnB lnStep := by
  intro b
  have ht : numOf (some b) 4095 = if (takeNum b 4095).2 = 0 then (0, none) else ((takeNum b 4095).1, some (b.drop (takeNum b 4095).2)) := rfl
  unfold takeLnB lnStep
  by_cases h0 : (takeNum b 4095).2 = 0
  · rw [if_pos h0] at ht
    rw [if_pos (.inl h0), ht]
    exact ⟨fun _ => rfl, fun h => absurd rfl h⟩
  · rw [if_neg h0] at ht
    have hv : wrOf (some (b.drop (takeNum b 4095).2)) = if (takeWrB (b.drop (takeNum b 4095).2)).2 = 0 then (wrNo, none) else ((takeWrB (b.drop (takeNum b 4095).2)).1, some ((b.drop (takeNum b 4095).2).drop (takeWrB (b.drop (takeNum b 4095).2)).2)) := rfl
    rw [ht]
    dsimp only
    by_cases h1 : (takeWrB (b.drop (takeNum b 4095).2)).2 = 0
    · rw [if_pos h1] at hv
      rw [if_pos (.inr h1), hv]
      exact ⟨fun _ => rfl, fun h => absurd rfl h⟩
    · rw [if_neg h1] at hv
      rw [if_neg (by omega), hv]
      dsimp only
      rw [List.drop_drop]
      exact ⟨fun h => absurd h (by omega), fun _ => rfl⟩

/-! A prefix. -/
theorem take_pre {s : List UInt8} (h : s.length ≤ 20) : PutG (fun b => takeTextB b 20) textB s := fun r => take_text r (by omega) h
theorem preStep_is : StepG (fun b => takeTextB b 20) (fun st => textOf st 20) := by
  intro b
  have ht : textOf (some b) 20 = if (takeTextB b 20).2 = 0 then ([], none) else ((takeTextB b 20).1, some (b.drop (takeTextB b 20).2)) := rfl
  dsimp only
  by_cases h0 : (takeTextB b 20).2 = 0
  · rw [if_pos h0] at ht
    rw [ht]
    exact ⟨fun _ => rfl, fun h => absurd h0 h⟩
  · rw [if_neg h0] at ht
    rw [ht]
    exact ⟨fun h => absurd h h0, fun _ => rfl⟩

/-! Lasts: twelve numbers. -/
abbrev lastsI (l : List Int) : Array Value := (l.map (Value.int .i64)).toArray
def goodLa (l : List Int) : Bool := l.all (fun x => decide (0 ≤ x ∧ x ≤ 40)) && (l.head? == some 0)
def laB (l : List Int) : List UInt8 := l.flatMap fun x => numB x.toNat
abbrev takeLa1 (b : List UInt8) : Nat × Nat := takeNum b 40
open Classical in
noncomputable def takeLaB (b : List UInt8) : List Int × Nat :=
  if StdG takeLa1 b 0 12 ∧ (nthG takeLa1 b 0 0).1 = 0 then ((listG takeLa1 b 0 12).map Int.ofNat, posG takeLa1 b 0 12) else (List.replicate 12 0, 0)
end Go.Proofs.YtpjleeeligahaaaGreatDoor

namespace Go.Proofs.YtpjleeeligahaaaGreatDoor
open Go.RowKit

/-- The cells of elements; are they of z cells each? -/
abbrev celV (l : List (Array Value)) : List Value := l.flatMap (·.toList)
def Szd (z : Nat) (l : List (Array Value)) : Prop := ∀ cs, cs ∈ l → cs.size = z
theorem celV_len {z : Nat} : ∀ (l : List (Array Value)), Szd z l → (celV l).length = l.length * z
  | [], _ => by simp
  | a :: t, h => by
    have h1 := h a (List.mem_cons_self ..)
    have h2 := celV_len t fun cs hc => h cs (List.mem_cons_of_mem _ hc)
    show (a.toList ++ celV t).length = _
    rw [List.length_append, h2, Array.length_toList, h1, List.length_cons, Nat.succ_mul]
    omega
theorem celV_get {z : Nat} : ∀ (l : List (Array Value)), Szd z l → ∀ (k j : Nat) (cs : Array Value) (v : Value), l[k]? = some cs → cs[j]? = some v → (celV l)[k * z + j]? = some v
  | [], _, k, j, cs, v, h, _ => by simp at h
  | a :: t, _, 0, j, cs, v, h, hv => by
    have e : a = cs := by simpa using h
    subst e
    have hj := (Array.getElem?_eq_some_iff.1 hv).1
    show (a.toList ++ celV t)[0 * z + j]? = _
    rw [Nat.zero_mul, Nat.zero_add, List.getElem?_append_left (by rw [Array.length_toList]; exact hj), Array.getElem?_toList]
    exact hv
  | a :: t, hs, k + 1, j, cs, v, h, hv => by
    have h1 := hs a (List.mem_cons_self ..)
    have h2 : t[k]? = some cs := by simpa using h
    have ih := celV_get t (fun cs hc => hs cs (List.mem_cons_of_mem _ hc)) k j cs v h2 hv
    show (a.toList ++ celV t)[(k + 1) * z + j]? = _
    rw [Nat.succ_mul, List.getElem?_append_right (by rw [Array.length_toList, h1]; omega), Array.length_toList, h1, show k * z + z + j - z = k * z + j by omega]
    exact ih
/-- The slice at A reads as the elements l, z cells each, in blocks below B. -/
def RdX (z B : Nat) (W : World) (A : Option Addr) (l : List (Array Value)) : Prop :=
  ∀ k cs, l[k]? = some cs → ∃ ad, A = some ad ∧ ad.block < B ∧ ∀ j v, cs[j]? = some v → W.cell? (ad.add (k * z + j)) = some v
theorem RdX.nil (z B : Nat) (W : World) (A : Option Addr) : RdX z B W A [] := fun k x h => by simp at h
theorem RdX.keep {z B C : Nat} {W W' : World} {A : Option Addr} {l : List (Array Value)} (h : RdX z B W A l) (hb : Below C W W') (hBC : B ≤ C) : RdX z B W' A l := by
  intro k x hx
  obtain ⟨ad, hA, hl, hc⟩ := h k x hx
  exact ⟨ad, hA, hl, fun j v hv => (hb.cell (by rw [add_block]; omega)).trans (hc j v hv)⟩
theorem RdX.more {z B C : Nat} {W : World} {A : Option Addr} {l : List (Array Value)} (h : RdX z B W A l) (hBC : B ≤ C) : RdX z C W A l := by
  intro k x hx
  obtain ⟨ad, hA, hl, hc⟩ := h k x hx
  exact ⟨ad, hA, by omega, hc⟩
theorem RdX.drews {z B : Nat} {W : World} {A : Option Addr} {l : List (Array Value)} (h : RdX z B W A l) (n : Nat) : RdX z B (W.drewN n) A l := h
theorem RdX.grown {z B : Nat} {W W' : World} {A : Option Addr} {l : List (Array Value)} {row : Option Nat} (h : RdX z B W A l) (hg : W.grownBy W' row) (hB : B ≤ W.heap.size) (hne : ∀ a, A = some a → some a.block ≠ row) : RdX z B W' A l := by
  intro k x hx
  obtain ⟨ad, hA, hl, hc⟩ := h k x hx
  exact ⟨ad, hA, hl, fun j v hv => (hg.cell_far _ (by rw [add_block]; omega) (by rw [add_block]; exact hne ad hA)).trans (hc j v hv)⟩
theorem addX_at (a : Addr) (i j : Nat) : a.add (i + (j + 1)) = ⟨(a.add i).block, (a.add i).off + (j + 1), none⟩ := by
  rw [← add_add', Addr.add, if_neg (by omega)]
/-- An element's cells, as a load asks for them. -/
theorem celX {W : World} {ad : Addr} {k z : Nat} {cs : Array Value} (hc : ∀ j v, cs[j]? = some v → W.cell? (ad.add (k * z + j)) = some v) :
    (∀ v, cs[0]? = some v → W.cell? (ad.add (k * z)) = some v) ∧ ∀ j v, cs[j + 1]? = some v → W.cell? ⟨(ad.add (k * z)).block, (ad.add (k * z)).off + (j + 1), none⟩ = some v :=
  ⟨fun v hv => hc 0 v hv, fun j v hv => by rw [← addX_at]; exact hc (j + 1) v hv⟩
/-- A row of elements that the call owns, in blocks from base on. -/
def OwnX (t : TypeId) (z base : Nat) (W : World) (A : Option Addr) (n c : Nat) (l : List (Array Value)) : Prop := W.ownsRow base t z (.slice A n c) n (celV l) ∧ Szd z l ∧ l.length = n
theorem OwnX.nil (t : TypeId) (z base : Nat) (W : World) : OwnX t z base W none 0 0 [] := ⟨World.ownsRow_nil W base t z, fun _ h => by simp at h, rfl⟩
theorem OwnX.len {t : TypeId} {z base : Nat} {W : World} {A : Option Addr} {n c : Nat} {l : List (Array Value)} (h : OwnX t z base W A n c l) : l.length = n := h.2.2
theorem OwnX.rd {t : TypeId} {z base : Nat} {W : World} {A : Option Addr} {n c : Nat} {l : List (Array Value)} (h : OwnX t z base W A n c l) : RdX z W.heap.size W A l := by
  intro k x hx
  have hk := (List.getElem?_eq_some_iff.1 hx).1
  have hl := h.len
  obtain ⟨g, cap, hv, _, hlt⟩ := World.ownsRow.form h.1 (by omega)
  injection hv with hv
  subst hv
  exact ⟨_, rfl, hlt, fun j v hj => h.1.cells (g := g) rfl _ _ (celV_get l h.2.1 k j x v hx hj)⟩
theorem OwnX.cap {t : TypeId} {z base : Nat} {W : World} {A : Option Addr} {n c : Nat} {l : List (Array Value)} (h : OwnX t z base W A n c l) : n ≤ c ∧ c ≤ maxLen := by
  rcases h.1.2 with ⟨hv, _⟩ | ⟨g, cap, cur, hv, _, _, h1, h2, _⟩
  · injection hv with _ h1 h2
    subst h2
    rw [h1]
    exact ⟨Nat.le_refl _, Nat.zero_le _⟩
  · injection hv with _ _ h3
    subst h3
    exact ⟨h1, h2⟩
theorem OwnX.blk {t : TypeId} {z base : Nat} {W : World} {A : Option Addr} {n c : Nat} {l : List (Array Value)} (h : OwnX t z base W A n c l) {a : Addr} (ha : A = some a) : base ≤ a.block ∧ a.block < W.heap.size := by
  subst ha
  exact World.ownsRow.lt h.1 a.block rfl
theorem OwnX.keep {t : TypeId} {z base : Nat} {W W' : World} {A : Option Addr} {n c : Nat} {l : List (Array Value)} (h : OwnX t z base W A n c l) (hb : Below W.heap.size W W') : OwnX t z base W' A n c l :=
  ⟨World.ownsRow.kept h.1 (row := none) ⟨hb.os, hb.tape, hb.output, hb.size, fun k hk _ => hb.block k hk⟩ (by cases A <;> simp [Value.ownBlock]), h.2⟩
theorem OwnX.keepG {t : TypeId} {z base : Nat} {W W' : World} {A : Option Addr} {n c : Nat} {l : List (Array Value)} {g : Nat} (h : OwnX t z base W A n c l) (hg : W.grownBy W' (some g)) (hlt : g < base) : OwnX t z base W' A n c l := by
  refine ⟨World.ownsRow.kept h.1 hg ?_, h.2⟩
  cases A with
  | none => simp [Value.ownBlock]
  | some a =>
    have := World.ownsRow.lt h.1 a.block rfl
    right
    intro e
    simp only [Value.ownBlock, Option.some.injEq] at e
    omega
theorem OwnX.less {t : TypeId} {z base b2 : Nat} {W : World} {A : Option Addr} {n c : Nat} {l : List (Array Value)} (h : OwnX t z base W A n c l) (hb : b2 ≤ base) : OwnX t z b2 W A n c l := by
  refine ⟨⟨h.1.1, ?_⟩, h.2⟩
  rcases h.1.2 with h | ⟨g, cap, cur, h1, h2, h3⟩
  · exact .inl h
  · exact .inr ⟨g, cap, cur, h1, by omega, h3⟩
/-- Append of one element onto a row of the call's own. -/
theorem run_apX {P : Program} (w : World) {t t' e' ty el : TypeId} {i : TypeInfo} {z y : Nat} {zv : Value} (ht : P.underlying t = some (.slice el)) (ht' : P.underlying t' = some (.slice e')) (hi : P.info? el = some i) (hz : i.zero = some zv) (hs : i.size = z) (hy : i.bytes = y) (hzs : zv.cells.size = z) (hz0 : 0 < z) (hy0 : y ≤ 1000)
    {base : Nat} {A : Option Addr} {ad : Addr} {n c d : Nat} {l : List (Array Value)} {x : Array Value} (hown : OwnX el z base w A n c l) (hx : x.size = z) (h1 : ∀ u ∈ x.toList, u.oneCell' = true) (hr : ∀ j v, x[j]? = some v → w.cell? (ad.add j) = some v) (hsz : n ≤ 1000000000) (hbase : base ≤ w.heap.size) :
    ∃ A' c' w', (Builtin.append_ #[t, t'] ty #[.slice A n c, .slice (some ad) 1 d]).run P w = .ok (.slice A' (n + 1) c') w' ∧ OwnX el z base w' A' (n + 1) c' (l ++ [x]) ∧ Below base w w' := by
  obtain ⟨v', w', hrun, h2, h3, _, _⟩ := run_append_own_at (P := P) w base t ty el i zv z y ht hi hz hs hy hzs hz0 (.slice A n c) n (celV l) hown.1 ad 1 d x.toList (by rw [Array.length_toList, hx, Nat.one_mul]) (fun j u hu => hr j u (by rw [← Array.getElem?_toList]; exact hu)) h1
    (by unfold maxLen; omega) (Nat.le_trans (Nat.mul_le_mul (show n + 1 ≤ 1000000001 by omega) hy0) (by omega)) hbase
  have hb : Below base w w' := (Below.refl base w).grown h3 hbase (fun k hk => (World.ownsRow.lt hown.1 k hk).1)
  have hv : ∃ A' c', v' = .slice A' (n + 1) c' := by
    rcases h2.2 with ⟨_, e2⟩ | ⟨g, cap, cur, e1, _⟩
    · omega
    · exact ⟨_, _, e1⟩
  obtain ⟨A', c', rfl⟩ := hv
  refine ⟨A', c', w', by rw [run_append_tt w ht ht']; exact hrun, ⟨?_, ?_, ?_⟩, hb⟩
  · rw [show celV (l ++ [x]) = celV l ++ x.toList by simp [celV]]
    exact h2
  · intro cs hc
    rcases List.mem_append.1 hc with h | h
    · exact hown.2.1 cs h
    · rw [List.mem_singleton.1 h]
      exact hx
  · rw [List.length_append, hown.2.2]
    rfl
section
variable {P : Program} {w : World} {t t' e' el : TypeId} {i : TypeInfo} {z y : Nat} {zv : Value} {base : Nat} {A : Option Addr} {ad : Addr} {n c d : Nat} {l : List (Array Value)} {xx : Array Value} {o : Oper} {a : Act} {Q : Exit → Act → World → Prop} {ops : Array Oper}
theorem wp_apX {K : Act → World → Prop} (s x : Operand) (ho : o.op = .call { callee := .builtin .append, args := #[s, x], argTypes := #[t, t'] })
    (ht : P.underlying t = some (.slice el)) (ht' : P.underlying t' = some (.slice e')) (hi : P.info? el = some i) (hz : i.zero = some zv) (hs : i.size = z) (hy : i.bytes = y) (hzs : zv.cells.size = z) (hz0 : 0 < z) (hy0 : y ≤ 1000)
    (h1 : a.eval s = .slice A n c) (h2 : a.eval x = .slice (some ad) 1 d) (hown : OwnX el z base w A n c l) (hx : xx.size = z) (hone : ∀ u ∈ xx.toList, u.oneCell' = true) (hr : ∀ j v, xx[j]? = some v → w.cell? (ad.add j) = some v) (hsz : n ≤ 1000000000) (hbase : base ≤ w.heap.size)
    (h : ∀ A' c' w', OwnX el z base w' A' (n + 1) c' (l ++ [xx]) → Below base w w' → K (a.put o.dst (.slice A' (n + 1) c')) w') : o.wp P a w K Q := by
  obtain ⟨A', c', w', hrun, k1, k2⟩ := run_apX (P := P) (ty := o.type) (d := d) w ht ht' hi hz hs hy hzs hz0 hy0 hown hx hone hr hsz hbase
  unfold Oper.wp execOp
  simp only [ho, resolve, invoke, builtin, Sem.run_bind, Sem.run_pure, Result.andThen_ok, List.map_toArray, List.map_cons, List.map_nil, h1, h2, hrun]
  exact h A' c' w' k1 k2
/-- .. in a plain region. -/
theorem wpList_apX {rest : List Oper} (hgd : o.guard = none) (s x : Operand) (ho : o.op = .call { callee := .builtin .append, args := #[s, x], argTypes := #[t, t'] })
    (ht : P.underlying t = some (.slice el)) (ht' : P.underlying t' = some (.slice e')) (hi : P.info? el = some i) (hz : i.zero = some zv) (hs : i.size = z) (hy : i.bytes = y) (hzs : zv.cells.size = z) (hz0 : 0 < z) (hy0 : y ≤ 1000)
    (h1 : a.eval s = .slice A n c) (h2 : a.eval x = .slice (some ad) 1 d) (hown : OwnX el z base w A n c l) (hx : xx.size = z) (hone : ∀ u ∈ xx.toList, u.oneCell' = true) (hr : ∀ j v, xx[j]? = some v → w.cell? (ad.add j) = some v) (hsz : n ≤ 1000000000) (hbase : base ≤ w.heap.size)
    (h : ∀ A' c' w', OwnX el z base w' A' (n + 1) c' (l ++ [xx]) → Below base w w' → wpList P ops Q rest (a.put o.dst (.slice A' (n + 1) c')) w') : wpList P ops Q (o :: rest) a w :=
  wpList_plain hgd fun _ hK => wp_apX s x ho ht ht' hi hz hs hy hzs hz0 hy0 h1 h2 hown hx hone hr hsz hbase fun A' c' w' k1 k2 => hK _ _ (h A' c' w' k1 k2)
/-- .. at a step of a region that draws its order. -/
theorem step_apX {K : Act → World → Prop} {E : Prop} (hgd : o.guard = none) (s x : Operand) (ho : o.op = .call { callee := .builtin .append, args := #[s, x], argTypes := #[t, t'] })
    (ht : P.underlying t = some (.slice el)) (ht' : P.underlying t' = some (.slice e')) (hi : P.info? el = some i) (hz : i.zero = some zv) (hs : i.size = z) (hy : i.bytes = y) (hzs : zv.cells.size = z) (hz0 : 0 < z) (hy0 : y ≤ 1000)
    (h1 : a.eval s = .slice A n c) (h2 : a.eval x = .slice (some ad) 1 d) (hown : OwnX el z base w A n c l) (hx : xx.size = z) (hone : ∀ u ∈ xx.toList, u.oneCell' = true) (hr : ∀ j v, xx[j]? = some v → w.cell? (ad.add j) = some v) (hsz : n ≤ 1000000000) (hbase : base ≤ w.heap.size)
    (h : ∀ A' c' w', OwnX el z base w' A' (n + 1) c' (l ++ [xx]) → Below base w w' → K (a.put o.dst (.slice A' (n + 1) c')) w') :
    if Region.wanted o (yielded ops a.tmps) = true then Oper.wp P o a w K Q else E := by
  have hw : Region.wanted o (yielded ops a.tmps) = true := by simp [Region.wanted, hgd]
  rw [if_pos hw]
  exact wp_apX s x ho ht ht' hi hz hs hy hzs hz0 hy0 h1 h2 hown hx hone hr hsz hbase h
end
/-- A block's cells, as an append asks for them. -/
theorem zeroX_at (g j : Nat) : (Addr.mk g 0 none).add j = Addr.mk g j none := by
  unfold Addr.add
  by_cases h : j = 0
  · rw [if_pos h, h]
  · rw [if_neg h]
    simp
theorem newX (W : World) (x : Array Value) (t : TypeId) : ∀ j v, x[j]? = some v → (W.alloc (.cells x t)).cell? ((⟨W.heap.size, 0, none⟩ : Addr).add j) = some v := by
  intro j v hv
  rw [zeroX_at, (blk_new W x t).cell j]
  exact hv
end Go.Proofs.YtpjleeeligahaaaGreatDoor

namespace Go.Proofs.YtpjleeeligahaaaGreatDoor
open Go.RowKit

theorem put_len {base n : Nat} {W : World} {A : Option Addr} {n2 c2 : Nat} {l m : List UInt8} (hO : OwnB base W A n2 c2 (l ++ m)) (hl : l.length = n) {q : Nat} (hm : m.length ≤ q) : n2 ≤ n + q := by
  have h1 := hO.len
  rw [List.length_append] at h1
  omega
theorem Oth.blk {w w' : World} (h : Oth w w') {b : Nat} {cs : Array Value} {t : TypeId} (ht : t ≠ 5) (hb : Blk w b cs t) : Blk w' b cs t := h b cs t ht hb

set_option maxRecDepth 100000 in
set_option maxHeartbeats 2000000 in
theorem putValue_any (base : Nat) (A : Option Addr) (n c : Nat) (l : List UInt8) (k x : Int) (s : ByteArray) (w : World) (hp : PreB base w A n c l) (hb : base ≤ w.heap.size) (hm : n ≤ 90000000000)
    (hk : k = 0 ∨ k = 1 ∨ k = 2) (h0 : -9223372036854775808 ≤ x) (h1 : x ≤ 9223372036854775807) (hs : s.size ≤ 1000000) :
    Calls Tryz.prog 110 #[.slice A n c, .agg #[.int .i64 k, .int .i64 x, .string s]] w fun e w' => PutO base w (l ++ valB k x s.data.toList) e w' := by
  have H0 := Lib.hid h0
  have H1 := Lib.hid h1
  have hl := hp.len
  clear h0 h1
  rcases hk with rfl | rfl | rfl
  all_goals
    go_enter Tryz.func110, Tryz.ntmps110
    go_wp2_with fail
  · have hC := blk_new w #[.int .i64 0, .int .i64 x, .string s] 43
    have hB := (Below.refl base w).alloc hb (.cells #[.int .i64 0, .int .i64 x, .string s] 43)
    have hp2 := hp.keep (b0 w (.cells #[.int .i64 0, .int .i64 x, .string s] 43))
    have hT := Oth.below (b0 w (.cells #[.int .i64 0, .int .i64 x, .string s] 43))
    clear hp
    generalize w.alloc (.cells #[.int .i64 0, .int .i64 x, .string s] 43) = W at hC hB hp2 hT ⊢
    have hbW := Nat.le_trans hb hB.size
    refine (putNumber_any base A n c l 0 W hp2 hbW (by omega) (by omega)).mono ?_
    rintro e w1 ⟨⟨A2, n2, d2, rfl, hO⟩, hb2, ht2⟩
    obtain ⟨q0, q1, q2, q3⟩ := (ht2.blk (by decide) hC).c3
    go_wp2_with fail
    go_ret
    exact ⟨⟨A2, n2, d2, rfl, by rw [valB_0]; exact hO⟩, hB.trans hb2, hT.trans ht2⟩
  · have hC := blk_new w #[.int .i64 1, .int .i64 x, .string s] 43
    have hB := (Below.refl base w).alloc hb (.cells #[.int .i64 1, .int .i64 x, .string s] 43)
    have hp2 := hp.keep (b0 w (.cells #[.int .i64 1, .int .i64 x, .string s] 43))
    have hT := Oth.below (b0 w (.cells #[.int .i64 1, .int .i64 x, .string s] 43))
    clear hp
    generalize w.alloc (.cells #[.int .i64 1, .int .i64 x, .string s] 43) = W at hC hB hp2 hT ⊢
    have hbW := Nat.le_trans hb hB.size
    refine (putNumber_any base A n c l 1 W hp2 hbW (by omega) (by omega)).mono ?_
    rintro e w1 ⟨⟨A2, n2, d2, rfl, hO⟩, hb2, ht2⟩
    have hC1 := ht2.blk (by decide) hC
    have hn2 := put_len hO hl (numB_small (n := 1) (by omega))
    obtain ⟨q0, q1, q2, q3⟩ := hC1.c3
    go_wp2_with fail
    refine (putInt_any base A2 n2 d2 _ x w1 (.inl hO) (Nat.le_trans hbW hb2.size) (by omega) H0.out H1.out).mono ?_
    rintro e w2 ⟨⟨A3, n3, d3, rfl, hO3⟩, hb3, ht3⟩
    clear q0 q1 q2 q3
    obtain ⟨q0, q1, q2, q3⟩ := (ht3.blk (by decide) hC1).c3
    go_wp2_with fail
    go_ret
    exact ⟨⟨A3, n3, d3, rfl, by rw [valB_1, ← List.append_assoc]; exact hO3⟩, hB.trans (hb2.trans hb3), hT.trans (ht2.trans ht3)⟩
  · have hC := blk_new w #[.int .i64 2, .int .i64 x, .string s] 43
    have hB := (Below.refl base w).alloc hb (.cells #[.int .i64 2, .int .i64 x, .string s] 43)
    have hp2 := hp.keep (b0 w (.cells #[.int .i64 2, .int .i64 x, .string s] 43))
    have hT := Oth.below (b0 w (.cells #[.int .i64 2, .int .i64 x, .string s] 43))
    clear hp
    generalize w.alloc (.cells #[.int .i64 2, .int .i64 x, .string s] 43) = W at hC hB hp2 hT ⊢
    have hbW := Nat.le_trans hb hB.size
    refine (putNumber_any base A n c l 2 W hp2 hbW (by omega) (by omega)).mono ?_
    rintro e w1 ⟨⟨A2, n2, d2, rfl, hO⟩, hb2, ht2⟩
    have hC1 := ht2.blk (by decide) hC
    have hn2 := put_len hO hl (numB_small (n := 2) (by omega))
    obtain ⟨q0, q1, q2, q3⟩ := hC1.c3
    go_wp2_with fail
    refine (putText_any base A2 n2 d2 _ s w1 (.inl hO) (Nat.le_trans hbW hb2.size) (by omega) (by omega)).mono ?_
    rintro e w2 ⟨⟨A3, n3, d3, rfl, hO3⟩, hb3, ht3⟩
    clear q0 q1 q2 q3
    obtain ⟨q0, q1, q2, q3⟩ := (ht3.blk (by decide) hC1).c3
    go_wp2_with fail
    go_ret
    exact ⟨⟨A3, n3, d3, rfl, by rw [valB_2, ← List.append_assoc]; exact hO3⟩, hB.trans (hb2.trans hb3), hT.trans (ht2.trans ht3)⟩

theorem valB_short {k n : Int} {s : ByteArray} (hk : k = 0 ∨ k = 1 ∨ k = 2) (h0 : -9223372036854775808 ≤ n) (h1 : n ≤ 9223372036854775807) (hs : s.size ≤ 1000) : (valB k n s.data.toList).length ≤ 2000000 :=
  Nat.le_trans (valB_small hk h0 h1 (by omega)) (by omega)

set_option maxRecDepth 100000 in
set_option maxHeartbeats 4000000 in
theorem putWrite_any (base : Nat) (A : Option Addr) (n c : Nat) (l : List UInt8) (x : Wr) (w : World) (hp : PreB base w A n c l) (hb : base ≤ w.heap.size) (hm : n ≤ 80000000000) (hg : x.good = true) (hf : x.fits) :
    Calls Tryz.prog 63 #[.slice A n c, .agg x.cells] w fun e w' => PutO base w (l ++ wB x) e w' := by
  obtain ⟨dev, seq, K, ky, ka, na, sa, kb, nb, sb⟩ := x
  obtain ⟨⟨d0, d1⟩, ⟨s0, s1⟩, ⟨k0, k1⟩, hky, ⟨hka, hsa⟩, ⟨hkb, hsb⟩⟩ := good_in hg
  obtain ⟨-, -, -, ⟨fa0, fa1⟩, fb0, fb1⟩ := hf
  dsimp only at d0 d1 s0 s1 k0 k1 hky hka hsa hkb hsb fa0 fa1 fb0 fb1
  have hl := hp.len
  have HA := Lib.hid (And.intro hka (And.intro fa0 fa1))
  have HB := Lib.hid (And.intro hkb (And.intro fb0 fb1))
  clear hka hkb fa0 fa1 fb0 fb1 hg
  have e1 : (dev : Int) = ((dev.toNat : Nat) : Int) := by omega
  have e2 : (seq : Int) = ((seq.toNat : Nat) : Int) := by omega
  have e3 : (K : Int) = ((K.toNat : Nat) : Int) := by omega
  have hE : Hid (l ++ numB dev.toNat ++ numB seq.toNat ++ numB K.toNat ++ textB ky.data.toList ++ valB ka na sa.data.toList ++ valB kb nb sb.data.toList = l ++ wB ⟨dev, seq, K, ky, ka, na, sa, kb, nb, sb⟩) := by
    show _ = _
    unfold wB wrB
    simp only [List.append_assoc]
  generalize hd' : dev.toNat = dv at e1 hE
  generalize hs' : seq.toNat = sq at e2 hE
  generalize hk' : K.toNat = Kn at e3 hE
  clear hd' hs' hk'
  subst e1 e2 e3
  have wd : IntKind.u64.wrap (dv : Int) = (dv : Int) := wrap_size (by omega)
  have wq : IntKind.u64.wrap (sq : Int) = (sq : Int) := wrap_size (by omega)
  have wk : IntKind.u64.wrap (Kn : Int) = (Kn : Int) := wrap_size (by omega)
  go_enter Tryz.func63, Tryz.ntmps63
  go_wp2_with fail
  have hC := blk_new w (wrI dv sq Kn ky ka na sa kb nb sb) 47
  have hB := (Below.refl base w).alloc hb (.cells (wrI dv sq Kn ky ka na sa kb nb sb) 47)
  have hp2 := hp.keep (b0 w (.cells (wrI dv sq Kn ky ka na sa kb nb sb) 47))
  have hT := Oth.below (b0 w (.cells (wrI dv sq Kn ky ka na sa kb nb sb) 47))
  clear hp
  generalize w.alloc (.cells (wrI dv sq Kn ky ka na sa kb nb sb) 47) = W at hC hB hp2 hT ⊢
  have hbW := Nat.le_trans hb hB.size
  generalize w.heap.size = b at hC ⊢
  refine (putNumber_any base A n c l dv W hp2 hbW (by omega) (by omega)).mono ?_
  rintro e w1 ⟨⟨A1, n1, c1, rfl, hO1⟩, hb1, ht1⟩
  have hC1 := ht1.blk (by decide) hC
  have hn1 := put_len hO1 hl (numB_small (n := dv) (by omega))
  have hB1 := hB.trans hb1
  have hT1 := hT.trans ht1
  have hz1 := Nat.le_trans hb hB1.size
  clear hC hp2 hb1 ht1 hB hT hbW hb
  obtain ⟨t0, t1, t2, t3, t4, t5, t6, t7, t8, t9, tl⟩ := blk_c10 hC1
  go_wp2_with fail
  refine (putNumber_any base A1 n1 c1 _ sq w1 (.inl hO1) hz1 (by omega) (by omega)).mono ?_
  rintro e w2 ⟨⟨A2, n2, c2, rfl, hO2⟩, hb2, ht2⟩
  have hC2 := ht2.blk (by decide) hC1
  have hn2 := put_len hO2 hO1.len (numB_small (n := sq) (by omega))
  have hB2 := hB1.trans hb2
  have hT2 := hT1.trans ht2
  have hz2 := Nat.le_trans hz1 hb2.size
  clear t0 t1 t2 t3 t4 t5 t6 t7 t8 t9 tl hC1 hO1 hb2 ht2 hB1 hT1 hz1
  obtain ⟨t0, t1, t2, t3, t4, t5, t6, t7, t8, t9, tl⟩ := blk_c10 hC2
  go_wp2_with fail
  refine (putNumber_any base A2 n2 c2 _ Kn w2 (.inl hO2) hz2 (by omega) (by omega)).mono ?_
  rintro e w3 ⟨⟨A3, n3, c3, rfl, hO3⟩, hb3, ht3⟩
  have hC3 := ht3.blk (by decide) hC2
  have hn3 := put_len hO3 hO2.len (numB_small (n := Kn) (by omega))
  have hB3 := hB2.trans hb3
  have hT3 := hT2.trans ht3
  have hz3 := Nat.le_trans hz2 hb3.size
  clear t0 t1 t2 t3 t4 t5 t6 t7 t8 t9 tl hC2 hO2 hb3 ht3 hB2 hT2 hz2
  obtain ⟨t0, t1, t2, t3, t4, t5, t6, t7, t8, t9, tl⟩ := blk_c10 hC3
  go_wp2_with fail
  refine (putText_any base A3 n3 c3 _ ky w3 (.inl hO3) hz3 (by omega) (by omega)).mono ?_
  rintro e w4 ⟨⟨A4, n4, c4, rfl, hO4⟩, hb4, ht4⟩
  have hC4 := ht4.blk (by decide) hC3
  have hn4 := put_len hO4 hO3.len (textB_small (s := ky) (by omega))
  have hB4 := hB3.trans hb4
  have hT4 := hT3.trans ht4
  have hz4 := Nat.le_trans hz3 hb4.size
  clear t0 t1 t2 t3 t4 t5 t6 t7 t8 t9 tl hC3 hO3 hb4 ht4 hB3 hT3 hz3
  obtain ⟨t0, t1, t2, t3, t4, t5, t6, t7, t8, t9, tl⟩ := blk_c10 hC4
  go_wp2_with fail
  refine (putValue_any base A4 n4 c4 _ ka na sa w4 (.inl hO4) hz4 (by omega) HA.out.1 HA.out.2.1 HA.out.2.2 (by omega)).mono ?_
  rintro e w5 ⟨⟨A5, n5, c5, rfl, hO5⟩, hb5, ht5⟩
  have hC5 := ht5.blk (by decide) hC4
  have hn5 := put_len hO5 hO4.len (valB_short HA.out.1 HA.out.2.1 HA.out.2.2 (show sa.size ≤ 1000 by omega))
  have hB5 := hB4.trans hb5
  have hT5 := hT4.trans ht5
  have hz5 := Nat.le_trans hz4 hb5.size
  clear t0 t1 t2 t3 t4 t5 t6 t7 t8 t9 tl hC4 hO4 hb5 ht5 hB4 hT4 hz4
  obtain ⟨t0, t1, t2, t3, t4, t5, t6, t7, t8, t9, tl⟩ := blk_c10 hC5
  go_wp2_with fail
  refine (putValue_any base A5 n5 c5 _ kb nb sb w5 (.inl hO5) hz5 (by omega) HB.out.1 HB.out.2.1 HB.out.2.2 (by omega)).mono ?_
  rintro e w6 ⟨⟨A6, n6, c6, rfl, hO6⟩, hb6, ht6⟩
  clear t0 t1 t2 t3 t4 t5 t6 t7 t8 t9 tl
  obtain ⟨t0, t1, t2, t3, t4, t5, t6, t7, t8, t9, tl⟩ := blk_c10 (ht6.blk (by decide) hC5)
  go_wp2_with fail
  go_ret
  exact ⟨⟨A6, n6, c6, rfl, by rw [← hE.out]; exact hO6⟩, hB5.trans hb6, hT5.trans ht6⟩
end Go.Proofs.YtpjleeeligahaaaGreatDoor

namespace Go.Proofs.YtpjleeeligahaaaGreatDoor
open Go.RowKit

theorem PutO.putR {w W : World} {L : List UInt8} {e : Ending} {w' : World} (hB : Below w.heap.size w W) (h : PutO w.heap.size W L e w') : PutR w L e w' := by
  obtain ⟨⟨A, n, c, rfl, hO⟩, hb, _⟩ := h
  exact ⟨⟨A, n, c, rfl, hO.len, hO.rd, hO.cap.1⟩, hB.trans hb⟩
theorem preB_of {w : World} {A : Option Addr} {n : Nat} {l : List UInt8} (hl : l.length = n) (hn : n ≤ 1000000) (hr : RdB w.heap.size w A l) : PreB w.heap.size w A n n l := .inr ⟨hr, hl, rfl, hn⟩

set_option maxRecDepth 100000 in
theorem packNumber_any (A : Option Addr) (n c : Nat) (l : List UInt8) (x : Nat) (w : World) (hl : l.length = n) (hn : n ≤ 100000) (hr : RdB w.heap.size w A l) (hc : n ≤ c) (hx : x < 18446744073709551616) :
    Calls Tryz.prog 62 #[.slice A n c, .int .u64 x] w fun e w' => PutR w (l ++ numB x) e w' := by
  go_enter Tryz.func62, Tryz.ntmps62
  go_wp2_with fail
  refine (own_any A n c w hc).mono ?_
  rintro e w1 ⟨rfl, rfl⟩
  go_wp2_with fail
  refine (putNumber_any w1.heap.size A n n l x w1 (preB_of hl (by omega) hr) (Nat.le_refl _) (by omega) hx).mono ?_
  rintro e w2 hP
  obtain ⟨⟨A2, n2, c2, rfl, hr2⟩, hb2⟩ := PutO.putR (Below.refl _ _) hP
  go_wp2_with fail
  go_ret
  exact ⟨⟨A2, n2, c2, rfl, hr2⟩, hb2⟩

set_option maxRecDepth 100000 in
theorem packText_any (A : Option Addr) (n c : Nat) (l : List UInt8) (s : ByteArray) (w : World) (hl : l.length = n) (hn : n ≤ 100000) (hr : RdB w.heap.size w A l) (hc : n ≤ c) (hs : s.size ≤ 100000) :
    Calls Tryz.prog 55 #[.slice A n c, .string s] w fun e w' => PutR w (l ++ textB s.data.toList) e w' := by
  go_enter Tryz.func55, Tryz.ntmps55
  go_wp2_with fail
  refine (own_any A n c w hc).mono ?_
  rintro e w1 ⟨rfl, rfl⟩
  go_wp2_with fail
  refine (putText_any w1.heap.size A n n l s w1 (preB_of hl (by omega) hr) (Nat.le_refl _) (by omega) (by omega)).mono ?_
  rintro e w2 hP
  obtain ⟨⟨A2, n2, c2, rfl, hr2⟩, hb2⟩ := PutO.putR (Below.refl _ _) hP
  go_wp2_with fail
  go_ret
  exact ⟨⟨A2, n2, c2, rfl, hr2⟩, hb2⟩

set_option maxRecDepth 100000 in
theorem packFlag_any (A : Option Addr) (n c : Nat) (l : List UInt8) (f : Bool) (w : World) (hl : l.length = n) (hn : n ≤ 200000) (hr : RdB w.heap.size w A l) (hc : n ≤ c) :
    Calls Tryz.prog 99 #[.slice A n c, .bool f] w fun e w' => PutR w (l ++ flagB f) e w' := by
  obtain ⟨i0, hi0, hz0, hz1, hz2⟩ := info_parts byt_info
  have hp := preB_of hl (by omega) hr
  cases f with
  | true =>
    have hp2 := hp.keep (b0 w (.cells #[.int .u8 1] 5))
    have hr2 := (litB w (base := w.heap.size) 1 1 rfl (Nat.le_refl _)).rd
    have hB := b0 w (.cells #[.int .u8 1] 5)
    go_enter Tryz.func99, Tryz.ntmps99
    go_wp2_with first
      | (go_at_call 64; refine (own_any A n c w hc).mono ?_; rintro e w1 ⟨rfl, rfl⟩)
      | (at_builtin; refine wpList_apP (base := w1.heap.size) (n := n) (m := 1) (l := l) (l2 := [1]) (by rfl) _ _ (by rfl) Tryz.underlying23 Tryz.underlying23 hi0 hz0 hz1 hz2 (by rfl) (by rfl) hp2 hr2 rfl (by omega) (n + 1) rfl (by omega) hB.size ?_; intro A5 c5 w5 hO5 hb5 ho5)
    go_ret
    exact ⟨⟨A5, n + 1, c5, rfl, hO5.len, hO5.rd, hO5.cap.1⟩, hB.trans hb5⟩
  | false =>
    have hp2 := hp.keep (b0 w (.cells #[.int .u8 0] 5))
    have hr2 := (litB w (base := w.heap.size) 0 0 rfl (Nat.le_refl _)).rd
    have hB := b0 w (.cells #[.int .u8 0] 5)
    go_enter Tryz.func99, Tryz.ntmps99
    go_wp2_with first
      | (go_at_call 64; refine (own_any A n c w hc).mono ?_; rintro e w1 ⟨rfl, rfl⟩)
      | (at_builtin; refine wpList_apP (base := w1.heap.size) (n := n) (m := 1) (l := l) (l2 := [0]) (by rfl) _ _ (by rfl) Tryz.underlying23 Tryz.underlying23 hi0 hz0 hz1 hz2 (by rfl) (by rfl) hp2 hr2 rfl (by omega) (n + 1) rfl (by omega) hB.size ?_; intro A5 c5 w5 hO5 hb5 ho5)
    go_ret
    exact ⟨⟨A5, n + 1, c5, rfl, hO5.len, hO5.rd, hO5.cap.1⟩, hB.trans hb5⟩
end Go.Proofs.YtpjleeeligahaaaGreatDoor
