/-
  WHAT IS PROVED: plain facts on how a line is read (the plain functions parseP and readD), and that a line is read back. Conditions: those typed in each theorem.
-/
import Derived.Test.YtmilcgikncecnaaDoorSplitMath
import Derived.Test.YtmilcgikncecnaaDoorBegun
import Derived.Test.YtmilcgikncecnaaDoorReads
namespace Go.Proofs.YtmilcgikncecnaaDoor
open Go

theorem blank_hexd (n : Nat) (h : n < 16) : hexd n ≠ 32 := by
  have : ∀ m : Fin 16, hexd m.val ≠ 32 := by decide
  exact this ⟨n, h⟩
theorem blank_quo (l : List UInt8) : (32 : UInt8) ∉ quoL l := by
  unfold quoL
  rw [List.mem_flatMap]
  rintro ⟨c, _, h⟩
  have hc := c.toNat_lt
  unfold quoB at h
  split at h
  · rename_i hp
    rw [List.mem_singleton] at h
    subst h
    revert hp
    decide
  · simp only [List.mem_cons, List.not_mem_nil, or_false] at h
    rcases h with h | h | h
    · revert h; decide
    · exact blank_hexd _ (by omega) h.symm
    · exact blank_hexd _ (by omega) h.symm
theorem blank_digits (u : Nat) : (32 : UInt8) ∉ Lib.decDigits u := by
  intro h
  have := digits_all u
  rw [List.all_eq_true] at this
  have h2 := this _ h
  revert h2
  decide
theorem blank_text {k n : Int} {t : List UInt8} (g : GoodW k n t) : (32 : UInt8) ∉ textV k n t := by
  rcases g with ⟨rfl, _, _⟩ | ⟨rfl, _⟩ | ⟨rfl, _, _⟩
  · rw [textV_0]; decide
  · rw [textV_1]
    unfold Lib.itoa
    split
    · simp only [List.mem_cons, not_or]
      exact ⟨by decide, blank_digits _⟩
    · exact blank_digits _
  · rw [textV_2]
    simp only [List.cons_append, List.mem_cons, List.mem_append, List.not_mem_nil, or_false, not_or]
    exact ⟨by decide, blank_quo _, by decide⟩
theorem blank_read {l : List UInt8} (h : (32 : UInt8) ∈ l) : (readV l).2.2.2 ≠ 0 := by
  intro h0
  obtain ⟨⟨k, n, t, e⟩, hr⟩ : ∃ r, readV l = r := ⟨_, rfl⟩
  rw [hr] at h0
  simp only at h0
  subst h0
  have h1 := text_read l k n t hr
  rw [← h1] at h
  exact blank_text (readV_good hr).1 h
theorem blank_word (K : Int) : (32 : UInt8) ∉ wordL K := by
  unfold wordL
  repeat' split
  all_goals decide
theorem blank_key {l : List UInt8} (h : keyB l = true) : (32 : UInt8) ∉ l := by
  intro h2
  have h3 := (keyB_all h).1
  rw [List.all_eq_true] at h3
  exact (keyC_low (h3 _ h2)).2 rfl

/-- Nothing, as it is read. -/
def nilV : RV := (0, 0, [], 0)
abbrev PV := Int × List UInt8 × RV × RV
/-- What the parts of a line tell. -/
def parseP (l : List UInt8) : Option PV :=
  match pieces 4 l with
  | [p0, p1] => if toldN (begunK p0) = 0 then some (begunK p0, p1, nilV, nilV) else none
  | [p0, p1, p2] => if toldN (begunK p0) = 1 ∧ (readV p2).2.2.2 = 0 then some (begunK p0, p1, readV p2, nilV) else none
  | [p0, p1, p2, p3] => if toldN (begunK p0) = 2 ∧ (readV p2).2.2.2 = 0 ∧ (readV p3).2.2.2 = 0 then some (begunK p0, p1, readV p2, readV p3) else none
  | _ => none
/-- .. and is it good? -/
def goodP (p : PV) : Bool := opB p.1 ⟨p.2.1.toArray⟩ p.2.2.1.1 p.2.2.1.2.1 ⟨p.2.2.1.2.2.1.toArray⟩ p.2.2.2.1 p.2.2.2.2.1 ⟨p.2.2.2.2.2.1.toArray⟩
def readD (l : List UInt8) : Option PV := match parseP l with
  | none => none
  | some p => if goodP p = true then some p else none

theorem toldN_le (K : Int) : toldN K ≤ 2 := by unfold toldN; split; omega; split <;> omega
theorem toldN_0 {K : Int} (h : toldN K = 0) : K ≠ 1 ∧ K ≠ 3 ∧ K ≠ 4 := by
  unfold toldN at h
  refine ⟨?_, ?_, ?_⟩ <;> rintro rfl <;> simp at h
theorem toldN_1 {K : Int} (h : toldN K = 1) : K = 1 ∨ K = 3 := by
  unfold toldN at h
  split at h
  · assumption
  · split at h <;> simp at h
theorem toldN_2 {K : Int} (h : toldN K = 2) : K = 4 := by
  unfold toldN at h
  split at h
  · simp at h
  · split at h
    · assumption
    · simp at h
theorem opB_kind {K ka na kb nb : Int} {ky sa sb : ByteArray} (h : opB K ky ka na sa kb nb sb = true) : K = 1 ∨ K = 2 ∨ K = 3 ∨ K = 4 := by
  unfold opB at h
  simp only [Bool.and_eq_true, decide_eq_true_eq] at h
  omega
theorem opB_words {K ka na kb nb : Int} {ky sa sb : ByteArray} (h : opB K ky ka na sa kb nb sb = true) :
    keyB ky.data.toList = true ∧ goodB ka na sa = true ∧ goodB kb nb sb = true ∧ ((K = 1 ∧ ka ≠ 0 ∧ kb = 0) ∨ (K = 2 ∧ ka = 0 ∧ kb = 0) ∨ (K = 3 ∧ ka = 1 ∧ kb = 0) ∨ K = 4) := by
  unfold opB at h
  simp only [Bool.and_eq_true, decide_eq_true_eq] at h
  exact ⟨h.1.1.1, h.1.1.2, h.1.2, h.2⟩

/-! ### the cuts one by one -/
theorem parseP_0 {l : List UInt8} (h : cutL l = none) : parseP l = none := by
  unfold parseP
  rw [pieces_none 4 h]
theorem pieces_2 {l w r : List UInt8} (h : cutL l = some (w, r)) (h2 : cutL r = none) : pieces 4 l = [w, r] := by rw [pieces_some 3 h, pieces_none 3 h2]
theorem pieces_3 {l w r k r2 : List UInt8} (h : cutL l = some (w, r)) (h2 : cutL r = some (k, r2)) (h3 : cutL r2 = none) : pieces 4 l = [w, k, r2] := by
  rw [pieces_some 3 h, pieces_some 2 h2, pieces_none 2 h3]
theorem pieces_4 {l w r k r2 a b : List UInt8} (h : cutL l = some (w, r)) (h2 : cutL r = some (k, r2)) (h3 : cutL r2 = some (a, b)) (h4 : cutL b = none) : pieces 4 l = [w, k, a, b] := by
  rw [pieces_some 3 h, pieces_some 2 h2, pieces_some 1 h3, pieces_none 1 h4]
theorem pieces_5 {l w r k r2 a b c d : List UInt8} (h : cutL l = some (w, r)) (h2 : cutL r = some (k, r2)) (h3 : cutL r2 = some (a, b)) (h4 : cutL b = some (c, d)) : pieces 4 l = [w, k, a, c, d] := by
  rw [pieces_some 3 h, pieces_some 2 h2, pieces_some 1 h3, pieces_some 0 h4]
  rfl

theorem join_pieces : ∀ (k : Nat) (l : List UInt8), Lib.join (pieces k l) [32] = l
  | 0, l => by rw [pieces, Lib.join_one]
  | k + 1, l => by
    cases h : cutL l with
    | none => rw [pieces_none _ h, Lib.join_one]
    | some p =>
      obtain ⟨a, b⟩ := p
      have ih := join_pieces k b
      have h1 := (cutL_some h).1
      rw [pieces_some k h]
      have hne : pieces k b ≠ [] := by
        intro e
        have := (pieces_len k b).1
        rw [e] at this
        simp at this
      cases hp : pieces k b with
      | nil => exact absurd hp hne
      | cons x r =>
        rw [hp] at ih
        rw [Lib.join_cons, Lib.joinTail, List.map_cons, List.flatten_cons]
        rw [Lib.join_cons, Lib.joinTail] at ih
        rw [h1, ← ih]
        simp

/-- A good operation's line is read back. -/
theorem read_line {K ka na kb nb : Int} {ky sa sb : ByteArray} (g : opB K ky ka na sa kb nb sb = true) (h0 : -9223372036854775808 ≤ na ∧ na ≤ 9223372036854775807) (h1 : -9223372036854775808 ≤ nb ∧ nb ≤ 9223372036854775807) :
    readD (lineL K ky.data.toList (textV ka na sa.data.toList) (textV kb nb sb.data.toList)) = some (K, ky.data.toList, (ka, na, sa.data.toList, 0), (kb, nb, sb.data.toList, 0)) := by
  obtain ⟨gk, ga, gb, hK⟩ := opB_words g
  have gp : goodP (K, ky.data.toList, (ka, na, sa.data.toList, 0), (kb, nb, sb.data.toList, 0)) = true := g
  have wa := good_words ga
  have wb := good_words gb
  have ra := read_text ka na sa.data.toList wa h0.1 h0.2
  have rb := read_text kb nb sb.data.toList wb h1.1 h1.2
  have ba' := blank_text wa
  have bb' := blank_text wb
  have bk := blank_key gk
  have bw := blank_word K
  have hw := begunK_word K (opB_kind g)
  have nilb : kb = 0 → (kb, nb, sb.data.toList, (0 : Int)) = nilV := by
    intro e
    subst e
    rcases wb with ⟨_, rfl, e2⟩ | ⟨e2, _⟩ | ⟨e2, _⟩
    · rw [e2]; rfl
    · omega
    · omega
  have nila : ka = 0 → (ka, na, sa.data.toList, (0 : Int)) = nilV := by
    intro e
    subst e
    rcases wa with ⟨_, rfl, e2⟩ | ⟨e2, _⟩ | ⟨e2, _⟩
    · rw [e2]; rfl
    · omega
    · omega
  have fin : ∀ l p, parseP l = some p → goodP p = true → readD l = some p := by
    intro l p h h2
    unfold readD
    rw [h]
    simp only
    rw [if_pos h2]
  rcases hK with ⟨rfl, _, h⟩ | ⟨rfl, h2, h⟩ | ⟨rfl, _, h⟩ | rfl
  · refine fin _ _ ?_ gp
    unfold parseP
    rw [lineL_one 1 _ _ _ (Or.inl rfl), pieces_3 (cutL_app _ _ bw) (cutL_app _ _ bk) (cutL_of_none _ ba')]
    simp only
    rw [hw, if_pos ⟨rfl, by rw [ra]⟩, ra, nilb h]
  · refine fin _ _ ?_ gp
    unfold parseP
    rw [lineL_del, pieces_2 (cutL_app _ _ bw) (cutL_of_none _ bk)]
    simp only
    rw [hw, if_pos (by decide), nilb h, nila h2]
  · refine fin _ _ ?_ gp
    unfold parseP
    rw [lineL_one 3 _ _ _ (Or.inr rfl), pieces_3 (cutL_app _ _ bw) (cutL_app _ _ bk) (cutL_of_none _ ba')]
    simp only
    rw [hw, if_pos ⟨rfl, by rw [ra]⟩, ra, nilb h]
  · refine fin _ _ ?_ gp
    unfold parseP
    rw [lineL_cas, pieces_4 (cutL_app _ _ bw) (cutL_app _ _ bk) (cutL_app _ _ ba') (cutL_of_none _ bb')]
    simp only
    rw [hw, if_pos ⟨rfl, by rw [ra], by rw [rb]⟩, ra, rb]
end Go.Proofs.YtmilcgikncecnaaDoor
