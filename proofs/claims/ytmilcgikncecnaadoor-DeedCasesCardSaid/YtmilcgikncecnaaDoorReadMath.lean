/-
  WHAT IS PROVED: plain facts on the texts of values: how a text is read, and that what is read has that text. No program. No condition.
-/
import Derived.Lib.AtoiAll
import Derived.Lib.AtoiAllCases
import Derived.Lib.ItoaNum
import Derived.Test.YtmilcgikncecnaaDoorQuoteMath
namespace Go.Proofs.YtmilcgikncecnaaDoor
open Go

/-- What a hexadecimal digit stands for; 16: it is none. -/
def hexv (c : UInt8) : Nat := if 48 ≤ c.toNat ∧ c.toNat ≤ 57 then c.toNat - 48 else if 97 ≤ c.toNat ∧ c.toNat ≤ 102 then c.toNat - 87 else 16
/-- Do '%' and these two stand for a byte? -/
def escB (a b : UInt8) : Bool := decide (hexv a < 16 ∧ hexv b < 16) && !plainC (UInt8.ofNat (16 * hexv a + hexv b))
/-- What stands within the quotes. -/
def unq : List UInt8 → Option (List UInt8)
  | [] => some []
  | [c] => if plainC c then some [c] else none
  | [c, d] => if plainC c then (unq [d]).map (c :: ·) else none
  | c :: a :: b :: t => if plainC c then (unq (a :: b :: t)).map (c :: ·) else if c = 37 ∧ escB a b = true then (unq t).map (UInt8.ofNat (16 * hexv a + hexv b) :: ·) else none

theorem unq_plain (c : UInt8) (r : List UInt8) (h : plainC c = true) : unq (c :: r) = (unq r).map (c :: ·) := by
  match r with
  | [] => simp [unq, h]
  | [d] => simp only [unq, if_pos h]
  | a :: b :: t => rw [unq, if_pos h]
theorem unq_esc (a b : UInt8) (t : List UInt8) (h : escB a b = true) : unq (37 :: a :: b :: t) = (unq t).map (UInt8.ofNat (16 * hexv a + hexv b) :: ·) := by
  have hp : ¬ plainC 37 = true := by decide
  rw [unq, if_neg hp, if_pos ⟨rfl, h⟩]
theorem unq_bad (c : UInt8) (r : List UInt8) (h : plainC c = false) (k : c ≠ 37 ∨ r.length < 2 ∨ ∃ a b t, r = a :: b :: t ∧ escB a b = false) : unq (c :: r) = none := by
  have hp : ¬ plainC c = true := by simp [h]
  match r with
  | [] => rw [unq, if_neg hp]
  | [d] => rw [unq, if_neg hp]
  | a :: b :: t =>
    rw [unq, if_neg hp, if_neg]
    rintro ⟨h1, h2⟩
    rcases k with k | k | ⟨a', b', t', e, k⟩
    · exact k h1
    · simp at k
      omega
    · simp only [List.cons.injEq] at e
      obtain ⟨rfl, rfl, rfl⟩ := e
      rw [h2] at k
      cases k

/-- The answer: kind, number, text, error. -/
abbrev RV := Int × Int × List UInt8 × Int
def readQ (l : List UInt8) : RV := match unq l with
  | none => (0, 0, [], 2)
  | some t => if 40 < t.length then (0, 0, [], 1) else (2, 0, t, 0)

def isDig (c : UInt8) : Bool := decide (48 ≤ c.toNat ∧ c.toNat ≤ 57)
/-- Digits alone, at least one, the first of several no nought. -/
def isNum (d : List UInt8) : Bool := !d.isEmpty && d.all isDig && (decide (d.length ≤ 1) || d.head? != some 48)
def natStep (a : Nat) (c : UInt8) : Nat := a * 10 + (c.toNat - 48)
def natFrom (acc : Nat) (l : List UInt8) : Nat := l.foldl natStep acc
def stripNeg (s : List UInt8) : List UInt8 := match s with
  | 45 :: r => r
  | s => s
def isNeg (s : List UInt8) : Bool := s.head? == some 45
def readI (s : List UInt8) : RV :=
  if isNum (stripNeg s) = false ∨ (isNeg s = true ∧ stripNeg s = [48]) then (0, 0, [], 2)
  else if isNeg s = true then (if natFrom 0 (stripNeg s) ≤ 9223372036854775808 then (1, -(natFrom 0 (stripNeg s) : Int), [], 0) else (0, 0, [], 1))
  else if natFrom 0 (stripNeg s) ≤ 9223372036854775807 then (1, natFrom 0 (stripNeg s), [], 0) else (0, 0, [], 1)
/-- How any text is read. -/
def readV (s : List UInt8) : RV :=
  if s = [110, 105, 108] then (0, 0, [], 0)
  else if s.head? = some 34 then (if 2 ≤ s.length ∧ s.getLast? = some 34 then readQ ((s.drop 1).take (s.length - 2)) else (0, 0, [], 2))
  else readI s
/-- A value's text. -/
def textV (k n : Int) (t : List UInt8) : List UInt8 := if k = 0 then [110, 105, 108] else if k = 1 then Lib.itoa n else if k = 2 then 34 :: quoL t ++ [34] else []

/-! ### quoting and back -/
theorem hexv_hexd (n : Nat) (h : n < 16) : hexv (hexd n) = n := by
  have : ∀ m : Fin 16, hexv (hexd m.val) = m.val := by decide
  exact this ⟨n, h⟩
theorem hexd_hexv (c : UInt8) (h : hexv c < 16) : hexd (hexv c) = c := by
  have : ∀ m : Fin 256, hexv (UInt8.ofNat m.val) < 16 → hexd (hexv (UInt8.ofNat m.val)) = UInt8.ofNat m.val := by decide +kernel
  have := this ⟨c.toNat, c.toNat_lt⟩
  simpa using this (by simpa using h)
theorem ofNat_parts (c : UInt8) : UInt8.ofNat (16 * (c.toNat / 16) + c.toNat % 16) = c := by
  rw [Nat.div_add_mod]
  simp
theorem unq_quo : ∀ l : List UInt8, unq (quoL l) = some l
  | [] => by simp [quoL, unq]
  | c :: r => by
    have ih := unq_quo r
    have hc := c.toNat_lt
    rw [quoL, List.flatMap_cons, ← quoL]
    by_cases h : plainC c = true
    · rw [quoB, if_pos h, List.singleton_append, unq_plain c _ h, ih]
      rfl
    · rw [quoB, if_neg h]
      have h1 := hexv_hexd (c.toNat / 16) (by omega)
      have h2 := hexv_hexd (c.toNat % 16) (by omega)
      have he : escB (hexd (c.toNat / 16)) (hexd (c.toNat % 16)) = true := by
        simp only [escB, h1, h2, ofNat_parts]
        simp only [Bool.and_eq_true, decide_eq_true_eq]
        exact ⟨⟨by omega, by omega⟩, by simpa using h⟩
      show unq (37 :: hexd (c.toNat / 16) :: hexd (c.toNat % 16) :: quoL r) = _
      rw [unq_esc _ _ _ he, ih, h1, h2, ofNat_parts]
      rfl
theorem quo_unq : ∀ (l t : List UInt8), unq l = some t → quoL t = l
  | [], t, h => by
    simp only [unq, Option.some.injEq] at h
    subst h
    rfl
  | [c], t, h => by
    by_cases hp : plainC c = true
    · simp only [unq, if_pos hp, Option.some.injEq] at h
      subst h
      simp [quoL, quoB, hp]
    · simp [unq, hp] at h
  | [c, d], t, h => by
    have ih := quo_unq [d]
    by_cases hp : plainC c = true
    · rw [unq, if_pos hp] at h
      obtain ⟨t', h1, rfl⟩ := Option.map_eq_some_iff.1 h
      rw [quoL, List.flatMap_cons, ← quoL, ih t' h1, quoB, if_pos hp]
      rfl
    · simp [unq, hp] at h
  | c :: a :: b :: r, t, h => by
    have ih1 := quo_unq (a :: b :: r)
    have ih2 := quo_unq r
    by_cases hp : plainC c = true
    · rw [unq, if_pos hp] at h
      obtain ⟨t', h1, rfl⟩ := Option.map_eq_some_iff.1 h
      rw [quoL, List.flatMap_cons, ← quoL, ih1 t' h1, quoB, if_pos hp]
      rfl
    · rw [unq, if_neg hp] at h
      by_cases he : c = 37 ∧ escB a b = true
      · rw [if_pos he] at h
        obtain ⟨t', h1, rfl⟩ := Option.map_eq_some_iff.1 h
        obtain ⟨rfl, he⟩ := he
        simp only [escB, Bool.and_eq_true, decide_eq_true_eq] at he
        obtain ⟨⟨ha, hb⟩, hn⟩ := he
        have hn' : ¬ plainC (UInt8.ofNat (16 * hexv a + hexv b)) = true := by simpa using hn
        have e1 : (UInt8.ofNat (16 * hexv a + hexv b)).toNat = 16 * hexv a + hexv b := by
          rw [UInt8.toNat_ofNat_of_lt']
          show _ < 256
          omega
        rw [quoL, List.flatMap_cons, ← quoL, ih2 t' h1, quoB, if_neg hn', e1]
        have e2 : (16 * hexv a + hexv b) / 16 = hexv a := by omega
        have e3 : (16 * hexv a + hexv b) % 16 = hexv b := by omega
        rw [e2, e3, hexd_hexv a ha, hexd_hexv b hb]
        rfl
      · rw [if_neg he] at h
        cases h

/-! ### numerals -/
theorem natFrom_cons (acc : Nat) (c : UInt8) (r : List UInt8) : natFrom acc (c :: r) = natFrom (acc * 10 + (c.toNat - 48)) r := by unfold natFrom; rw [List.foldl_cons]; unfold natStep; exact rfl
theorem natFrom_nil (acc : Nat) : natFrom acc [] = acc := by unfold natFrom; rw [List.foldl_nil]
theorem natFrom_one (acc : Nat) (c : UInt8) : natFrom acc [c] = acc * 10 + (c.toNat - 48) := by rw [natFrom_cons, natFrom_nil]
theorem natFrom_append (acc : Nat) (l m : List UInt8) : natFrom acc (l ++ m) = natFrom (natFrom acc l) m := by
  unfold natFrom
  rw [List.foldl_append]
theorem natFrom_ge (acc : Nat) (l : List UInt8) : acc ≤ natFrom acc l := by
  induction l generalizing acc with
  | nil => rw [natFrom_nil]; exact Nat.le_refl _
  | cons c r ih =>
    rw [natFrom_cons]
    exact Nat.le_trans (show acc ≤ acc * 10 + (c.toNat - 48) by omega) (ih _)
theorem digit_toNat (u : Nat) (h : u < 10) : (UInt8.ofNat (48 + u)).toNat = 48 + u := by
  rw [UInt8.toNat_ofNat_of_lt']
  show _ < 256
  omega
theorem isDig_digit (u : Nat) (h : u < 10) : isDig (UInt8.ofNat (48 + u)) = true := by
  simp only [isDig, digit_toNat u h, decide_eq_true_eq]
  omega
theorem digits_all (u : Nat) : (Lib.decDigits u).all isDig = true := by
  induction u using Lib.decDigits.induct with
  | case1 u h => rw [Lib.decDigits, dif_pos h]; simp only [List.all_cons, List.all_nil, isDig_digit u h, Bool.and_true]
  | case2 u h ih =>
    rw [Lib.decDigits, dif_neg h, List.all_append, ih]
    simp only [List.all_cons, List.all_nil, isDig_digit (u % 10) (by omega), Bool.and_true]
theorem digits_nat (u : Nat) : natFrom 0 (Lib.decDigits u) = u := by
  induction u using Lib.decDigits.induct with
  | case1 u h =>
    have e := digit_toNat u h
    rw [Lib.decDigits, dif_pos h, natFrom_one, e]
    omega
  | case2 u h ih =>
    have e := digit_toNat (u % 10) (by omega)
    rw [Lib.decDigits, dif_neg h, natFrom_append, ih, natFrom_one, e]
    omega
theorem digits_ne (u : Nat) : Lib.decDigits u ≠ [] := by
  rw [Lib.decDigits]
  split <;> simp
theorem digits_head (u : Nat) : (Lib.decDigits u).length ≤ 1 ∨ ∃ c r, Lib.decDigits u = c :: r ∧ c ≠ 48 := by
  induction u using Lib.decDigits.induct with
  | case1 u h => rw [Lib.decDigits, dif_pos h]; simp
  | case2 u h ih =>
    right
    rcases ih with ih | ⟨c, r, e, hc⟩
    · by_cases h10 : u / 10 < 10
      · have e1 : Lib.decDigits (u / 10) = [UInt8.ofNat (48 + u / 10)] := by rw [Lib.decDigits, dif_pos h10]
        refine ⟨UInt8.ofNat (48 + u / 10), [UInt8.ofNat (48 + u % 10)], ?_, ?_⟩
        · rw [Lib.decDigits, dif_neg h, e1]
          rfl
        · intro e2
          have := congrArg UInt8.toNat e2
          rw [digit_toNat _ h10] at this
          have e3 : (48 : UInt8).toNat = 48 := rfl
          omega
      · exfalso
        rw [Lib.decDigits, dif_neg h10] at ih
        have := digits_ne (u / 10 / 10)
        have h1 : 0 < (Lib.decDigits (u / 10 / 10)).length := List.length_pos_iff.2 this
        rw [List.length_append, List.length_singleton] at ih
        omega
    · exact ⟨c, r ++ [UInt8.ofNat (48 + u % 10)], by rw [Lib.decDigits, dif_neg h, e]; rfl, hc⟩
theorem digits_num (u : Nat) : isNum (Lib.decDigits u) = true := by
  have h1 := digits_ne u
  have h2 := digits_all u
  have h3 : (Lib.decDigits u).isEmpty = false := by simpa using h1
  simp only [isNum, h2, h3, Bool.not_false, Bool.true_and, Bool.or_eq_true, decide_eq_true_eq, bne_iff_ne]
  rcases digits_head u with h | ⟨c, r, e, hc⟩
  · exact Or.inl h
  · right
    rw [e]
    simpa using hc
theorem digits_len_lt (u : Nat) : u < 10 ^ (Lib.decDigits u).length := by
  induction u using Lib.decDigits.induct with
  | case1 u h => rw [Lib.decDigits, dif_pos h]; simpa using h
  | case2 u h ih =>
    rw [Lib.decDigits, dif_neg h, List.length_append, List.length_singleton, Nat.pow_succ]
    omega
/-- A numeral without noughts in front is its number's. -/
theorem digits_inj_rev : ∀ (l m : List UInt8), l.all isDig = true → m.all isDig = true → l.length = m.length → natFrom 0 l.reverse = natFrom 0 m.reverse → l = m
  | [], [], _, _, _, _ => rfl
  | [], _ :: _, _, _, h, _ => by simp at h
  | _ :: _, [], _, _, h, _ => by simp at h
  | c :: l, d :: m, h1, h2, h3, h4 => by
    have ih := digits_inj_rev l m
    rw [List.reverse_cons, List.reverse_cons, natFrom_append, natFrom_append] at h4
    rw [natFrom_one, natFrom_one] at h4
    simp only [List.all_cons, Bool.and_eq_true, isDig, decide_eq_true_eq] at h1 h2
    have e1 : natFrom 0 l.reverse = natFrom 0 m.reverse := by omega
    have e2 : c.toNat = d.toNat := by omega
    rw [ih (by simpa [isDig] using h1.2) (by simpa [isDig] using h2.2) (by simpa using h3) e1, UInt8.toNat_inj.1 e2]
theorem digits_inj (l m : List UInt8) (h1 : l.all isDig = true) (h2 : m.all isDig = true) (h3 : l.length = m.length) (h4 : natFrom 0 l = natFrom 0 m) : l = m := by
  have := digits_inj_rev l.reverse m.reverse (by rw [List.all_reverse]; exact h1) (by rw [List.all_reverse]; exact h2) (by simpa using h3) (by simpa using h4)
  simpa using this
theorem natFrom_lt (l : List UInt8) (h : l.all isDig = true) : ∀ acc, natFrom acc l < (acc + 1) * 10 ^ l.length := by
  induction l with
  | nil => intro acc; rw [natFrom_nil, List.length_nil, Nat.pow_zero]; omega
  | cons c r ih =>
    intro acc
    simp only [List.all_cons, Bool.and_eq_true, isDig, decide_eq_true_eq] at h
    have := ih (by simpa [isDig] using h.2) (acc * 10 + (c.toNat - 48))
    rw [natFrom_cons, List.length_cons, Nat.pow_succ]
    have h9 : acc * 10 + (c.toNat - 48) + 1 ≤ (acc + 1) * 10 := by omega
    have := Nat.mul_le_mul_right (10 ^ r.length) h9
    have e : (acc + 1) * 10 * 10 ^ r.length = (acc + 1) * (10 ^ r.length * 10) := by rw [Nat.mul_assoc, Nat.mul_comm 10]
    omega
theorem natFrom_low (c : UInt8) (r : List UInt8) (h : isDig c = true) (hc : c ≠ 48) : 10 ^ r.length ≤ natFrom 0 (c :: r) := by
  have hc' : c.toNat ≠ 48 := fun e => hc (UInt8.toNat_inj.1 e)
  simp only [isDig, decide_eq_true_eq] at h
  have g : ∀ (l : List UInt8) (acc : Nat), acc * 10 ^ l.length ≤ natFrom acc l := by
    intro l
    induction l with
    | nil => intro acc; rw [natFrom_nil, List.length_nil, Nat.pow_zero]; omega
    | cons d t ih =>
      intro acc
      have := ih (acc * 10 + (d.toNat - 48))
      rw [natFrom_cons, List.length_cons, Nat.pow_succ]
      have h2 := Nat.mul_le_mul_right (10 ^ t.length) (show acc * 10 ≤ acc * 10 + (d.toNat - 48) by omega)
      have e : acc * 10 * 10 ^ t.length = acc * (10 ^ t.length * 10) := by rw [Nat.mul_assoc, Nat.mul_comm 10]
      omega
  have := g r (0 * 10 + (c.toNat - 48))
  have h1 := Nat.mul_le_mul_right (10 ^ r.length) (show 1 ≤ 0 * 10 + (c.toNat - 48) by omega)
  rw [natFrom_cons]
  omega
theorem num_digits (d : List UInt8) (h : isNum d = true) : Lib.decDigits (natFrom 0 d) = d := by
  simp only [isNum, Bool.and_eq_true, Bool.not_eq_true', Bool.or_eq_true, decide_eq_true_eq, bne_iff_ne] at h
  obtain ⟨⟨h1, h2⟩, h3⟩ := h
  refine digits_inj _ _ (digits_all _) h2 ?_ (digits_nat _)
  match d, h1 with
  | c :: r, _ =>
    have hd : isDig c = true := by simp only [List.all_cons, Bool.and_eq_true] at h2; exact h2.1
    have hb := digits_len_lt (natFrom 0 (c :: r))
    have hu := natFrom_lt (c :: r) h2 0
    -- the number of digits, from both sides
    rcases h3 with h3 | h3
    · have hr : r = [] := by
        rw [List.length_cons] at h3
        exact List.length_eq_zero_iff.1 (by omega)
      subst hr
      have hs : natFrom 0 [c] < 10 := by
        simp only [isDig, decide_eq_true_eq] at hd
        rw [natFrom_one]
        omega
      rw [Lib.decDigits, dif_pos hs]
      rfl
    · have hc : c ≠ 48 := by simpa using h3
      have hlo := natFrom_low c r hd hc
      have l1 : 10 ^ r.length < 10 ^ (Lib.decDigits (natFrom 0 (c :: r))).length := Nat.lt_of_le_of_lt hlo hb
      have l2 := (Nat.pow_lt_pow_iff_right (by omega)).1 l1
      -- and a numeral of so many digits is at least 10 to the one less
      rcases digits_head (natFrom 0 (c :: r)) with k | ⟨c', r', e, hc'⟩
      · rw [List.length_cons]
        omega
      · have hd' : isDig c' = true := by
          have := digits_all (natFrom 0 (c :: r))
          rw [e] at this
          simp only [List.all_cons, Bool.and_eq_true] at this
          exact this.1
        have hlo' := natFrom_low c' r' hd' hc'
        rw [← e, digits_nat] at hlo'
        have l3 : 10 ^ r'.length < 10 ^ (c :: r).length := by
          have : (0 + 1) * 10 ^ (c :: r).length = 10 ^ (c :: r).length := by omega
          omega
        have l4 := (Nat.pow_lt_pow_iff_right (by omega)).1 l3
        rw [e] at l2 ⊢
        simp only [List.length_cons] at *
        omega
end Go.Proofs.YtmilcgikncecnaaDoor
