/-
  WHAT IS PROVED: a good value's text is read back as it; what is read of a text has that text; how strconv.Atoi's answer is the document's. No program. No condition but those typed.
-/
import Derived.Test.YtmilcgikncecnaaDoorReadMath
namespace Go.Proofs.YtmilcgikncecnaaDoor
open Go

theorem parse_digits : ∀ (l : List UInt8) (acc : Nat), l.all isDig = true → acc < 18446744073709551616 →
    Lib.parseUint10 acc l = if natFrom acc l < 18446744073709551616 then .ok (natFrom acc l) else .range
  | [], acc, _, h => by rw [natFrom_nil, if_pos h]; rfl
  | c :: r, acc, hl, h => by
    simp only [List.all_cons, Bool.and_eq_true] at hl
    have hc : 48 ≤ c.toNat ∧ c.toNat ≤ 57 := by simpa [isDig] using hl.1
    have hg := natFrom_ge (acc * 10 + (c.toNat - 48)) r
    rw [natFrom_cons, Lib.parseUint10, if_pos hc]
    by_cases h1 : 1844674407370955162 ≤ acc
    · rw [if_pos h1, if_neg (by omega)]
    · rw [if_neg h1]
      by_cases h2 : 18446744073709551616 ≤ acc * 10 + (c.toNat - 48)
      · rw [if_pos h2, if_neg (by omega)]
      · rw [if_neg h2]
        exact parse_digits r _ hl.2 (by omega)
theorem num_ne {d : List UInt8} (h : isNum d = true) : d ≠ [] := by
  rintro rfl
  simp [isNum] at h
theorem num_all {d : List UInt8} (h : isNum d = true) : d.all isDig = true := by
  simp only [isNum, Bool.and_eq_true] at h
  exact h.1.2
theorem mag_num {d : List UInt8} (h : isNum d = true) : Lib.parseMag d = if natFrom 0 d < 18446744073709551616 then .ok (natFrom 0 d) else .range := by
  rw [Lib.parseMag, if_neg (num_ne h)]
  exact parse_digits d 0 (num_all h) (by omega)
theorem strip_neg (r : List UInt8) : stripNeg (45 :: r) = r := rfl
theorem strip_other (c : UInt8) (r : List UInt8) (h : c ≠ 45) : stripNeg (c :: r) = c :: r := by
  unfold stripNeg
  split
  · rename_i e
    simp only [List.cons.injEq] at e
    exact absurd e.1 h
  · rfl
theorem isNeg_cons (c : UInt8) (r : List UInt8) : isNeg (c :: r) = (c == 45) := by simp [isNeg]
/-- strconv.Atoi at a text that is a number's. -/
theorem atoi_read (s : List UInt8) (h : isNum (stripNeg s) = true) :
    Lib.atoiAll s = if isNeg s = true then (if natFrom 0 (stripNeg s) ≤ 9223372036854775808 then .ok (-(natFrom 0 (stripNeg s) : Int)) else .range)
      else if natFrom 0 (stripNeg s) ≤ 9223372036854775807 then .ok (natFrom 0 (stripNeg s) : Int) else .range := by
  match s with
  | [] => simp [stripNeg, isNum] at h
  | c :: r =>
    by_cases hc : c = 45
    · subst hc
      rw [strip_neg] at h ⊢
      rw [Lib.atoiAll_minus, mag_num h, isNeg_cons]
      simp only [beq_self_eq_true, if_true]
      by_cases h1 : natFrom 0 r < 18446744073709551616
      · rw [if_pos h1]
        by_cases h2 : natFrom 0 r ≤ 9223372036854775808
        · rw [if_pos h2]
          simp only [Lib.signed]
          rw [if_neg (by omega)]
        · rw [if_neg h2]
          simp only [Lib.signed]
          rw [if_pos (by omega)]
      · rw [if_neg h1, if_neg (by omega)]
        rfl
    · rw [strip_other c r hc] at h ⊢
      have hd : 48 ≤ c.toNat ∧ c.toNat ≤ 57 := by
        have := num_all h
        simp only [List.all_cons, Bool.and_eq_true] at this
        simpa [isDig] using this.1
      rw [Lib.atoiAll_plain c r (by omega) (by omega), mag_num h, isNeg_cons]
      have e : (c == 45) = false := by simpa using hc
      simp only [e, Bool.false_eq_true, if_false]
      by_cases h1 : natFrom 0 (c :: r) < 18446744073709551616
      · rw [if_pos h1]
        by_cases h2 : natFrom 0 (c :: r) ≤ 9223372036854775807
        · rw [if_pos h2]
          simp only [Lib.signless]
          rw [if_neg (by omega)]
        · rw [if_neg h2]
          simp only [Lib.signless]
          rw [if_pos (by omega)]
      · rw [if_neg h1, if_neg (by omega)]
        rfl

/-! ### back and forth -/
theorem itoa_head (n : Int) : ∃ c r, Lib.itoa n = c :: r ∧ (c = 45 ∨ isDig c = true) := by
  unfold Lib.itoa
  split
  · exact ⟨_, _, rfl, Or.inl rfl⟩
  · match h : Lib.decDigits n.toNat with
    | [] => exact absurd h (digits_ne _)
    | c :: r =>
      have := digits_all n.toNat
      rw [h] at this
      simp only [List.all_cons, Bool.and_eq_true] at this
      exact ⟨c, r, rfl, Or.inr this.1⟩
theorem readI_itoa (n : Int) (h0 : -9223372036854775808 ≤ n) (h1 : n ≤ 9223372036854775807) : readI (Lib.itoa n) = (1, n, [], 0) := by
  unfold Lib.itoa
  by_cases hn : n < 0
  · rw [if_pos hn]
    have hz : Lib.decDigits n.natAbs ≠ [48] := by
      intro e
      have := digits_nat n.natAbs
      rw [e, natFrom_one] at this
      have e3 : (48 : UInt8).toNat = 48 := rfl
      omega
    unfold readI
    rw [strip_neg, digits_num, digits_nat, isNeg_cons]
    simp only [Bool.true_eq_false, hz, and_false, or_false, if_false, beq_self_eq_true, if_true]
    rw [if_pos (by omega)]
    have : (-(n.natAbs : Int)) = n := by omega
    rw [this]
  · rw [if_neg hn]
    match h : Lib.decDigits n.toNat with
    | [] => exact absurd h (digits_ne _)
    | c :: r =>
      have ha := digits_all n.toNat
      have hm := digits_num n.toNat
      have hv := digits_nat n.toNat
      rw [h] at ha hm hv
      simp only [List.all_cons, Bool.and_eq_true] at ha
      have hc : c ≠ 45 := by
        rintro rfl
        have := ha.1
        revert this
        decide
      unfold readI
      rw [strip_other c r hc, hm, hv, isNeg_cons]
      have e : (c == 45) = false := by simpa using hc
      simp only [e, Bool.true_eq_false, Bool.false_eq_true, false_and, or_false, if_false]
      rw [if_pos (by omega)]
      have : ((n.toNat : Nat) : Int) = n := by omega
      rw [this]

theorem textV_0 (n : Int) (t : List UInt8) : textV 0 n t = [110, 105, 108] := by simp [textV]
theorem textV_1 (n : Int) (t : List UInt8) : textV 1 n t = Lib.itoa n := by simp [textV]
theorem textV_2 (n : Int) (t : List UInt8) : textV 2 n t = 34 :: quoL t ++ [34] := by simp [textV]
theorem read_text (k n : Int) (t : List UInt8) (h : (k = 0 ∧ n = 0 ∧ t = []) ∨ (k = 1 ∧ t = []) ∨ (k = 2 ∧ n = 0 ∧ t.length ≤ 40)) (h0 : -9223372036854775808 ≤ n) (h1 : n ≤ 9223372036854775807) :
    readV (textV k n t) = (k, n, t, 0) := by
  rcases h with ⟨rfl, rfl, rfl⟩ | ⟨rfl, rfl⟩ | ⟨rfl, rfl, ht⟩
  · simp [textV, readV]
  · obtain ⟨c, r, e, hc⟩ := itoa_head n
    have e2 := readI_itoa n h0 h1
    have hne : c ≠ 110 ∧ c ≠ 34 := by
      rcases hc with rfl | hc
      · decide
      · constructor
        · rintro rfl
          revert hc
          decide
        · rintro rfl
          revert hc
          decide
    rw [textV_1, readV]
    rw [e] at e2 ⊢
    rw [if_neg (by simp [hne.1]), if_neg (by simp [hne.2])]
    exact e2
  · rw [textV_2, readV]
    rw [if_neg (by simp), if_pos (by simp)]
    have hl : (34 :: quoL t ++ [34]).length = (quoL t).length + 2 := by simp
    rw [if_pos ⟨by omega, by rw [List.getLast?_concat]⟩, hl]
    have hi : ((34 :: quoL t ++ [34]).drop 1).take ((quoL t).length + 2 - 2) = quoL t := by simp
    rw [hi]
    unfold readQ
    rw [unq_quo]
    simp only
    rw [if_neg (by omega)]

theorem text_readI (s : List UInt8) (k n : Int) (t : List UInt8) (h : readI s = (k, n, t, 0)) : textV k n t = s := by
  unfold readI at h
  by_cases hb : isNum (stripNeg s) = false ∨ (isNeg s = true ∧ stripNeg s = [48])
  · rw [if_pos hb] at h
    simp at h
  · rw [if_neg hb] at h
    have hm : isNum (stripNeg s) = true := by
      cases hx : isNum (stripNeg s) with
      | true => rfl
      | false => exact absurd (Or.inl hx) hb
    have hd := num_digits _ hm
    match s with
    | [] => simp [stripNeg, isNum] at hm
    | c :: r =>
      by_cases hc : c = 45
      · subst hc
        have hz : r ≠ [48] := fun e => hb (Or.inr ⟨by simp [isNeg], by rw [strip_neg]; exact e⟩)
        rw [strip_neg] at h hm hd
        rw [isNeg_cons] at h
        simp only [beq_self_eq_true, if_true] at h
        have hp : natFrom 0 r ≠ 0 := by
          intro e
          rw [e, Lib.decDigits, dif_pos (by omega)] at hd
          exact hz hd.symm
        split at h
        · simp only [Prod.mk.injEq] at h
          obtain ⟨rfl, rfl, rfl, _⟩ := h
          rw [textV_1]
          unfold Lib.itoa
          rw [if_pos (by omega)]
          have : (-(natFrom 0 r : Int)).natAbs = natFrom 0 r := by omega
          rw [this, hd]
        · simp at h
      · rw [strip_other c r hc] at h hm hd
        have e : (c == 45) = false := by simpa using hc
        rw [isNeg_cons, e] at h
        simp only [Bool.false_eq_true, if_false] at h
        split at h
        · simp only [Prod.mk.injEq] at h
          obtain ⟨rfl, rfl, rfl, _⟩ := h
          rw [textV_1]
          unfold Lib.itoa
          rw [if_neg (by omega), Int.toNat_natCast, hd]
        · simp at h

theorem text_read (s : List UInt8) (k n : Int) (t : List UInt8) (h : readV s = (k, n, t, 0)) : textV k n t = s := by
  unfold readV at h
  by_cases h1 : s = [110, 105, 108]
  · rw [if_pos h1] at h
    simp only [Prod.mk.injEq] at h
    obtain ⟨rfl, rfl, rfl, _⟩ := h
    rw [h1]
    rfl
  · rw [if_neg h1] at h
    by_cases h2 : s.head? = some 34
    · rw [if_pos h2] at h
      by_cases h3 : 2 ≤ s.length ∧ s.getLast? = some 34
      · rw [if_pos h3] at h
        obtain ⟨h3, h4⟩ := h3
        unfold readQ at h
        match s, h2 with
        | c :: r, h2 =>
          simp only [List.head?_cons, Option.some.injEq] at h2
          subst h2
          rcases List.eq_nil_or_concat r with rfl | ⟨m, d, rfl⟩
          · simp at h3
          · rw [List.concat_eq_append] at *
            have hd : d = 34 := by
              rw [← List.cons_append, List.getLast?_concat] at h4
              simpa using h4
            subst hd
            have hi : ((34 :: (m ++ [34])).drop 1).take ((34 :: (m ++ [34])).length - 2) = m := by simp
            rw [hi] at h
            cases hu : unq m with
            | none => rw [hu] at h; simp at h
            | some t' =>
              rw [hu] at h
              simp only at h
              split at h
              · simp at h
              · simp only [Prod.mk.injEq] at h
                obtain ⟨rfl, rfl, rfl, _⟩ := h
                rw [textV_2, quo_unq m _ hu]
                rfl
      · rw [if_neg h3] at h
        simp at h
    · rw [if_neg h2] at h
      exact text_readI s k n t h
end Go.Proofs.YtmilcgikncecnaaDoor
