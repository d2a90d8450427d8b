/-
  WHAT IS PROVED: plain facts on numbers, ints, texts as bytes, put and taken. No program. No condition. · plain facts on a number's bytes: how many they are, out of its bits; each of them, out of a shift. No program is spoken of. · plain facts: the steps by which package pack's reader takes a number, a text, a flag come to what the chapter says is taken. No program is spoken of.
-/
import Derived.Lib.Hide
import Derived.Lib.BitFns
namespace Go.Proofs.YtahmjiomkaibgaaDoor
open Go

/-- A number's bytes, the highest first, none of them ahead 0. -/
def beB (n : Nat) : List UInt8 := if _h : n = 0 then [] else beB (n / 256) ++ [UInt8.ofNat (n % 256)]
termination_by n
decreasing_by omega
theorem beB_zero : beB 0 = [] := by rw [beB]; simp
theorem beB_pos {n : Nat} (h : n ≠ 0) : beB n = beB (n / 256) ++ [UInt8.ofNat (n % 256)] := by rw [beB]; simp [h]
/-- .. and back. -/
def beV (l : List UInt8) : Nat := l.foldl (fun a c => a * 256 + c.toNat) 0
theorem beV_snoc (l : List UInt8) (c : UInt8) : beV (l ++ [c]) = beV l * 256 + c.toNat := by simp [beV]
theorem beV_nil : beV [] = 0 := rfl
theorem toNat_mod (n : Nat) : (UInt8.ofNat (n % 256)).toNat = n % 256 := by
  rw [UInt8.toNat_ofNat']
  omega
theorem beV_beB (n : Nat) : beV (beB n) = n := by
  induction n using Nat.strongRecOn with
  | _ n ih =>
    by_cases h : n = 0
    · subst h; rw [beB_zero]; rfl
    · rw [beB_pos h, beV_snoc, ih (n / 256) (by omega), toNat_mod]
      omega
theorem beB_ne {n : Nat} (h : n ≠ 0) : beB n ≠ [] := by rw [beB_pos h]; simp
theorem beB_head (n : Nat) : ∀ c t, beB n = c :: t → c ≠ 0 := by
  induction n using Nat.strongRecOn with
  | _ n ih =>
    intro c t e
    by_cases h : n = 0
    · rw [h, beB_zero] at e; cases e
    · rw [beB_pos h] at e
      by_cases h2 : n / 256 = 0
      · rw [h2, beB_zero] at e
        injection e with e _
        intro hc
        have h3 := congrArg UInt8.toNat e
        rw [toNat_mod, hc] at h3
        have : (0 : UInt8).toNat = 0 := rfl
        omega
      · cases hb : beB (n / 256) with
        | nil => exact absurd hb (beB_ne h2)
        | cons d u =>
          rw [hb] at e
          injection e with e _
          rw [← e]
          exact ih (n / 256) (by omega) d u hb
theorem snoc_ind {α : Type} {P : List α → Prop} (h0 : P []) (h1 : ∀ l c, P l → P (l ++ [c])) : ∀ l, P l := by
  have key : ∀ n, ∀ l : List α, l.length = n → P l := by
    intro n
    induction n with
    | zero => intro l hl; rw [List.length_eq_zero_iff.1 hl]; exact h0
    | succ n ih =>
      intro l hl
      have hne : l ≠ [] := by rintro rfl; cases hl
      have e := List.dropLast_concat_getLast hne
      rw [← e]
      exact h1 _ _ (ih _ (by rw [List.length_dropLast]; omega))
  exact fun l => key l.length l rfl
theorem beV_lt : ∀ l : List UInt8, beV l < 256 ^ l.length := by
  refine snoc_ind (by simp [beV]) fun l c ih => ?_
  rw [beV_snoc, List.length_append, List.length_singleton, Nat.pow_succ]
  have := c.toNat_lt
  omega
theorem beV_cons_pos : ∀ (t : List UInt8) (c : UInt8), c ≠ 0 → 1 ≤ beV (c :: t) := by
  refine snoc_ind (fun c hc => ?_) fun l d ih c hc => ?_
  · have : c.toNat ≠ 0 := fun e => hc (UInt8.toNat_inj.1 e)
    simp only [beV, List.foldl_cons, List.foldl_nil]
    omega
  · have := ih c hc
    rw [← List.cons_append, beV_snoc]
    omega
theorem ofNat_mod (c : UInt8) (n : Nat) : UInt8.ofNat ((n * 256 + c.toNat) % 256) = c := by
  apply UInt8.toNat_inj.1
  rw [toNat_mod]
  have := c.toNat_lt
  omega
theorem beB_beV : ∀ l : List UInt8, (∀ c t, l = c :: t → c ≠ 0) → beB (beV l) = l := by
  refine snoc_ind (fun _ => by rw [beV_nil, beB_zero]) fun l c ih hl => ?_
  have hc := c.toNat_lt
  rw [beV_snoc]
  cases l with
  | nil =>
    have h0 : c ≠ 0 := hl c [] rfl
    have : c.toNat ≠ 0 := fun e => h0 (UInt8.toNat_inj.1 e)
    rw [beV_nil, beB_pos (by omega), ofNat_mod, show (0 * 256 + c.toNat) / 256 = 0 by omega, beB_zero]
  | cons d t =>
    have h1 := beV_cons_pos t d (hl d (t ++ [c]) rfl)
    rw [beB_pos (by omega), ofNat_mod, show (beV (d :: t) * 256 + c.toNat) / 256 = beV (d :: t) by omega, ih fun c' t' e => by
      injection e with e1 e2
      rw [← e1]
      exact hl d (t ++ [c]) rfl]
theorem beB_len : ∀ (k n : Nat), n < 256 ^ k → (beB n).length ≤ k
  | 0, n, h => by
    have : n = 0 := by simpa using h
    rw [this, beB_zero]
    simp
  | k + 1, n, h => by
    by_cases h0 : n = 0
    · rw [h0, beB_zero]; simp
    · rw [beB_pos h0, List.length_append, List.length_singleton]
      have := beB_len k (n / 256) (by rw [Nat.pow_succ] at h; omega)
      omega
theorem pow_eight : 256 ^ 8 = 18446744073709551616 := by decide
theorem beB_eight {n : Nat} (h : n < 18446744073709551616) : (beB n).length ≤ 8 := beB_len 8 n (by rw [pow_eight]; exact h)

/-- A number, put. -/
def numB (n : Nat) : List UInt8 := UInt8.ofNat (beB n).length :: beB n
/-- The number at the front, how many bytes; 0: none of at most so much stands there. -/
def takeNum : List UInt8 → Nat → Nat × Nat
  | [], _ => (0, 0)
  | c :: t, most => if 8 < c.toNat ∨ t.length < c.toNat ∨ (0 < c.toNat ∧ t.head? = some 0) then (0, 0) else if most < beV (t.take c.toNat) then (0, 0) else (beV (t.take c.toNat), 1 + c.toNat)
theorem takeNum_cons (c : UInt8) (t : List UInt8) (most : Nat) : takeNum (c :: t) most = if 8 < c.toNat ∨ t.length < c.toNat ∨ (0 < c.toNat ∧ t.head? = some 0) then (0, 0) else if most < beV (t.take c.toNat) then (0, 0) else (beV (t.take c.toNat), 1 + c.toNat) := rfl
theorem numB_len (n : Nat) : (numB n).length = 1 + (beB n).length := by simp [numB, Nat.add_comm]
theorem ofNat_len {n : Nat} (h : n < 18446744073709551616) : (UInt8.ofNat (beB n).length).toNat = (beB n).length := by
  have := beB_eight h
  rw [UInt8.toNat_ofNat']
  omega
/-- What is put is taken. -/
theorem take_num {n most : Nat} (r : List UInt8) (h : n < 18446744073709551616) (hm : n ≤ most) : takeNum (numB n ++ r) most = (n, (numB n).length) := by
  have h8 := beB_eight h
  have hl := ofNat_len h
  show takeNum (UInt8.ofNat (beB n).length :: (beB n ++ r)) most = _
  rw [takeNum_cons, hl, List.take_left, beV_beB]
  rw [if_neg, if_neg (by omega), numB_len]
  rintro (h1 | h1 | ⟨h1, h2⟩)
  · omega
  · rw [List.length_append] at h1; omega
  · cases hb : beB n with
    | nil => rw [hb] at h1; simp at h1
    | cons d u =>
      rw [hb] at h2
      exact beB_head n d u hb (by simpa using h2)
/-- What is taken was put. -/
theorem num_take {b : List UInt8} {most n k : Nat} (h : takeNum b most = (n, k)) (hk : k ≠ 0) : n ≤ most ∧ n < 18446744073709551616 ∧ k = (numB n).length ∧ b = numB n ++ b.drop k ∧ 1 ≤ k ∧ k ≤ 9 := by
  cases b with
  | nil => unfold takeNum at h; injection h with _ h; omega
  | cons c t =>
    rw [takeNum_cons] at h
    by_cases h1 : 8 < c.toNat ∨ t.length < c.toNat ∨ (0 < c.toNat ∧ t.head? = some 0)
    · rw [if_pos h1] at h; injection h with _ h; omega
    · rw [if_neg h1] at h
      by_cases h2 : most < beV (t.take c.toNat)
      · rw [if_pos h2] at h; injection h with _ h; omega
      · rw [if_neg h2] at h
        injection h with e1 e2
        have c8 : ¬ 8 < c.toNat := fun h => h1 (Or.inl h)
        have cl : ¬ t.length < c.toNat := fun h => h1 (Or.inr (Or.inl h))
        have c0 : ¬ (0 < c.toNat ∧ t.head? = some 0) := fun h => h1 (Or.inr (Or.inr h))
        have hlen : (t.take c.toNat).length = c.toNat := by rw [List.length_take]; omega
        have hb : beB n = t.take c.toNat := by
          rw [← e1]
          refine beB_beV _ fun d u e hd => ?_
          cases t with
          | nil => simp at e
          | cons x y =>
            have hx : x = d := by
              cases hcc : c.toNat with
              | zero => rw [hcc] at e; simp at e
              | succ m =>
                rw [hcc, List.take_succ_cons] at e
                injection e
            refine c0 ⟨?_, by rw [hx, hd]; rfl⟩
            cases hcc : c.toNat with
            | zero => rw [hcc] at e; simp at e
            | succ m => omega
        have hlt := beV_lt (t.take c.toNat)
        rw [hlen, e1] at hlt
        have hp : 256 ^ c.toNat ≤ 256 ^ 8 := Nat.pow_le_pow_right (by omega) (by omega)
        rw [pow_eight] at hp
        have hnum : numB n = c :: t.take c.toNat := by
          unfold numB
          rw [hb, hlen]
          congr 1
          apply UInt8.toNat_inj.1
          rw [UInt8.toNat_ofNat']
          have := c.toNat_lt
          omega
        refine ⟨by omega, by omega, ?_, ?_, by omega, by omega⟩
        · rw [hnum, List.length_cons, hlen]; omega
        · rw [hnum, ← e2, show 1 + c.toNat = c.toNat + 1 by omega, List.drop_succ_cons, List.cons_append, List.take_append_drop]
/-- No number's bytes begin another one's. -/
theorem num_apart {a b : Nat} (ha : a < 18446744073709551616) (hb : b < 18446744073709551616) {r s : List UInt8} (h : numB a ++ r = numB b ++ s) : a = b := by
  have h1 := take_num (most := a + b) r ha (by omega)
  have h2 := take_num (most := a + b) s hb (by omega)
  rw [h, h2] at h1
  injection h1 with h1 _
  exact h1.symm

/-- An int as a number. -/
def zig (n : Int) : Nat := if n < 0 then (2 * (-n) - 1).toNat else (2 * n).toNat
def unzig (n : Nat) : Int := if n % 2 = 1 then -1 - ((n / 2 : Nat) : Int) else ((n / 2 : Nat) : Int)
theorem unzig_zig (n : Int) : unzig (zig n) = n := by
  unfold unzig zig
  by_cases h : n < 0
  · rw [if_pos h]
    have e : (2 * (-n) - 1).toNat % 2 = 1 := by omega
    rw [if_pos e]
    omega
  · rw [if_neg h]
    have e : ¬ (2 * n).toNat % 2 = 1 := by omega
    rw [if_neg e]
    omega
theorem zig_unzig (n : Nat) : zig (unzig n) = n := by
  unfold unzig zig
  by_cases h : n % 2 = 1
  · rw [if_pos h, if_pos (by omega)]
    omega
  · rw [if_neg h, if_neg (by omega)]
    omega
theorem zig_lt {n : Int} (h0 : -9223372036854775808 ≤ n) (h1 : n ≤ 9223372036854775807) : zig n < 18446744073709551616 := by
  unfold zig
  split <;> omega
theorem unzig_in {n : Nat} (h : n < 18446744073709551616) : -9223372036854775808 ≤ unzig n ∧ unzig n ≤ 9223372036854775807 := by
  unfold unzig
  split <;> omega
theorem zig_inj {a b : Int} (h : zig a = zig b) : a = b := by rw [← unzig_zig a, h, unzig_zig]
/-- An int, taken. -/
def takeIntB (b : List UInt8) : Int × Nat := (unzig (takeNum b 18446744073709551615).1, (takeNum b 18446744073709551615).2)
theorem take_int {n : Int} (r : List UInt8) (h0 : -9223372036854775808 ≤ n) (h1 : n ≤ 9223372036854775807) : takeIntB (numB (zig n) ++ r) = (n, (numB (zig n)).length) := by
  unfold takeIntB
  have hz := zig_lt h0 h1
  rw [take_num r hz (by omega)]
  show (unzig (zig n), _) = _
  rw [unzig_zig]
/-- A text, put; taken. -/
def textB (s : List UInt8) : List UInt8 := numB s.length ++ s
def takeTextB (b : List UInt8) (most : Nat) : List UInt8 × Nat :=
  if (takeNum b most).2 = 0 ∨ b.length - (takeNum b most).2 < (takeNum b most).1 then ([], 0) else ((b.drop (takeNum b most).2).take (takeNum b most).1, (takeNum b most).2 + (takeNum b most).1)
theorem take_text {s : List UInt8} {most : Nat} (r : List UInt8) (h : s.length < 18446744073709551616) (hm : s.length ≤ most) : takeTextB (textB s ++ r) most = (s, (textB s).length) := by
  unfold takeTextB textB
  rw [List.append_assoc, take_num _ h hm]
  have hl := numB_len s.length
  rw [if_neg]
  · simp
  · rintro (e | e)
    · omega
    · simp at e
      omega
theorem text_take {b : List UInt8} {most k : Nat} {s : List UInt8} (h : takeTextB b most = (s, k)) (hk : k ≠ 0) : s.length ≤ most ∧ s.length < 18446744073709551616 ∧ k = (textB s).length ∧ b = textB s ++ b.drop k := by
  unfold takeTextB at h
  generalize hn : takeNum b most = p at h
  obtain ⟨n, j⟩ := p
  simp only at h
  by_cases h1 : j = 0 ∨ b.length - j < n
  · rw [if_pos h1] at h; injection h with _ h; omega
  · rw [if_neg h1] at h
    injection h with e1 e2
    obtain ⟨a1, a2, a3, a4, _, _⟩ := num_take hn (fun e => h1 (Or.inl e))
    have hl : s.length = n := by
      rw [← e1, List.length_take, List.length_drop]
      have : ¬ b.length - j < n := fun e => h1 (Or.inr e)
      omega
    refine ⟨by omega, by omega, ?_, ?_⟩
    · unfold textB
      rw [List.length_append, hl]
      omega
    · unfold textB
      rw [hl, List.append_assoc]
      conv => lhs; rw [a4]
      congr 1
      rw [← e2, ← e1, ← List.drop_drop, List.take_append_drop]
theorem text_apart {a b : List UInt8} (ha : a.length < 18446744073709551616) (hb : b.length < 18446744073709551616) {r s : List UInt8} (h : textB a ++ r = textB b ++ s) : a = b := by
  have h1 := take_text (most := a.length + b.length) r ha (by omega)
  have h2 := take_text (most := a.length + b.length) s hb (by omega)
  rw [h, h2] at h1
  injection h1 with h1 _
  exact h1.symm
/-- A flag, put; taken. -/
def flagB (f : Bool) : List UInt8 := if f then [1] else [0]
def takeFlagB : List UInt8 → Bool × Nat
  | [] => (false, 0)
  | c :: _ => if 1 < c.toNat then (false, 0) else (c == 1, 1)
theorem take_flag (f : Bool) (r : List UInt8) : takeFlagB (flagB f ++ r) = (f, 1) := by cases f <;> rfl
end Go.Proofs.YtahmjiomkaibgaaDoor

namespace Go.Proofs.YtahmjiomkaibgaaDoor

theorem beB_byte {n : Nat} (h0 : n ≠ 0) (h : n < 256) : beB n = [UInt8.ofNat n] := by
  rw [beB_pos h0, show n / 256 = 0 by omega, beB_zero, Nat.mod_eq_of_lt h]
  rfl
/-- How many bytes a number has, out of how many bits. -/
theorem bits_bytes : ∀ (n : Nat), n < 18446744073709551616 → (Lib.bitLen n + 7) / 8 = (beB n).length := by
  intro n
  induction n using Nat.strongRecOn with
  | _ n ih =>
    intro h
    by_cases h0 : n = 0
    · subst h0
      rw [beB_zero]
      rfl
    · by_cases h1 : n < 256
      · rw [beB_byte h0 h1]
        have h8 : Lib.bitLen n ≤ 8 := Lib.bitLen_le8 ⟨n, h1⟩
        have hp : Lib.bitLen n = 1 + Lib.bitLen (n / 2) := Lib.bitLen_half n h0 h
        show _ = 1
        omega
      · rw [beB_pos h0, List.length_append, ← ih (n / 256) (by omega) (by omega), Lib.bitLen_shift8 n (by omega) h]
        show _ = _ + 1
        omega
/-- Each byte. -/
theorem beB_get : ∀ (n j : Nat), j < (beB n).length → (beB n)[j]? = some (UInt8.ofNat (n / 256 ^ ((beB n).length - 1 - j) % 256)) := by
  intro n
  induction n using Nat.strongRecOn with
  | _ n ih =>
    intro j hj
    by_cases h0 : n = 0
    · subst h0
      rw [beB_zero] at hj
      simp at hj
    · have hp := beB_pos h0
      have hl : (beB n).length = (beB (n / 256)).length + 1 := by rw [hp, List.length_append]; rfl
      rw [hl]
      rw [hl] at hj
      rw [hp]
      by_cases h1 : j < (beB (n / 256)).length
      · rw [List.getElem?_append_left h1, ih (n / 256) (by omega) j h1]
        have e : (beB (n / 256)).length + 1 - 1 - j = ((beB (n / 256)).length - 1 - j) + 1 := by omega
        rw [e, Nat.pow_succ, Nat.mul_comm, ← Nat.div_div_eq_div_mul]
      · have e : j = (beB (n / 256)).length := by omega
        subst e
        rw [List.getElem?_append_right (Nat.le_refl _), Nat.sub_self]
        have e2 : (beB (n / 256)).length + 1 - 1 - (beB (n / 256)).length = 0 := by omega
        rw [e2, Nat.pow_zero, Nat.div_one]
        rfl
theorem pow_shift (k : Nat) : 2 ^ (8 * k) = 256 ^ k := by rw [Nat.pow_mul]
end Go.Proofs.YtahmjiomkaibgaaDoor

namespace Go.Proofs.YtahmjiomkaibgaaDoor

/-- What a reader has left; none: it has an error. -/
abbrev RestM := Option (List UInt8)
def takeM (st : RestM) (n : Nat) : List UInt8 × RestM := match st with
  | none => ([], none)
  | some b => if n ≤ b.length then (b.take n, some (b.drop n)) else ([], none)
def nextM (st : RestM) : UInt8 × RestM := match st with
  | some (c :: t) => (c, some t)
  | _ => (0, none)
/-- An error, if what is asked doesn't hold. -/
def mustM (h : Bool) (st : RestM) : RestM := if h then st else none
def headOk (d : List UInt8) : Bool := match d with
  | [] => true
  | c :: _ => c != 0
/-- What is left behind a number's bytes. -/
def digM (st : RestM) : List UInt8 × RestM := takeM (mustM (decide ((nextM st).1.toNat ≤ 8)) (nextM st).2) (nextM st).1.toNat
def leftM (st : RestM) (most : Nat) : RestM := mustM (decide (beV (digM st).1 ≤ most)) (mustM (headOk (digM st).1) (digM st).2)
def soundM {α : Type} (z : α) (st : RestM) (x : α) : α := match st with
  | none => z
  | some _ => x
theorem mustM_none (h : Bool) : mustM h none = none := by cases h <;> rfl
theorem takeM_len (st : RestM) (n : Nat) : (takeM st n).1.length ≤ n := by
  cases st with
  | none => exact Nat.zero_le _
  | some b =>
    unfold takeM
    by_cases h : n ≤ b.length
    · simp [h]
    · simp [h]
theorem digM_len (st : RestM) : (digM st).1.length ≤ 8 := by
  by_cases h : (nextM st).1.toNat ≤ 8
  · exact Nat.le_trans (takeM_len _ _) h
  · unfold digM
    rw [show mustM (decide ((nextM st).1.toNat ≤ 8)) (nextM st).2 = none by simp [mustM, h]]
    exact Nat.zero_le _
theorem digM_lt (st : RestM) : beV (digM st).1 < 18446744073709551616 := by
  have h1 := beV_lt (digM st).1
  have h2 := Nat.pow_le_pow_right (show 1 ≤ 256 by omega) (digM_len st)
  rw [pow_eight] at h2
  omega
/-- A number is taken just if it stands there. -/
theorem number_is (st : RestM) (most : Nat) : (soundM 0 (leftM st most) (beV (digM st).1), leftM st most) = (match st with
    | none => (0, none)
    | some b => if (takeNum b most).2 = 0 then (0, none) else ((takeNum b most).1, some (b.drop (takeNum b most).2))) := by
  cases st with
  | none =>
    have e : digM none = ([], none) := by simp [digM, nextM, takeM, mustM_none]
    simp [leftM, e, mustM_none, soundM]
  | some b =>
    cases b with
    | nil =>
      have e : digM (some []) = ([], none) := by simp [digM, nextM, takeM, mustM_none]
      simp [leftM, e, mustM_none, soundM, takeNum]
    | cons c t =>
      simp only [takeNum_cons]
      have hn : nextM (some (c :: t)) = (c, some t) := rfl
      by_cases h8 : 8 < c.toNat
      · have e : digM (some (c :: t)) = ([], none) := by
          unfold digM
          rw [hn]
          have h8' : ¬ c.toNat ≤ 8 := by omega
          simp [mustM, takeM, h8']
        simp [leftM, e, mustM_none, soundM, h8]
      · by_cases hl : t.length < c.toNat
        · have e : digM (some (c :: t)) = ([], none) := by
            unfold digM
            rw [hn]
            have h8' : c.toNat ≤ 8 := by omega
            have hl' : ¬ c.toNat ≤ t.length := by omega
            simp [mustM, takeM, h8', hl']
          simp [leftM, e, mustM_none, soundM, hl]
        · have h8' : c.toNat ≤ 8 := by omega
          have hl' : c.toNat ≤ t.length := by omega
          have e : digM (some (c :: t)) = (t.take c.toNat, some (t.drop c.toNat)) := by
            unfold digM
            rw [hn]
            simp [mustM, takeM, h8', hl']
          by_cases hz : 0 < c.toNat ∧ t.head? = some 0
          · have hh : headOk (t.take c.toNat) = false := by
              obtain ⟨h0, h1⟩ := hz
              cases t with
              | nil => simp at h1
              | cons x r =>
                simp at h1
                subst h1
                obtain ⟨k, hk⟩ : ∃ k, c.toNat = k + 1 := ⟨c.toNat - 1, by omega⟩
                rw [hk]
                rfl
            simp [leftM, e, hh, mustM, soundM, hz]
          · have hh : headOk (t.take c.toNat) = true := by
              cases hc : t.take c.toNat with
              | nil => rfl
              | cons x r =>
                show (x != 0) = true
                simp only [bne_iff_ne, ne_eq]
                intro hx
                subst hx
                refine hz ⟨?_, ?_⟩
                · rcases Nat.eq_zero_or_pos c.toNat with h | h
                  · rw [h] at hc
                    simp at hc
                  · exact h
                · cases t with
                  | nil => simp at hc
                  | cons y q =>
                    obtain ⟨k, hk⟩ : ∃ k, c.toNat = k + 1 := by
                      rcases Nat.eq_zero_or_pos c.toNat with h | h
                      · rw [h] at hc
                        simp at hc
                      · exact ⟨c.toNat - 1, by omega⟩
                    rw [hk, List.take_succ_cons] at hc
                    injection hc with hc _
                    simp [hc]
            have hc : ¬ (8 < c.toNat ∨ t.length < c.toNat ∨ (0 < c.toNat ∧ t.head? = some 0)) := by
              rintro (h | h | h)
              · omega
              · omega
              · exact hz h
            simp only [if_neg hc]
            by_cases hm : most < beV (t.take c.toNat)
            · have hm' : ¬ beV (t.take c.toNat) ≤ most := by omega
              simp [leftM, e, mustM, soundM, hm, hm']
            · have hm' : beV (t.take c.toNat) ≤ most := by omega
              simp only [if_neg hm]
              simp [leftM, e, hh, mustM, soundM, hm', Nat.add_comm 1]
end Go.Proofs.YtahmjiomkaibgaaDoor
