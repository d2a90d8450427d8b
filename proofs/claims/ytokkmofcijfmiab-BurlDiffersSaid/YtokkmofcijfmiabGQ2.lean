/-
  WHAT IS PROVED: plain facts on numbers, ints, texts as bytes, put and taken. No program. No condition. · plain facts on a number's bytes: how many they are, out of its bits; each of them, out of a shift. No program is spoken of. · a row of one byte; a byte of a number, out of a shift. Over any program that bears the types named. · the document's bytes of numbers, ints, texts and flags (spinneyref05), for all. Conditions: those typed in each theorem. · the document's bytes of good values (spinneyref05.Value). Conditions: those typed in the theorem.
-/
import Derived.Lib.Hide
import Derived.Lib.BitFns
import Derived.Test.YtokkmofcijfmiabGQ0
import Derived.IntWalk
import Derived.Lib.AppendStr
import Derived.Test.YtokkmofcijfmiabGQ1
namespace Go.Proofs.Ytokkmofcijfmiab
open Go

/-- A number's bytes, the highest first, none of them ahead 0. -/
def beB (n : Nat) : List UInt8 := if _h : n = 0 then [] else beB (n / 256) ++ [UInt8.ofNat (n % 256)]
termination_by n
decreasing_by omega
theorem beB_zero : beB 0 = [] := by rw [beB]; simp
theorem beB_pos {n : Nat} (h : n ≠ 0) : beB n = beB (n / 256) ++ [UInt8.ofNat (n % 256)] := by rw [beB]; simp [h]
/-- .. and back. -/
def beV (l : List UInt8) : Nat := l.foldl (fun a c => a * 256 + c.toNat) 0
theorem beV_snoc (l : List UInt8) (c : UInt8) : beV (l ++ [c]) = beV l * 256 + c.toNat := by simp [beV]
theorem beV_nil : beV [] = 0 := rfl
theorem toNat_mod (n : Nat) : (UInt8.ofNat (n % 256)).toNat = n % 256 := by
  rw [UInt8.toNat_ofNat']
  omega
theorem beV_beB (n : Nat) : beV (beB n) = n := by
  induction n using Nat.strongRecOn with
  | _ n ih =>
    by_cases h : n = 0
    · subst h; rw [beB_zero]; rfl
    · rw [beB_pos h, beV_snoc, ih (n / 256) (by omega), toNat_mod]
      omega
theorem beB_ne {n : Nat} (h : n ≠ 0) : beB n ≠ [] := by rw [beB_pos h]; simp
theorem beB_head (n : Nat) : ∀ c t, beB n = c :: t → c ≠ 0 := by
  induction n using Nat.strongRecOn with
  | _ n ih =>
    intro c t e
    by_cases h : n = 0
    · rw [h, beB_zero] at e; cases e
    · rw [beB_pos h] at e
      by_cases h2 : n / 256 = 0
      · rw [h2, beB_zero] at e
        injection e with e _
        intro hc
        have h3 := congrArg UInt8.toNat e
        rw [toNat_mod, hc] at h3
        have : (0 : UInt8).toNat = 0 := rfl
        omega
      · cases hb : beB (n / 256) with
        | nil => exact absurd hb (beB_ne h2)
        | cons d u =>
          rw [hb] at e
          injection e with e _
          rw [← e]
          exact ih (n / 256) (by omega) d u hb
theorem snoc_ind {α : Type} {P : List α → Prop} (h0 : P []) (h1 : ∀ l c, P l → P (l ++ [c])) : ∀ l, P l := by
  have key : ∀ n, ∀ l : List α, l.length = n → P l := by
    intro n
    induction n with
    | zero => intro l hl; rw [List.length_eq_zero_iff.1 hl]; exact h0
    | succ n ih =>
      intro l hl
      have hne : l ≠ [] := by rintro rfl; cases hl
      have e := List.dropLast_concat_getLast hne
      rw [← e]
      exact h1 _ _ (ih _ (by rw [List.length_dropLast]; omega))
  exact fun l => key l.length l rfl
theorem beV_lt : ∀ l : List UInt8, beV l < 256 ^ l.length := by
  refine snoc_ind (by simp [beV]) fun l c ih => ?_
  rw [beV_snoc, List.length_append, List.length_singleton, Nat.pow_succ]
  have := c.toNat_lt
  omega
theorem beV_cons_pos : ∀ (t : List UInt8) (c : UInt8), c ≠ 0 → 1 ≤ beV (c :: t) := by
  refine snoc_ind (fun c hc => ?_) fun l d ih c hc => ?_
  · have : c.toNat ≠ 0 := fun e => hc (UInt8.toNat_inj.1 e)
    simp only [beV, List.foldl_cons, List.foldl_nil]
    omega
  · have := ih c hc
    rw [← List.cons_append, beV_snoc]
    omega
theorem ofNat_mod (c : UInt8) (n : Nat) : UInt8.ofNat ((n * 256 + c.toNat) % 256) = c := by
  apply UInt8.toNat_inj.1
  rw [toNat_mod]
  have := c.toNat_lt
  omega
theorem beB_beV : ∀ l : List UInt8, (∀ c t, l = c :: t → c ≠ 0) → beB (beV l) = l := by
  refine snoc_ind (fun _ => by rw [beV_nil, beB_zero]) fun l c ih hl => ?_
  have hc := c.toNat_lt
  rw [beV_snoc]
  cases l with
  | nil =>
    have h0 : c ≠ 0 := hl c [] rfl
    have : c.toNat ≠ 0 := fun e => h0 (UInt8.toNat_inj.1 e)
    rw [beV_nil, beB_pos (by omega), ofNat_mod, show (0 * 256 + c.toNat) / 256 = 0 by omega, beB_zero]
  | cons d t =>
    have h1 := beV_cons_pos t d (hl d (t ++ [c]) rfl)
    rw [beB_pos (by omega), ofNat_mod, show (beV (d :: t) * 256 + c.toNat) / 256 = beV (d :: t) by omega, ih fun c' t' e => by
      injection e with e1 e2
      rw [← e1]
      exact hl d (t ++ [c]) rfl]
theorem beB_len : ∀ (k n : Nat), n < 256 ^ k → (beB n).length ≤ k
  | 0, n, h => by
    have : n = 0 := by simpa using h
    rw [this, beB_zero]
    simp
  | k + 1, n, h => by
    by_cases h0 : n = 0
    · rw [h0, beB_zero]; simp
    · rw [beB_pos h0, List.length_append, List.length_singleton]
      have := beB_len k (n / 256) (by rw [Nat.pow_succ] at h; omega)
      omega
theorem pow_eight : 256 ^ 8 = 18446744073709551616 := by decide
theorem beB_eight {n : Nat} (h : n < 18446744073709551616) : (beB n).length ≤ 8 := beB_len 8 n (by rw [pow_eight]; exact h)

/-- A number, put. -/
def numB (n : Nat) : List UInt8 := UInt8.ofNat (beB n).length :: beB n
/-- The number at the front, how many bytes; 0: none of at most so much stands there. -/
def takeNum : List UInt8 → Nat → Nat × Nat
  | [], _ => (0, 0)
  | c :: t, most => if 8 < c.toNat ∨ t.length < c.toNat ∨ (0 < c.toNat ∧ t.head? = some 0) then (0, 0) else if most < beV (t.take c.toNat) then (0, 0) else (beV (t.take c.toNat), 1 + c.toNat)
theorem takeNum_cons (c : UInt8) (t : List UInt8) (most : Nat) : takeNum (c :: t) most = if 8 < c.toNat ∨ t.length < c.toNat ∨ (0 < c.toNat ∧ t.head? = some 0) then (0, 0) else if most < beV (t.take c.toNat) then (0, 0) else (beV (t.take c.toNat), 1 + c.toNat) := rfl
theorem numB_len (n : Nat) : (numB n).length = 1 + (beB n).length := by simp [numB, Nat.add_comm]
theorem ofNat_len {n : Nat} (h : n < 18446744073709551616) : (UInt8.ofNat (beB n).length).toNat = (beB n).length := by
  have := beB_eight h
  rw [UInt8.toNat_ofNat']
  omega
/-- What is put is taken. -/
theorem take_num {n most : Nat} (r : List UInt8) (h : n < 18446744073709551616) (hm : n ≤ most) : takeNum (numB n ++ r) most = (n, (numB n).length) := by
  have h8 := beB_eight h
  have hl := ofNat_len h
  show takeNum (UInt8.ofNat (beB n).length :: (beB n ++ r)) most = _
  rw [takeNum_cons, hl, List.take_left, beV_beB]
  rw [if_neg, if_neg (by omega), numB_len]
  rintro (h1 | h1 | ⟨h1, h2⟩)
  · omega
  · rw [List.length_append] at h1; omega
  · cases hb : beB n with
    | nil => rw [hb] at h1; simp at h1
    | cons d u =>
      rw [hb] at h2
      exact beB_head n d u hb (by simpa using h2)
/-- What is taken was put. -/
theorem num_take {b : List UInt8} {most n k : Nat} (h : takeNum b most = (n, k)) (hk : k ≠ 0) : n ≤ most ∧ n < 18446744073709551616 ∧ k = (numB n).length ∧ b = numB n ++ b.drop k ∧ 1 ≤ k ∧ k ≤ 9 := by
  cases b with
  | nil => unfold takeNum at h; injection h with _ h; omega
  | cons c t =>
    rw [takeNum_cons] at h
    by_cases h1 : 8 < c.toNat ∨ t.length < c.toNat ∨ (0 < c.toNat ∧ t.head? = some 0)
    · rw [if_pos h1] at h; injection h with _ h; omega
    · rw [if_neg h1] at h
      by_cases h2 : most < beV (t.take c.toNat)
      · rw [if_pos h2] at h; injection h with _ h; omega
      · rw [if_neg h2] at h
        injection h with e1 e2
        have c8 : ¬ 8 < c.toNat := fun h => h1 (Or.inl h)
        have cl : ¬ t.length < c.toNat := fun h => h1 (Or.inr (Or.inl h))
        have c0 : ¬ (0 < c.toNat ∧ t.head? = some 0) := fun h => h1 (Or.inr (Or.inr h))
        have hlen : (t.take c.toNat).length = c.toNat := by rw [List.length_take]; omega
        have hb : beB n = t.take c.toNat := by
          rw [← e1]
          refine beB_beV _ fun d u e hd => ?_
          cases t with
          | nil => simp at e
          | cons x y =>
            have hx : x = d := by
              cases hcc : c.toNat with
              | zero => rw [hcc] at e; simp at e
              | succ m =>
                rw [hcc, List.take_succ_cons] at e
                injection e
            refine c0 ⟨?_, by rw [hx, hd]; rfl⟩
            cases hcc : c.toNat with
            | zero => rw [hcc] at e; simp at e
            | succ m => omega
        have hlt := beV_lt (t.take c.toNat)
        rw [hlen, e1] at hlt
        have hp : 256 ^ c.toNat ≤ 256 ^ 8 := Nat.pow_le_pow_right (by omega) (by omega)
        rw [pow_eight] at hp
        have hnum : numB n = c :: t.take c.toNat := by
          unfold numB
          rw [hb, hlen]
          congr 1
          apply UInt8.toNat_inj.1
          rw [UInt8.toNat_ofNat']
          have := c.toNat_lt
          omega
        refine ⟨by omega, by omega, ?_, ?_, by omega, by omega⟩
        · rw [hnum, List.length_cons, hlen]; omega
        · rw [hnum, ← e2, show 1 + c.toNat = c.toNat + 1 by omega, List.drop_succ_cons, List.cons_append, List.take_append_drop]
/-- No number's bytes begin another one's. -/
theorem num_apart {a b : Nat} (ha : a < 18446744073709551616) (hb : b < 18446744073709551616) {r s : List UInt8} (h : numB a ++ r = numB b ++ s) : a = b := by
  have h1 := take_num (most := a + b) r ha (by omega)
  have h2 := take_num (most := a + b) s hb (by omega)
  rw [h, h2] at h1
  injection h1 with h1 _
  exact h1.symm

/-- An int as a number. -/
def zig (n : Int) : Nat := if n < 0 then (2 * (-n) - 1).toNat else (2 * n).toNat
def unzig (n : Nat) : Int := if n % 2 = 1 then -1 - ((n / 2 : Nat) : Int) else ((n / 2 : Nat) : Int)
theorem unzig_zig (n : Int) : unzig (zig n) = n := by
  unfold unzig zig
  by_cases h : n < 0
  · rw [if_pos h]
    have e : (2 * (-n) - 1).toNat % 2 = 1 := by omega
    rw [if_pos e]
    omega
  · rw [if_neg h]
    have e : ¬ (2 * n).toNat % 2 = 1 := by omega
    rw [if_neg e]
    omega
theorem zig_unzig (n : Nat) : zig (unzig n) = n := by
  unfold unzig zig
  by_cases h : n % 2 = 1
  · rw [if_pos h, if_pos (by omega)]
    omega
  · rw [if_neg h, if_neg (by omega)]
    omega
theorem zig_lt {n : Int} (h0 : -9223372036854775808 ≤ n) (h1 : n ≤ 9223372036854775807) : zig n < 18446744073709551616 := by
  unfold zig
  split <;> omega
theorem unzig_in {n : Nat} (h : n < 18446744073709551616) : -9223372036854775808 ≤ unzig n ∧ unzig n ≤ 9223372036854775807 := by
  unfold unzig
  split <;> omega
theorem zig_inj {a b : Int} (h : zig a = zig b) : a = b := by rw [← unzig_zig a, h, unzig_zig]
/-- An int, taken. -/
def takeIntB (b : List UInt8) : Int × Nat := (unzig (takeNum b 18446744073709551615).1, (takeNum b 18446744073709551615).2)
theorem take_int {n : Int} (r : List UInt8) (h0 : -9223372036854775808 ≤ n) (h1 : n ≤ 9223372036854775807) : takeIntB (numB (zig n) ++ r) = (n, (numB (zig n)).length) := by
  unfold takeIntB
  have hz := zig_lt h0 h1
  rw [take_num r hz (by omega)]
  show (unzig (zig n), _) = _
  rw [unzig_zig]
/-- A text, put; taken. -/
def textB (s : List UInt8) : List UInt8 := numB s.length ++ s
def takeTextB (b : List UInt8) (most : Nat) : List UInt8 × Nat :=
  if (takeNum b most).2 = 0 ∨ b.length - (takeNum b most).2 < (takeNum b most).1 then ([], 0) else ((b.drop (takeNum b most).2).take (takeNum b most).1, (takeNum b most).2 + (takeNum b most).1)
theorem take_text {s : List UInt8} {most : Nat} (r : List UInt8) (h : s.length < 18446744073709551616) (hm : s.length ≤ most) : takeTextB (textB s ++ r) most = (s, (textB s).length) := by
  unfold takeTextB textB
  rw [List.append_assoc, take_num _ h hm]
  have hl := numB_len s.length
  rw [if_neg]
  · simp
  · rintro (e | e)
    · omega
    · simp at e
      omega
theorem text_take {b : List UInt8} {most k : Nat} {s : List UInt8} (h : takeTextB b most = (s, k)) (hk : k ≠ 0) : s.length ≤ most ∧ s.length < 18446744073709551616 ∧ k = (textB s).length ∧ b = textB s ++ b.drop k := by
  unfold takeTextB at h
  generalize hn : takeNum b most = p at h
  obtain ⟨n, j⟩ := p
  simp only at h
  by_cases h1 : j = 0 ∨ b.length - j < n
  · rw [if_pos h1] at h; injection h with _ h; omega
  · rw [if_neg h1] at h
    injection h with e1 e2
    obtain ⟨a1, a2, a3, a4, _, _⟩ := num_take hn (fun e => h1 (Or.inl e))
    have hl : s.length = n := by
      rw [← e1, List.length_take, List.length_drop]
      have : ¬ b.length - j < n := fun e => h1 (Or.inr e)
      omega
    refine ⟨by omega, by omega, ?_, ?_⟩
    · unfold textB
      rw [List.length_append, hl]
      omega
    · unfold textB
      rw [hl, List.append_assoc]
      conv => lhs; rw [a4]
      congr 1
      rw [← e2, ← e1, ← List.drop_drop, List.take_append_drop]
theorem text_apart {a b : List UInt8} (ha : a.length < 18446744073709551616) (hb : b.length < 18446744073709551616) {r s : List UInt8} (h : textB a ++ r = textB b ++ s) : a = b := by
  have h1 := take_text (most := a.length + b.length) r ha (by omega)
  have h2 := take_text (most := a.length + b.length) s hb (by omega)
  rw [h, h2] at h1
  injection h1 with h1 _
  exact h1.symm
/-- A flag, put; taken. -/
def flagB (f : Bool) : List UInt8 := if f then [1] else [0]
def takeFlagB : List UInt8 → Bool × Nat
  | [] => (false, 0)
  | c :: _ => if 1 < c.toNat then (false, 0) else (c == 1, 1)
theorem take_flag (f : Bool) (r : List UInt8) : takeFlagB (flagB f ++ r) = (f, 1) := by cases f <;> rfl
end Go.Proofs.Ytokkmofcijfmiab

namespace Go.Proofs.Ytokkmofcijfmiab

theorem beB_byte {n : Nat} (h0 : n ≠ 0) (h : n < 256) : beB n = [UInt8.ofNat n] := by
  rw [beB_pos h0, show n / 256 = 0 by omega, beB_zero, Nat.mod_eq_of_lt h]
  rfl
/-- How many bytes a number has, out of how many bits. -/
theorem bits_bytes : ∀ (n : Nat), n < 18446744073709551616 → (Lib.bitLen n + 7) / 8 = (beB n).length := by
  intro n
  induction n using Nat.strongRecOn with
  | _ n ih =>
    intro h
    by_cases h0 : n = 0
    · subst h0
      rw [beB_zero]
      rfl
    · by_cases h1 : n < 256
      · rw [beB_byte h0 h1]
        have h8 : Lib.bitLen n ≤ 8 := Lib.bitLen_le8 ⟨n, h1⟩
        have hp : Lib.bitLen n = 1 + Lib.bitLen (n / 2) := Lib.bitLen_half n h0 h
        show _ = 1
        omega
      · rw [beB_pos h0, List.length_append, ← ih (n / 256) (by omega) (by omega), Lib.bitLen_shift8 n (by omega) h]
        show _ = _ + 1
        omega
/-- Each byte. -/
theorem beB_get : ∀ (n j : Nat), j < (beB n).length → (beB n)[j]? = some (UInt8.ofNat (n / 256 ^ ((beB n).length - 1 - j) % 256)) := by
  intro n
  induction n using Nat.strongRecOn with
  | _ n ih =>
    intro j hj
    by_cases h0 : n = 0
    · subst h0
      rw [beB_zero] at hj
      simp at hj
    · have hp := beB_pos h0
      have hl : (beB n).length = (beB (n / 256)).length + 1 := by rw [hp, List.length_append]; rfl
      rw [hl]
      rw [hl] at hj
      rw [hp]
      by_cases h1 : j < (beB (n / 256)).length
      · rw [List.getElem?_append_left h1, ih (n / 256) (by omega) j h1]
        have e : (beB (n / 256)).length + 1 - 1 - j = ((beB (n / 256)).length - 1 - j) + 1 := by omega
        rw [e, Nat.pow_succ, Nat.mul_comm, ← Nat.div_div_eq_div_mul]
      · have e : j = (beB (n / 256)).length := by omega
        subst e
        rw [List.getElem?_append_right (Nat.le_refl _), Nat.sub_self]
        have e2 : (beB (n / 256)).length + 1 - 1 - (beB (n / 256)).length = 0 := by omega
        rw [e2, Nat.pow_zero, Nat.div_one]
        rfl
theorem pow_shift (k : Nat) : 2 ^ (8 * k) = 256 ^ k := by rw [Nat.pow_mul]
end Go.Proofs.Ytokkmofcijfmiab

namespace Go.Proofs.Ytokkmofcijfmiab
open Go.RowKit

/-- One byte in a row of its own. -/
theorem litB (w : World) {base : Nat} (z : Int) (c : UInt8) (h : z = (c.toNat : Int)) (hb : base ≤ w.heap.size) : OwnB base (w.alloc (.cells #[.int .u8 z] 5)) (some ⟨w.heap.size, 0, none⟩) 1 1 [c] := by
  subst h
  exact OwnB.lit w #[.int .u8 (c.toNat : Int)] [c] rfl rfl hb (by unfold maxLen; omega)
theorem shift_byte (x i : Nat) : (x : Int) / 2 ^ (8 * i) % 256 = ((UInt8.ofNat (x / 256 ^ i % 256)).toNat : Int) := by
  rw [toNat_mod, ← pow_shift, Int.natCast_emod, Int.natCast_ediv, Int.natCast_pow]
  rfl

end Go.Proofs.Ytokkmofcijfmiab

namespace Go.Proofs.Ytokkmofcijfmiab
open Go.RowKit

/-- A row of bytes that a call answered. -/
def PutP (w : World) (l : List UInt8) (e : Ending) (w' : World) : Prop :=
  (∃ (A : Option Addr) (n c : Nat), e = .returned (.slice A n c) ∧ OwnB w.heap.size w' A n c l) ∧ Below w.heap.size w w'

theorem mod_byte (v : Nat) : (v : Int) % 256 = ((UInt8.ofNat (v % 256)).toNat : Int) := by
  rw [toNat_mod]
  omega

theorem wrap_quo {v n : Nat} (hv : v ≤ n) (hn : n < 18446744073709551616) : IntKind.u64.wrap ((v : Int) / 256) = ((v / 256 : Nat) : Int) := by
  rw [IntKind.wrap_u64]
  omega

set_option maxRecDepth 100000 in
set_option maxHeartbeats 1000000 in
theorem refNumber_any (n : Nat) (w : World) (hn : n < 18446744073709551616) :
    Calls Try.prog 82 #[.int .u64 n] w fun e w' => PutP w (numB n) e w' := by
  obtain ⟨i0, hi0, hz0, hz1, hz2⟩ := info_parts byt_info
  have h8 := beB_eight hn
  have H8 := Lib.hid h8
  have HN := Lib.hid hn
  clear h8 hn
  go_enter Try.func82, Try.ntmps82
  go_wp2_with fail
  go_loopw [0, 3] (fun t u wr => ∃ (v : Nat) (A : Option Addr) (k c : Nat) (l : List UInt8), t = .int .u64 v ∧ u = .slice A k c ∧ v ≤ n ∧ OwnB w.heap.size wr A k c l ∧ Hid (beB n = beB v ++ l) ∧ Below w.heap.size w wr) (fun t _ _ => (intOf t).toNat)
  case atStart => exact ⟨n, none, 0, 0, [], rfl, rfl, Nat.le_refl _, OwnB.nil _ _, by simp [Hid], Below.refl _ _⟩
  case round =>
    obtain ⟨v, A, k, c, l, rfl, rfl, hv, hO, hL, hB⟩ := hrel
    have hk := hO.len
    have hk8 : k ≤ 8 := by
      have h1 := congrArg List.length hL.out
      rw [List.length_append, hk] at h1
      have := H8.out
      omega
    have HK := Lib.hid hk
    clear hk
    by_cases h0 : v = 0
    · have g0 : decide (0 < v) = false := by simp; omega
      have HL : Hid (numB n = UInt8.ofNat k :: l) := by
        have h1 := hL.out
        rw [h0, beB_zero, List.nil_append] at h1
        show _ = _
        unfold numB
        rw [h1, HK.out]
      have hz : (k : Int) = ((UInt8.ofNat k).toNat : Int) := by rw [UInt8.toNat_ofNat']; omega
      have hown := litB wr (base := w.heap.size) (k : Int) (UInt8.ofNat k) hz hB.size
      have hrd := hO.rd.keep (b0 wr (.cells #[.int .u8 (k : Int)] 5)) (Nat.le_refl _)
      have hB2 := hB.alloc hB.size (.cells #[.int .u8 (k : Int)] 5)
      have q1 : (k : Int) ≤ 8 := by omega
      have q2 : (0 : Int) ≤ (k : Int) := by omega
      have HZ := Lib.hid hz
      clear h0 hz
      go_wp2_with (at_builtin; refine wpList_apB (base := w.heap.size) (n := 1) (m := k) (l := [UInt8.ofNat k]) (l2 := l) (by rfl) _ _ (by rfl) Try.underlying58 Try.underlying58 hi0 hz0 hz1 hz2 (by rfl) (by rfl) hown hrd HK.out (1 + k) rfl (by omega) hB2.size ?_; intro A5 c5 w5 hO5 hb5 hg5)
      go_ret
      exact ⟨⟨A5, 1 + k, c5, rfl, by rw [HL.out]; exact hO5⟩, hB2.trans hb5⟩
    · have g0 : (0 : Int) < (v : Int) := by omega
      have HL : Hid (beB n = beB (v / 256) ++ ([UInt8.ofNat (v % 256)] ++ l)) := by
        show _ = _
        rw [hL.out, beB_pos h0, List.append_assoc]
      have HQ := Lib.hid (wrap_quo hv HN.out)
      have hown := litB wr (base := w.heap.size) ((v : Int) % 256) (UInt8.ofNat (v % 256)) (mod_byte v) hB.size
      have hrd := hO.rd.keep (b0 wr (.cells #[.int .u8 ((v : Int) % 256)] 5)) (Nat.le_refl _)
      have hB2 := hB.alloc hB.size (.cells #[.int .u8 ((v : Int) % 256)] 5)
      go_wp2_with (at_builtin; refine wpList_apB (base := w.heap.size) (n := 1) (m := k) (l := [UInt8.ofNat (v % 256)]) (l2 := l) (by rfl) _ _ (by rfl) Try.underlying58 Try.underlying58 hi0 hz0 hz1 hz2 (by rfl) (by rfl) hown hrd HK.out (1 + k) rfl (by omega) hB2.size ?_; intro A5 c5 w5 hO5 hb5 hg5)
      go_roundw
      case rel => exact ⟨v / 256, A5, 1 + k, c5, [UInt8.ofNat (v % 256)] ++ l, by rw [HQ.out], rfl, by omega, hO5, HL, hB2.trans hb5⟩
      case measure => simp only [intOf, HQ.out]; omega

theorem zig_neg {n : Int} (h : n < 0) (h0 : -9223372036854775808 ≤ n) : IntKind.u64.wrap (IntKind.u64.wrap (2 * IntKind.u64.wrap (-IntKind.u64.wrap n)) - 1) = ((zig n : Nat) : Int) := by
  unfold zig
  rw [if_pos h]
  simp only [IntKind.wrap_u64]
  omega
theorem zig_pos {n : Int} (h : ¬ n < 0) (h1 : n ≤ 9223372036854775807) : IntKind.u64.wrap (2 * IntKind.u64.wrap n) = ((zig n : Nat) : Int) := by
  unfold zig
  rw [if_neg h]
  simp only [IntKind.wrap_u64]
  omega

set_option maxRecDepth 100000 in
set_option maxHeartbeats 1000000 in
theorem refPInt_any (n : Int) (w : World) (h0 : -9223372036854775808 ≤ n) (h1 : n ≤ 9223372036854775807) :
    Calls Try.prog 83 #[.int .i64 n] w fun e w' => PutP w (numB (zig n)) e w' := by
  have HZ := Lib.hid (zig_lt h0 h1)
  by_cases hn : n < 0
  · have HE := Lib.hid (zig_neg hn h0)
    clear h0 h1
    go_enter Try.func83, Try.ntmps83
    go_wp2_with fail
    rw [HE.out]
    refine (refNumber_any _ w HZ.out).mono ?_
    rintro e w1 ⟨⟨A, m, c, rfl, hO⟩, hb⟩
    go_wp2_with fail
    go_ret
    exact ⟨⟨A, m, c, rfl, hO⟩, hb⟩
  · have HE := Lib.hid (zig_pos hn h1)
    clear h0 h1
    go_enter Try.func83, Try.ntmps83
    go_wp2_with fail
    rw [HE.out]
    refine (refNumber_any _ w HZ.out).mono ?_
    rintro e w1 ⟨⟨A, m, c, rfl, hO⟩, hb⟩
    go_wp2_with fail
    go_ret
    exact ⟨⟨A, m, c, rfl, hO⟩, hb⟩

theorem strCells_is (s : ByteArray) : Lib.strCells s = bytV s.data.toList := rfl
section
variable {P : Program} {w : World} {t u : TypeId} {i : TypeInfo} {base : Nat} {A : Option Addr} {n c : Nat} {l : List UInt8} {o : Oper} {a : Act} {Q : Exit → Act → World → Prop} {ops : Array Oper}
theorem run_apT {ty : TypeId} (ht : P.underlying t = some (.slice 5)) (hu : P.underlying u = some .string) (hi : P.info? 5 = some i) (hz : i.zero = some (.int .u8 0)) (hs : i.size = 1) (hy : i.bytes = 1)
    (hown : OwnB base w A n c l) (s : ByteArray) (hsz : n + s.size ≤ 1099511627776) (hbase : base ≤ w.heap.size) :
    ∃ A' c' w', (Builtin.append_ #[t, u] ty #[.slice A n c, .string s]).run P w = .ok (.slice A' (n + s.size) c') w' ∧ OwnB base w' A' (n + s.size) c' (l ++ s.data.toList) ∧ Below base w w' ∧ w.grownBy w' (A.map (·.block)) := by
  obtain ⟨v', w', hrun, h2, h3, _⟩ := Lib.run_append_own_string (P := P) w base t u ty 5 i ht hu hi hz hs hy (.slice A n c) n (bytV l) hown s (by unfold maxLen; omega) (by omega) hbase
  have hb : Below base w w' := (Below.refl base w).grown h3 hbase (fun k hk => (World.ownsRow.lt hown k hk).1)
  have hv : ∃ A' c', v' = .slice A' (n + s.size) c' := by
    rcases h2.2 with ⟨e1, e2⟩ | ⟨g, cap, cur, e1, _⟩
    · exact ⟨none, 0, by rw [e1, e2]⟩
    · exact ⟨_, _, e1⟩
  obtain ⟨A', c', rfl⟩ := hv
  refine ⟨A', c', w', hrun, ?_, hb, by cases A <;> exact h3⟩
  unfold OwnB
  rw [show bytV (l ++ s.data.toList) = bytV l ++ bytV s.data.toList from List.map_append]
  exact h2
theorem wp_apT {K : Act → World → Prop} (sl x : Operand) (ho : o.op = .call { callee := .builtin .append, args := #[sl, x], argTypes := #[t, u] })
    (ht : P.underlying t = some (.slice 5)) (hu : P.underlying u = some .string) (hi : P.info? 5 = some i) (hz : i.zero = some (.int .u8 0)) (hs : i.size = 1) (hy : i.bytes = 1) (s : ByteArray)
    (h1 : a.eval sl = .slice A n c) (h2 : a.eval x = .string s) (hown : OwnB base w A n c l) (N : Nat) (hN : n + s.size = N) (hsz : n + s.size ≤ 1099511627776) (hbase : base ≤ w.heap.size)
    (h : ∀ A' c' w', OwnB base w' A' N c' (l ++ s.data.toList) → Below base w w' → w.grownBy w' (A.map (·.block)) → K (a.put o.dst (.slice A' N c')) w') : o.wp P a w K Q := by
  subst hN
  obtain ⟨A', c', w', hrun, k1, k2, k3⟩ := run_apT (P := P) (ty := o.type) (w := w) ht hu hi hz hs hy hown s hsz hbase
  unfold Oper.wp execOp
  simp only [ho, resolve, invoke, builtin, Sem.run_bind, Sem.run_pure, Result.andThen_ok, List.map_toArray, List.map_cons, List.map_nil, h1, h2, hrun]
  exact h A' c' w' k1 k2 k3
theorem wpList_apT {rest : List Oper} (hgd : o.guard = none) (sl x : Operand) (ho : o.op = .call { callee := .builtin .append, args := #[sl, x], argTypes := #[t, u] })
    (ht : P.underlying t = some (.slice 5)) (hu : P.underlying u = some .string) (hi : P.info? 5 = some i) (hz : i.zero = some (.int .u8 0)) (hs : i.size = 1) (hy : i.bytes = 1) (s : ByteArray)
    (h1 : a.eval sl = .slice A n c) (h2 : a.eval x = .string s) (hown : OwnB base w A n c l) (N : Nat) (hN : n + s.size = N) (hsz : n + s.size ≤ 1099511627776) (hbase : base ≤ w.heap.size)
    (h : ∀ A' c' w', OwnB base w' A' N c' (l ++ s.data.toList) → Below base w w' → w.grownBy w' (A.map (·.block)) → wpList P ops Q rest (a.put o.dst (.slice A' N c')) w') : wpList P ops Q (o :: rest) a w :=
  wpList_plain hgd fun _ hK => wp_apT sl x ho ht hu hi hz hs hy s h1 h2 hown N hN hsz hbase fun A' c' w' k1 k2 k3 => hK _ _ (h A' c' w' k1 k2 k3)
end

theorem numB_small {n : Nat} (h : n < 18446744073709551616) : (numB n).length ≤ 9 := by
  have := beB_eight h
  rw [numB_len]
  omega
theorem wrap_size {n : Nat} (h : n ≤ 1099511627776) : IntKind.u64.wrap (n : Int) = (n : Int) := by
  rw [IntKind.wrap_u64]
  omega

set_option maxRecDepth 100000 in
set_option maxHeartbeats 1000000 in
theorem refPText_any (s : ByteArray) (w : World) (hs : s.size ≤ 1000000) :
    Calls Try.prog 69 #[.string s] w fun e w' => PutP w (textB s.data.toList) e w' := by
  obtain ⟨i0, hi0, hz0, hz1, hz2⟩ := info_parts byt_info
  have hl : s.data.toList.length = s.size := Array.length_toList
  have HL := Lib.hid hl
  clear hl
  have s0 : (0 : Int) ≤ (s.size : Int) := by omega
  have s1 : (s.size : Int) ≤ 1000000 := by omega
  go_enter Try.func69, Try.ntmps69
  go_wp2_with fail
  refine (refNumber_any s.size w (by omega)).mono ?_
  rintro e w1 ⟨⟨A, m, c, rfl, hO⟩, hb⟩
  have hm := numB_small (n := s.size) (by omega)
  have hk := hO.len
  have hm2 : m ≤ 9 := by omega
  clear hm hk
  go_wp2_with (at_builtin; refine wpList_apT (base := w.heap.size) (n := m) (l := numB s.size) (by rfl) _ _ (by rfl) Try.underlying58 Try.underlying9 hi0 hz0 hz1 hz2 s (by rfl) (by rfl) hO (m + s.size) rfl (by omega) hb.size ?_; intro A5 c5 w5 hO5 hb5 hg5)
  go_ret
  refine ⟨⟨A5, m + s.size, c5, rfl, ?_⟩, hb.trans hb5⟩
  unfold textB
  rw [HL.out]
  exact hO5
end Go.Proofs.Ytokkmofcijfmiab

namespace Go.Proofs.Ytokkmofcijfmiab
open Go.RowKit

/-- A value's bytes. -/
def valB (k n : Int) (s : List UInt8) : List UInt8 := numB k.toNat ++ (if k = 1 then numB (zig n) else if k = 2 then textB s else [])

theorem textB_small {s : ByteArray} (h : s.size ≤ 1000000) : (textB s.data.toList).length ≤ 1000009 := by
  have hl : s.data.toList.length = s.size := Array.length_toList
  have := numB_small (n := s.size) (by omega)
  unfold textB
  rw [List.length_append, hl]
  omega
theorem valB_0 (n : Int) (s : List UInt8) : valB 0 n s = numB 0 := by simp [valB]
theorem valB_1 (n : Int) (s : List UInt8) : valB 1 n s = numB 1 ++ numB (zig n) := by simp [valB]
theorem valB_2 (n : Int) (s : List UInt8) : valB 2 n s = numB 2 ++ textB s := by simp [valB]

set_option maxRecDepth 100000 in
set_option maxHeartbeats 1000000 in
theorem refPValue_any (k n : Int) (s : ByteArray) (w : World) (hk : k = 0 ∨ k = 1 ∨ k = 2) (h0 : -9223372036854775808 ≤ n) (h1 : n ≤ 9223372036854775807) (hs : s.size ≤ 1000000) :
    Calls Try.prog 70 #[.agg #[.int .i64 k, .int .i64 n, .string s]] w fun e w' => PutP w (valB k n s.data.toList) e w' := by
  obtain ⟨i0, hi0, hz0, hz1, hz2⟩ := info_parts byt_info
  have H0 := Lib.hid h0
  have H1 := Lib.hid h1
  clear h0 h1
  rcases hk with rfl | rfl | rfl
  all_goals
    go_enter Try.func70, Try.ntmps70
    go_wp2_with fail
  · have hC := blk_new w #[.int .i64 0, .int .i64 n, .string s] 31
    have hB := b0 w (.cells #[.int .i64 0, .int .i64 n, .string s] 31)
    generalize w.alloc (.cells #[.int .i64 0, .int .i64 n, .string s] 31) = W at hC hB ⊢
    refine (refNumber_any 0 W (by omega)).mono ?_
    rintro e w1 ⟨⟨A, m, c, rfl, hO⟩, hb⟩
    obtain ⟨c0, c1, c2, c3⟩ := (hC.keep hb).c3
    go_wp2_with fail
    go_ret
    exact ⟨⟨A, m, c, rfl, by rw [valB_0]; exact hO.less hB.size⟩, bt hB hb⟩
  · have hC := blk_new w #[.int .i64 1, .int .i64 n, .string s] 31
    have hB := b0 w (.cells #[.int .i64 1, .int .i64 n, .string s] 31)
    generalize w.alloc (.cells #[.int .i64 1, .int .i64 n, .string s] 31) = W at hC hB ⊢
    refine (refNumber_any 1 W (by omega)).mono ?_
    rintro e w1 ⟨⟨A, m, c, rfl, hO⟩, hb⟩
    have hC1 := hC.keep hb
    obtain ⟨c0, c1, c2, c3⟩ := hC1.c3
    have hk1 := hO.len
    have hm1 : m ≤ 9 := by have := numB_small (n := 1) (by omega); omega
    clear hk1
    go_wp2_with fail
    refine (refPInt_any n w1 H0.out H1.out).mono ?_
    rintro e w2 ⟨⟨A2, m2, d, rfl, hO2⟩, hb2⟩
    have hC2 := hC1.keep hb2
    obtain ⟨d0, d1, d2, d3⟩ := hC2.c3
    have hk2 := hO2.len
    have HK2 := Lib.hid hk2
    have hm2 : m2 ≤ 9 := by have := numB_small (zig_lt H0.out H1.out); omega
    clear hk2 c0 c1 c2 c3
    have hO1 := hO.keep hb2
    have hBB := bt hb hb2
    go_wp2_with (at_builtin; refine wpList_apB (base := W.heap.size) (n := m) (m := m2) (l := numB 1) (l2 := numB (zig n)) (by rfl) _ _ (by rfl) Try.underlying58 Try.underlying58 hi0 hz0 hz1 hz2 (by rfl) (by rfl) hO1 hO2.rd HK2.out (m + m2) rfl (by omega) hBB.size ?_; intro A5 c5 w5 hO5 hb5 hg5; obtain ⟨q0, q1, q2, q3⟩ := (hC.keep (hBB.trans hb5)).c3)
    go_ret
    exact ⟨⟨A5, m + m2, c5, rfl, by rw [valB_1]; exact hO5.less hB.size⟩, bt hB (hBB.trans hb5)⟩
  · have hC := blk_new w #[.int .i64 2, .int .i64 n, .string s] 31
    have hB := b0 w (.cells #[.int .i64 2, .int .i64 n, .string s] 31)
    generalize w.alloc (.cells #[.int .i64 2, .int .i64 n, .string s] 31) = W at hC hB ⊢
    refine (refNumber_any 2 W (by omega)).mono ?_
    rintro e w1 ⟨⟨A, m, c, rfl, hO⟩, hb⟩
    have hC1 := hC.keep hb
    obtain ⟨c0, c1, c2, c3⟩ := hC1.c3
    have hk1 := hO.len
    have hm1 : m ≤ 9 := by have := numB_small (n := 2) (by omega); omega
    clear hk1
    go_wp2_with fail
    refine (refPText_any s w1 hs).mono ?_
    rintro e w2 ⟨⟨A2, m2, d, rfl, hO2⟩, hb2⟩
    have hC2 := hC1.keep hb2
    obtain ⟨d0, d1, d2, d3⟩ := hC2.c3
    have hk2 := hO2.len
    have HK2 := Lib.hid hk2
    have hm2 : m2 ≤ 1000009 := by have := textB_small hs; omega
    clear hk2 c0 c1 c2 c3
    have hO1 := hO.keep hb2
    have hBB := bt hb hb2
    go_wp2_with (at_builtin; refine wpList_apB (base := W.heap.size) (n := m) (m := m2) (l := numB 2) (l2 := textB s.data.toList) (by rfl) _ _ (by rfl) Try.underlying58 Try.underlying58 hi0 hz0 hz1 hz2 (by rfl) (by rfl) hO1 hO2.rd HK2.out (m + m2) rfl (by omega) hBB.size ?_; intro A5 c5 w5 hO5 hb5 hg5; obtain ⟨q0, q1, q2, q3⟩ := (hC.keep (hBB.trans hb5)).c3)
    go_ret
    exact ⟨⟨A5, m + m2, c5, rfl, by rw [valB_2]; exact hO5.less hB.size⟩, bt hB (hBB.trans hb5)⟩
end Go.Proofs.Ytokkmofcijfmiab
