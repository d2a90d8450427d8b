/-
  WHAT IS PROVED: plain facts on the sum CRC-32C: it is told by exclusive or on numbers below 2^32; bytes of one length that differ in one byte have different sums. No program. No condition. · the document's sum (spinneyref06.bit, turned, Sum) is crcL, for every slice of bytes. Conditions: those typed in each theorem. · the document's frame of a kind and bytes (spinneyref06.Seal) is sealL. Conditions: those typed in the theorem. · the document's taking of a frame from bytes (spinneyref06.Take) is takeF. Conditions: those typed in the theorem. · plain facts: four bits of the sum CRC-32C at once, by a table of sixteen numbers; the sixteen numbers. No program is spoken of. · plain facts: what frames one behind the other are of (a relation, and that it tells its answers); frames that were sealed, one behind the other, the last one torn or whole. · words for slices of pieces (own work): a slice that reads as a list of pieces (a kind, and bytes), nil let in; such a row that the call owns; append of one piece onto it. Over any program that bears the types named. · the document's opening of a frame (spinneyref06.Open) is openF; as definitions, what the walks of layer 6's statements take of package frame's calls (they are proved elsewhere, of the code itself); the chapter's examples hold, if the calls answer so. · closed facts on the entries by which errors.As of Go's own text is walked, where package frame calls it: with a target of its type 'number', of an error of that type, or of its type 'wrongLength' (which wraps such a one). Conditions: those typed in each theorem. · errors.As of Go's own text, walked, with a target of package frame's type 'number', of an error of that type, and of one of its type 'wrongLength', which wraps such a one: true, and the target holds the number. Conditions: those typed in each theorem. · package frame's Sum is crcL, for every slice of bytes; sumAt is what four bytes say. Conditions: those typed in each theorem. · more words for a row of bytes that the call owns: where it lies, that it may be written, a store into it. Over any program. · package wide's Put: behind bytes a number's lowest bytes, the highest first. Conditions: those typed in each theorem.
-/
import GoSem.Claim
import Derived.Test.YtpjleeeligahaaaGreatDoorGQ0
import Derived.Test.YtpjleeeligahaaaGreatDoorGQ3
import Derived.Test.YtpjleeeligahaaaGreatDoorGQ2
import Derived.Deep.RegionHeld3
import Derived.BigRegion
import Derived.IntWalk
import Derived.Stop.LaidErr
import Derived.Lib.SmallJoins
import Derived.WalkKit
import Derived.LaidEql
import Derived.Stop.Asserts
import Derived.RowKitTokens
import Derived.Lib.ReflectliteSlice
import Derived.Laws.BitsLemmas
import Derived.Lib.EndianBits
import Derived.Test.YtpjleeeligahaaaGreatDoorGQ1
namespace Go.Proofs.YtpjleeeligahaaaGreatDoor

theorem xor_lt {a b : Nat} (h : a < 4294967296) (k : b < 4294967296) : a ^^^ b < 4294967296 := Nat.xor_lt_two_pow (n := 32) h k
/-- One bit. -/
def crcStep (c : Nat) : Nat := if c % 2 = 1 then (c / 2) ^^^ 2197175160 else c / 2
theorem crcStep_lt {c : Nat} (h : c < 4294967296) : crcStep c < 4294967296 := by
  unfold crcStep
  split
  · exact xor_lt (by omega) (by omega)
  · omega
theorem top_set {d : Nat} (h : d < 2147483648) : 2147483648 ≤ d ^^^ 2197175160 := by
  have h1 : (d ^^^ 2197175160).testBit 31 = true := by
    rw [Nat.testBit_xor, Nat.testBit_lt_two_pow (show d < 2 ^ 31 from h)]
    decide
  refine Nat.le_of_not_lt fun h2 => ?_
  have h3 := Nat.testBit_lt_two_pow (i := 31) (show d ^^^ 2197175160 < 2 ^ 31 from h2)
  rw [h1] at h3
  cases h3
theorem xor_cancel_right {a b c : Nat} (h : a ^^^ c = b ^^^ c) : a = b := by
  have := congrArg (· ^^^ c) h
  simpa [Nat.xor_assoc] using this
theorem xor_cancel_left {a b c : Nat} (h : c ^^^ a = c ^^^ b) : a = b := by
  rw [Nat.xor_comm c a, Nat.xor_comm c b] at h
  exact xor_cancel_right h
theorem crcStep_inj {c d : Nat} (hc : c < 4294967296) (hd : d < 4294967296) (h : crcStep c = crcStep d) : c = d := by
  unfold crcStep at h
  by_cases h1 : c % 2 = 1
  · rw [if_pos h1] at h
    by_cases h2 : d % 2 = 1
    · rw [if_pos h2] at h
      have := xor_cancel_right h
      omega
    · rw [if_neg h2] at h
      have := top_set (d := c / 2) (by omega)
      omega
  · rw [if_neg h1] at h
    by_cases h2 : d % 2 = 1
    · rw [if_pos h2] at h
      have := top_set (d := d / 2) (by omega)
      omega
    · rw [if_neg h2] at h
      omega
/-- So many bits. -/
def crcSteps : Nat → Nat → Nat
  | 0, c => c
  | k + 1, c => crcSteps k (crcStep c)
theorem crcSteps_succ : ∀ (k c : Nat), crcSteps (k + 1) c = crcStep (crcSteps k c)
  | 0, _ => rfl
  | k + 1, c => by
    show crcSteps (k + 1) (crcStep c) = _
    rw [crcSteps_succ k (crcStep c)]
    rfl
theorem crcSteps_lt : ∀ (k : Nat) {c : Nat}, c < 4294967296 → crcSteps k c < 4294967296
  | 0, _, h => h
  | k + 1, _, h => crcSteps_lt k (crcStep_lt h)
theorem crcSteps_inj : ∀ (k : Nat) {c d : Nat}, c < 4294967296 → d < 4294967296 → crcSteps k c = crcSteps k d → c = d
  | 0, _, _, _, _, h => h
  | k + 1, _, _, hc, hd, h => crcStep_inj hc hd (crcSteps_inj k (crcStep_lt hc) (crcStep_lt hd) h)
/-- One byte. -/
def crcByte (c : Nat) (b : UInt8) : Nat := crcSteps 8 (c ^^^ b.toNat)
theorem byte_lt (b : UInt8) : b.toNat < 4294967296 := Nat.lt_trans b.toNat_lt (by decide)
theorem crcByte_lt {c : Nat} (h : c < 4294967296) (b : UInt8) : crcByte c b < 4294967296 := crcSteps_lt 8 (xor_lt h (byte_lt b))
theorem crcByte_inj {c d : Nat} {b : UInt8} (hc : c < 4294967296) (hd : d < 4294967296) (h : crcByte c b = crcByte d b) : c = d :=
  xor_cancel_right (crcSteps_inj 8 (xor_lt hc (byte_lt b)) (xor_lt hd (byte_lt b)) h)
theorem crcByte_inj2 {c : Nat} {b b' : UInt8} (hc : c < 4294967296) (h : crcByte c b = crcByte c b') : b = b' :=
  UInt8.toNat_inj.1 (xor_cancel_left (crcSteps_inj 8 (xor_lt hc (byte_lt b)) (xor_lt hc (byte_lt b')) h))
/-- Where the bytes lead. -/
def crcTo (c : Nat) (l : List UInt8) : Nat := l.foldl crcByte c
theorem crcTo_snoc (c : Nat) (l : List UInt8) (b : UInt8) : crcTo c (l ++ [b]) = crcByte (crcTo c l) b := by simp [crcTo]
theorem crcTo_lt : ∀ (l : List UInt8) {c : Nat}, c < 4294967296 → crcTo c l < 4294967296
  | [], _, h => h
  | b :: t, _, h => crcTo_lt t (crcByte_lt h b)
theorem crcTo_inj : ∀ (l : List UInt8) {c d : Nat}, c < 4294967296 → d < 4294967296 → crcTo c l = crcTo d l → c = d
  | [], _, _, _, _, h => h
  | b :: t, _, _, hc, hd, h => crcByte_inj hc hd (crcTo_inj t (crcByte_lt hc b) (crcByte_lt hd b) h)
/-- The sum. -/
def crcL (l : List UInt8) : Nat := 4294967295 - crcTo 4294967295 l
theorem crcL_lt (l : List UInt8) : crcL l < 4294967296 := by unfold crcL; omega
/-- Two rows that differ in one byte have different sums. -/
theorem crcL_one {l r : List UInt8} {b b' : UInt8} (h : crcL (l ++ b :: r) = crcL (l ++ b' :: r)) : b = b' := by
  unfold crcL at h
  have h1 := crcTo_lt (l ++ b :: r) (c := 4294967295) (by decide)
  have h2 := crcTo_lt (l ++ b' :: r) (c := 4294967295) (by decide)
  have h3 : crcTo 4294967295 (l ++ b :: r) = crcTo 4294967295 (l ++ b' :: r) := by omega
  have e : ∀ x : UInt8, crcTo 4294967295 (l ++ x :: r) = crcTo (crcByte (crcTo 4294967295 l) x) r := fun x => by simp [crcTo]
  have hl := crcTo_lt l (c := 4294967295) (by decide)
  rw [e, e] at h3
  exact crcByte_inj2 hl (crcTo_inj r (crcByte_lt hl b) (crcByte_lt hl b') h3)
/-- Exclusive or, bit by bit from below. -/
theorem xor_bits (a b i : Nat) : (a ^^^ b) % 2 ^ (i + 1) = (a ^^^ b) % 2 ^ i + (if (a / 2 ^ i % 2 == 1) != (b / 2 ^ i % 2 == 1) then 2 ^ i else 0) := by
  have h1 : (a ^^^ b) % 2 ^ (i + 1) = (a ^^^ b) % 2 ^ i + 2 ^ i * ((a ^^^ b) / 2 ^ i % 2) := by
    rw [Nat.pow_succ, Nat.mod_mul]
  rw [h1]
  congr 1
  have ht : ((a ^^^ b).testBit i) = ((a.testBit i) != (b.testBit i)) := Nat.testBit_xor a b i
  rw [Nat.testBit_eq_decide_div_mod_eq, Nat.testBit_eq_decide_div_mod_eq, Nat.testBit_eq_decide_div_mod_eq] at ht
  have e : ∀ n : Nat, decide (n % 2 = 1) = (n % 2 == 1) := fun n => by rw [Bool.eq_iff_iff]; simp
  rw [e, e, e] at ht
  rw [← ht]
  have h2 : (a ^^^ b) / 2 ^ i % 2 = 0 ∨ (a ^^^ b) / 2 ^ i % 2 = 1 := by omega
  rcases h2 with h | h <;> simp [h]
end Go.Proofs.YtpjleeeligahaaaGreatDoor

namespace Go.Proofs.YtpjleeeligahaaaGreatDoor
open Go.RowKit

end Go.Proofs.YtpjleeeligahaaaGreatDoor

namespace Go.Proofs.YtpjleeeligahaaaGreatDoor
open Go.RowKit

/-- Four bytes of a number, the highest first. -/
def fourB (c : Nat) : List UInt8 := [UInt8.ofNat (c / 16777216), UInt8.ofNat (c / 65536 % 256), UInt8.ofNat (c / 256 % 256), UInt8.ofNat (c % 256)]
/-- A frame ahead of its sum. -/
def bodyL (k : UInt8) (l : List UInt8) : List UInt8 := [229, k, UInt8.ofNat (l.length / 65536), UInt8.ofNat (l.length / 256 % 256), UInt8.ofNat (l.length % 256)] ++ l
/-- A frame. -/
def sealL (k : UInt8) (l : List UInt8) : List UInt8 := bodyL k l ++ fourB (crcL (bodyL k l))
theorem bodyL_len (k : UInt8) (l : List UInt8) : (bodyL k l).length = 5 + l.length := by simp [bodyL]; omega
theorem sealL_len (k : UInt8) (l : List UInt8) : (sealL k l).length = 9 + l.length := by simp [sealL, bodyL_len, fourB]; omega
theorem of_small {x : Nat} (h : x < 256) : ((UInt8.ofNat x).toNat : Int) = (x : Int) := by
  rw [UInt8.toNat_ofNat']
  omega

end Go.Proofs.YtpjleeeligahaaaGreatDoor

namespace Go.Proofs.YtpjleeeligahaaaGreatDoor
open Go.RowKit

def byteAt (b : List UInt8) (i : Nat) : UInt8 := b.getD i 0
/-- How many bytes are inside, by the beginning. -/
def lenF (b : List UInt8) : Nat := 65536 * (byteAt b 2).toNat + 256 * (byteAt b 3).toNat + (byteAt b 4).toNat
/-- The kind, the inside, how long, the error. -/
def takeF (b : List UInt8) : UInt8 × List UInt8 × Nat × Nat :=
  if b.length < 9 ∨ byteAt b 0 ≠ 229 then (0, [], 0, 2)
  else if 100000 < lenF b ∨ b.length < lenF b + 9 then (0, [], 0, 2)
  else if sealL (byteAt b 1) ((b.drop 5).take (lenF b)) ≠ b.take (lenF b + 9) then (0, [], lenF b + 9, 4)
  else (byteAt b 1, (b.drop 5).take (lenF b), lenF b + 9, 0)
/-- What Take answers. -/
def TakeFP (B : Nat) (r : UInt8 × List UInt8 × Nat × Nat) (w : World) (e : Ending) (w' : World) : Prop :=
  (∃ (A : Option Addr) (c : Nat), e = .returned (.tuple #[.int .u8 (r.1.toNat : Int), .slice A r.2.1.length c, .int .i64 (r.2.2.1 : Nat), .int .i64 (r.2.2.2 : Nat)]) ∧ RdB B w' A r.2.1) ∧ Below w.heap.size w w'
theorem byteAt_get {b : List UInt8} {i : Nat} (h : i < b.length) : b[i]? = some (byteAt b i) := by
  unfold byteAt
  rw [List.getD_eq_getElem?_getD, List.getElem?_eq_getElem h]
  rfl
theorem five {B : Nat} {w : World} {A : Option Addr} {b : List UInt8} (hr : RdB B w A b) (h : 5 ≤ b.length) : ∃ ad, A = some ad ∧ ad.block < B ∧ w.cell? ad = some (.int .u8 ((byteAt b 0).toNat : Int)) ∧ w.cell? ⟨ad.block, ad.off + 1, none⟩ = some (.int .u8 ((byteAt b 1).toNat : Int)) ∧
    w.cell? ⟨ad.block, ad.off + 2, none⟩ = some (.int .u8 ((byteAt b 2).toNat : Int)) ∧ w.cell? ⟨ad.block, ad.off + 3, none⟩ = some (.int .u8 ((byteAt b 3).toNat : Int)) ∧ w.cell? ⟨ad.block, ad.off + 4, none⟩ = some (.int .u8 ((byteAt b 4).toNat : Int)) := by
  obtain ⟨ad, rfl, hbl, c0⟩ := hr 0 _ (byteAt_get (by omega))
  have g : ∀ i, i < 5 → w.cell? (ad.add i) = some (.int .u8 ((byteAt b i).toNat : Int)) := fun i hi => by
    obtain ⟨a2, e, _, c⟩ := hr i _ (byteAt_get (by omega))
    injection e with e
    subst e
    exact c
  refine ⟨ad, rfl, hbl, ?_, g 1 (by omega), g 2 (by omega), g 3 (by omega), g 4 (by omega)⟩
  have := g 0 (by omega)
  simpa [Addr.add] using this

theorem results_tmp4 {fn : Func} {t u v x : Tmp} (h : fn.results = #[.tmp t, .tmp u, .tmp v, .tmp x]) (tmps : Array Value) (P : Program) (w : World) :
    (results fn tmps).run P w = .ok (.tuple #[tmps.getD t undef, tmps.getD u undef, tmps.getD v undef, tmps.getD x undef]) w := by
  simp [results, h]
end Go.Proofs.YtpjleeeligahaaaGreatDoor

namespace Go.Proofs.YtpjleeeligahaaaGreatDoor

theorem crcStep_xor (a b : Nat) : crcStep (a ^^^ b) = crcStep a ^^^ crcStep b := by
  unfold crcStep
  have h := @Nat.xor_mod_two_eq_one a b
  rw [Nat.xor_div_two]
  by_cases ha : a % 2 = 1
  · by_cases hb : b % 2 = 1
    · rw [if_pos ha, if_pos hb, if_neg (by simp [h, ha, hb])]
      rw [Nat.xor_assoc, ← Nat.xor_assoc 2197175160, Nat.xor_comm 2197175160 (b / 2), Nat.xor_assoc (b / 2), Nat.xor_self, Nat.xor_zero]
    · rw [if_pos ha, if_neg hb, if_pos (by rw [h]; simp [ha, hb])]
      rw [Nat.xor_assoc, Nat.xor_comm (b / 2), ← Nat.xor_assoc]
  · by_cases hb : b % 2 = 1
    · rw [if_neg ha, if_pos hb, if_pos (by rw [h]; simp [ha, hb])]
      rw [Nat.xor_assoc]
    · rw [if_neg ha, if_neg hb, if_neg (by simp [h, ha, hb])]
theorem crcSteps_xor : ∀ (k a b : Nat), crcSteps k (a ^^^ b) = crcSteps k a ^^^ crcSteps k b
  | 0, _, _ => rfl
  | k + 1, a, b => by
    show crcSteps k (crcStep (a ^^^ b)) = crcSteps k (crcStep a) ^^^ crcSteps k (crcStep b)
    rw [crcStep_xor, crcSteps_xor k]
/-- So many bits at once. -/
theorem crcSteps_low : ∀ (k c : Nat), crcSteps k c = (c / 2 ^ k) ^^^ crcSteps k (c % 2 ^ k)
  | 0, c => by
    show c = (c / 1) ^^^ (c % 1)
    rw [Nat.div_one, Nat.mod_one, Nat.xor_zero]
  | k + 1, c => by
    have e1 : c % (2 * 2 ^ k) % 2 = c % 2 := Nat.mod_mul_right_mod c 2 (2 ^ k)
    have e2 : c % (2 * 2 ^ k) / 2 = c / 2 % 2 ^ k := Nat.mod_mul_right_div_self c 2 (2 ^ k)
    have e3 : c / 2 / 2 ^ k = c / (2 * 2 ^ k) := Nat.div_div_eq_div_mul c 2 (2 ^ k)
    show crcSteps k (crcStep c) = (c / 2 ^ (k + 1)) ^^^ crcSteps k (crcStep (c % 2 ^ (k + 1)))
    rw [Nat.pow_succ, Nat.mul_comm (2 ^ k) 2]
    unfold crcStep
    rw [e1, e2]
    by_cases h : c % 2 = 1
    · rw [if_pos h, if_pos h, crcSteps_xor, crcSteps_xor, crcSteps_low k (c / 2), e3, Nat.xor_assoc]
    · rw [if_neg h, if_neg h, crcSteps_low k (c / 2), e3]
theorem crcSteps_add : ∀ (j k c : Nat), crcSteps (j + k) c = crcSteps k (crcSteps j c)
  | 0, k, c => by rw [Nat.zero_add]; rfl
  | j + 1, k, c => by
    rw [show j + 1 + k = (j + k) + 1 by omega]
    exact crcSteps_add j k (crcStep c)
/-- Four bits. -/
theorem nib (c : Nat) : crcSteps 4 c = (c / 16) ^^^ crcSteps 4 (c % 16) := crcSteps_low 4 c
theorem crcByte_nib (c : Nat) (b : UInt8) : crcByte c b = crcSteps 4 (crcSteps 4 (c ^^^ b.toNat)) := crcSteps_add 4 4 _
/-- The table. -/
def nibT : Array Nat := #[0, 274646895, 549293790, 820201905, 1098587580, 1361435347, 1640403810, 1905808397, 2197175160, 2460548119, 2722870694, 2987750089, 3280807620, 3553878443, 3811616794, 4084100981]
theorem nibT_is : ∀ i : Fin 16, nibT[i.val]? = some (crcSteps 4 i.val) := by decide +kernel
theorem nibT_at {i : Nat} (h : i < 16) : nibT[i]? = some (crcSteps 4 i) := nibT_is ⟨i, h⟩
end Go.Proofs.YtpjleeeligahaaaGreatDoor

namespace Go.Proofs.YtpjleeeligahaaaGreatDoor

/-- A kind, and bytes. -/
abbrev Pc := UInt8 × List UInt8
/-- Bytes, what the frames at their beginning are of, how many bytes these have, what is wrong with the first that is none. -/
inductive ScanR : List UInt8 → List Pc → Nat → Nat → Prop
  | done : ScanR [] [] 0 0
  | stop {b : List UInt8} (hb : b ≠ []) (h : (takeF b).2.2.2 ≠ 0) : ScanR b [] 0 (takeF b).2.2.2
  | more {b : List UInt8} {l : List Pc} {m code : Nat} (hb : b ≠ []) (h : (takeF b).2.2.2 = 0) (k : ScanR (b.drop (takeF b).2.2.1) l m code) : ScanR b (((takeF b).1, (takeF b).2.1) :: l) ((takeF b).2.2.1 + m) code
theorem ScanR.det {b : List UInt8} {l : List Pc} {m code : Nat} (h : ScanR b l m code) : ∀ {l' : List Pc} {m' code' : Nat}, ScanR b l' m' code' → l = l' ∧ m = m' ∧ code = code' := by
  induction h with
  | done =>
    intro l' m' code' k
    cases k with
    | done => exact ⟨rfl, rfl, rfl⟩
    | stop hb _ => exact absurd rfl hb
    | more hb _ _ => exact absurd rfl hb
  | stop hb h =>
    intro l' m' code' k
    cases k with
    | done => exact absurd rfl hb
    | stop _ _ => exact ⟨rfl, rfl, rfl⟩
    | more _ h2 _ => exact absurd h2 h
  | more hb h _ ih =>
    intro l' m' code' k
    cases k with
    | done => exact absurd rfl hb
    | stop _ h2 => exact absurd h h2
    | more _ _ k2 =>
      obtain ⟨e1, e2, e3⟩ := ih k2
      exact ⟨by rw [e1], by rw [e2], e3⟩
/-- One step. -/
theorem ScanR.step {b : List UInt8} {l : List Pc} {m code : Nat} (h : ScanR b l m code) : (b = [] ∧ l = [] ∧ m = 0 ∧ code = 0) ∨ (b ≠ [] ∧ (takeF b).2.2.2 ≠ 0 ∧ l = [] ∧ m = 0 ∧ code = (takeF b).2.2.2) ∨
    (b ≠ [] ∧ (takeF b).2.2.2 = 0 ∧ ∃ l' m', l = ((takeF b).1, (takeF b).2.1) :: l' ∧ m = (takeF b).2.2.1 + m' ∧ ScanR (b.drop (takeF b).2.2.1) l' m' code) := by
  cases h with
  | done => exact .inl ⟨rfl, rfl, rfl, rfl⟩
  | stop hb h => exact .inr (.inl ⟨hb, h, rfl, rfl, rfl⟩)
  | more hb h k => exact .inr (.inr ⟨hb, h, _, _, rfl, rfl, k⟩)
/-- What is taken is in the bytes. -/
theorem takeF_fits {b : List UInt8} (h : (takeF b).2.2.2 = 0) : 9 ≤ (takeF b).2.2.1 ∧ (takeF b).2.2.1 ≤ b.length ∧ (takeF b).2.1.length + 9 = (takeF b).2.2.1 := by
  unfold takeF at h ⊢
  by_cases h1 : b.length < 9 ∨ byteAt b 0 ≠ 229
  · rw [if_pos h1] at h
    simp at h
  · rw [if_neg h1] at h ⊢
    by_cases h2 : 100000 < lenF b ∨ b.length < lenF b + 9
    · rw [if_pos h2] at h
      simp at h
    · rw [if_neg h2] at h ⊢
      split at h
      · simp at h
      · rename_i h3
        rw [if_neg h3]
        simp only [List.length_take, List.length_drop]
        omega
theorem ScanR.le {b : List UInt8} {l : List Pc} {m code : Nat} (h : ScanR b l m code) : m ≤ b.length ∧ l.length * 9 ≤ b.length ∧ code ≤ 4 := by
  induction h with
  | done => exact ⟨by simp, by simp, by omega⟩
  | @stop b hb h =>
    refine ⟨by simp, by simp, ?_⟩
    unfold takeF
    split
    · show 2 ≤ 4; omega
    · split
      · show 2 ≤ 4; omega
      · split
        · show 4 ≤ 4; omega
        · show 0 ≤ 4; omega
  | more hb h _ ih =>
    have := takeF_fits h
    rw [List.length_drop] at ih
    simp only [List.length_cons]
    omega
end Go.Proofs.YtpjleeeligahaaaGreatDoor

namespace Go.Proofs.YtpjleeeligahaaaGreatDoor
open Go.RowKit

/-- The slice at A reads as the pieces l, in blocks below B. -/
def RdPc (B : Nat) (W : World) (A : Option Addr) (l : List Pc) : Prop :=
  ∀ k p, l[k]? = some p → ∃ ad A' c, A = some ad ∧ ad.block < B ∧ W.cell? (ad.add (k * 2)) = some (.int .u8 (p.1.toNat : Int)) ∧ W.cell? ⟨(ad.add (k * 2)).block, (ad.add (k * 2)).off + 1, none⟩ = some (.slice A' p.2.length c) ∧ RdB B W A' p.2
theorem RdPc.nil (B : Nat) (W : World) (A : Option Addr) : RdPc B W A [] := fun k p h => by simp at h
theorem RdPc.keep {B C : Nat} {W W' : World} {A : Option Addr} {l : List Pc} (h : RdPc B W A l) (hb : Below C W W') (hBC : B ≤ C) : RdPc B W' A l := by
  intro k p hp
  obtain ⟨ad, A', c, hA, hl, h1, h2, h3⟩ := h k p hp
  exact ⟨ad, A', c, hA, hl, (hb.cell (by rw [add_block]; omega)).trans h1, (hb.cell (by show (ad.add (k * 2)).block < C; rw [add_block]; omega)).trans h2, h3.keep hb hBC⟩
theorem RdPc.more {B C : Nat} {W : World} {A : Option Addr} {l : List Pc} (h : RdPc B W A l) (hBC : B ≤ C) : RdPc C W A l := by
  intro k p hp
  obtain ⟨ad, A', c, hA, hl, h1, h2, h3⟩ := h k p hp
  exact ⟨ad, A', c, hA, by omega, h1, h2, h3.more hBC⟩
theorem RdPc.drew_ {B : Nat} {W : World} {A : Option Addr} {l : List Pc} (h : RdPc B W A l) : RdPc B W.drew A l := h
/-- A piece, as it lies. -/
structure PcV where
  k : UInt8
  A : Option Addr
  n : Nat
  c : Nat
abbrev PcV.cells (x : PcV) : Array Value := #[.int .u8 (x.k.toNat : Int), .slice x.A x.n x.c]
/-- The cells of pieces. -/
abbrev pcV (l : List PcV) : List Value := l.flatMap fun x => x.cells.toList
theorem pcV_len (l : List PcV) : (pcV l).length = l.length * 2 := by
  induction l with
  | nil => rfl
  | cons x t ih =>
    show (x.cells.toList ++ pcV t).length = _
    rw [List.length_append, ih]
    show 2 + t.length * 2 = (t.length + 1) * 2
    omega
theorem pcV_get : ∀ (l : List PcV) (k j : Nat) (x : PcV) (v : Value), l[k]? = some x → x.cells[j]? = some v → (pcV l)[k * 2 + j]? = some v
  | [], k, j, x, v, h, _ => by simp at h
  | y :: t, 0, j, x, v, h, hv => by
    have e : y = x := by simpa using h
    subst e
    have hj : j < 2 := by
      have := (Array.getElem?_eq_some_iff.1 hv).1
      simpa using this
    show (y.cells.toList ++ pcV t)[0 * 2 + j]? = _
    rw [List.getElem?_append_left (by show _ < 2; omega), Nat.zero_mul, Nat.zero_add, Array.getElem?_toList]
    exact hv
  | y :: t, k + 1, j, x, v, h, hv => by
    have h2 : t[k]? = some x := by simpa using h
    have ih := pcV_get t k j x v h2 hv
    show (y.cells.toList ++ pcV t)[(k + 1) * 2 + j]? = _
    rw [List.getElem?_append_right (by show 2 ≤ _; omega)]
    show (pcV t)[(k + 1) * 2 + j - 2]? = _
    rw [show (k + 1) * 2 + j - 2 = k * 2 + j by omega]
    exact ih
/-- A row of pieces that the call owns, in blocks from base on. -/
def OwnPc (base : Nat) (W : World) (A : Option Addr) (n c : Nat) (l : List PcV) : Prop := W.ownsRow base 99 2 (.slice A n c) n (pcV l)
theorem OwnPc.nil (base : Nat) (W : World) : OwnPc base W none 0 0 [] := World.ownsRow_nil W base 99 2
theorem OwnPc.len {base : Nat} {W : World} {A : Option Addr} {n c : Nat} {l : List PcV} (h : OwnPc base W A n c l) : l.length = n := by
  have h1 := h.1
  have h2 := pcV_len l
  omega
theorem OwnPc.keep {base : Nat} {W W' : World} {A : Option Addr} {n c : Nat} {l : List PcV} (h : OwnPc base W A n c l) (hb : Below W.heap.size W W') : OwnPc base W' A n c l :=
  World.ownsRow.kept h (row := none) ⟨hb.os, hb.tape, hb.output, hb.size, fun k hk _ => hb.block k hk⟩ (by cases A <;> simp [Value.ownBlock])
/-- The rows that pieces name are the call's own, and read as their bytes. -/
def InPc (base : Nat) (W : World) (l : List PcV) (p : List Pc) : Prop := l.length = p.length ∧ ∀ (i : Nat) (x : PcV) (q : Pc), l[i]? = some x → p[i]? = some q → x.k = q.1 ∧ OwnB base W x.A x.n x.c q.2
theorem InPc.nil (base : Nat) (W : World) : InPc base W [] [] := ⟨rfl, fun i x q h => by simp at h⟩
theorem InPc.keep {base : Nat} {W W' : World} {l : List PcV} {p : List Pc} (h : InPc base W l p) (hb : Below W.heap.size W W') : InPc base W' l p :=
  ⟨h.1, fun i x q hx hq => ⟨(h.2 i x q hx hq).1, (h.2 i x q hx hq).2.keep hb⟩⟩
theorem InPc.snoc {base : Nat} {W : World} {l : List PcV} {p : List Pc} {x : PcV} {q : Pc} (h : InPc base W l p) (h1 : x.k = q.1) (h2 : OwnB base W x.A x.n x.c q.2) : InPc base W (l ++ [x]) (p ++ [q]) := by
  refine ⟨by simp [h.1], fun i y r hy hr => ?_⟩
  by_cases hi : i < l.length
  · rw [List.getElem?_append_left hi] at hy
    rw [List.getElem?_append_left (by rw [← h.1]; exact hi)] at hr
    exact h.2 i y r hy hr
  · rw [List.getElem?_append_right (by omega)] at hy
    rw [List.getElem?_append_right (by rw [← h.1]; omega), ← h.1] at hr
    have e : i - l.length = 0 := by
      have := (List.getElem?_eq_some_iff.1 hy).1
      simp at this
      omega
    rw [e] at hy hr
    injection hy with hy
    injection hr with hr
    subst hy
    subst hr
    exact ⟨h1, h2⟩
/-- A row of bytes stays where a row of pieces grows. -/
theorem OwnB.keepPc {base : Nat} {W W' : World} {A A2 : Option Addr} {n c m d : Nat} {l : List PcV} {l2 : List UInt8} (h : OwnB base W A2 m d l2) (hp : OwnPc base W A n c l) (hg : W.grownBy W' (A.map (·.block))) : OwnB base W' A2 m d l2 := by
  refine World.ownsRow.kept h hg ?_
  rcases h.2 with ⟨e, _⟩ | ⟨g2, cap2, cur2, e2, _, hb2, _⟩
  · injection e with e _ _
    subst e
    simp [Value.ownBlock]
  · injection e2 with e2 _ _
    subst e2
    right
    rcases hp.2 with ⟨e, _⟩ | ⟨g, cap, cur, e, _, hb, _⟩
    · injection e with e _ _
      subst e
      simp [Value.ownBlock]
    · injection e with e _ _
      subst e
      intro k
      simp only [Value.ownBlock, Option.map_some, Option.some.injEq] at k
      subst k
      rw [hb] at hb2
      injection hb2 with hb2
      injection hb2 with _ hb2 _
      exact absurd hb2 (by decide)
theorem InPc.grown {base : Nat} {W W' : World} {A : Option Addr} {n c : Nat} {l l2 : List PcV} {p : List Pc} (h : InPc base W l2 p) (hp : OwnPc base W A n c l) (hg : W.grownBy W' (A.map (·.block))) : InPc base W' l2 p :=
  ⟨h.1, fun i x q hx hq => ⟨(h.2 i x q hx hq).1, (h.2 i x q hx hq).2.keepPc hp hg⟩⟩
theorem OwnPc.rd {base : Nat} {W : World} {A : Option Addr} {n c : Nat} {l : List PcV} {p : List Pc} (h : OwnPc base W A n c l) (hp : InPc base W l p) : RdPc W.heap.size W A p := by
  intro k q hq
  have hk := (List.getElem?_eq_some_iff.1 hq).1
  have hl := h.len
  have hkl : k < l.length := by rw [hp.1]; exact hk
  obtain ⟨x, hx⟩ : ∃ x, l[k]? = some x := ⟨_, List.getElem?_eq_getElem hkl⟩
  obtain ⟨e1, e4⟩ := hp.2 k x q hx hq
  have e2 := e4.len
  have e3 := e4.rd
  obtain ⟨g, cap, hv, _, hlt⟩ := World.ownsRow.form h (by omega)
  injection hv with hv
  subst hv
  have hc : ∀ j v, x.cells[j]? = some v → W.cell? ((⟨g, 0, none⟩ : Addr).add (k * 2 + j)) = some v := fun j v hj => h.cells (g := g) rfl _ _ (pcV_get l k j x v hx hj)
  refine ⟨_, x.A, x.c, rfl, hlt, ?_, ?_, e3⟩
  · have := hc 0 _ rfl
    rw [← e1]
    exact this
  · have := hc 1 _ rfl
    rw [← add_add', Addr.add, if_neg (by omega)] at this
    rw [e2]
    exact this
theorem pc_info : (Tryz.prog.info? 99).map (fun i => (i.zero, i.size, i.bytes)) = some (some (.agg #[.int .u8 0, .slice none 0 0]), 2, 32) := by kernel_rfl
theorem pc_one (x : PcV) : ∀ u ∈ x.cells.toList, u.oneCell' = true := by
  intro u hu
  simp only [List.mem_cons, List.not_mem_nil, or_false] at hu
  rcases hu with rfl | rfl <;> rfl
/-- Append of one piece onto a row of the call's own. -/
theorem run_apPc {P : Program} (w : World) {t t' e' ty : TypeId} {i : TypeInfo} (ht : P.underlying t = some (.slice 99)) (ht' : P.underlying t' = some (.slice e')) (hi : P.info? 99 = some i) (hz : i.zero = some (.agg #[.int .u8 0, .slice none 0 0])) (hs : i.size = 2) (hy : i.bytes = 32)
    {base : Nat} {A : Option Addr} {ad : Addr} {n c d : Nat} {l : List PcV} {x : PcV} (hown : OwnPc base w A n c l) (hr : ∀ j v, x.cells[j]? = some v → w.cell? (ad.add j) = some v) (hsz : n ≤ 1000000) (hbase : base ≤ w.heap.size) :
    ∃ A' c' w', (Builtin.append_ #[t, t'] ty #[.slice A n c, .slice (some ad) 1 d]).run P w = .ok (.slice A' (n + 1) c') w' ∧ OwnPc base w' A' (n + 1) c' (l ++ [x]) ∧ Below base w w' ∧ w.grownBy w' (A.map (·.block)) := by
  obtain ⟨v', w', hrun, h2, h3, _, _⟩ := run_append_own_at (P := P) w base t ty 99 i (.agg #[.int .u8 0, .slice none 0 0]) 2 32 ht hi hz hs hy rfl (by omega) (.slice A n c) n (pcV l) hown ad 1 d x.cells.toList rfl (fun j u hu => hr j u (by rw [← Array.getElem?_toList]; exact hu)) (pc_one x)
    (by unfold maxLen; omega) (by omega) hbase
  have hb : Below base w w' := (Below.refl base w).grown h3 hbase (fun k hk => (World.ownsRow.lt hown k hk).1)
  have hv : ∃ A' c', v' = .slice A' (n + 1) c' := by
    rcases h2.2 with ⟨_, e2⟩ | ⟨g, cap, cur, e1, _⟩
    · omega
    · exact ⟨_, _, e1⟩
  obtain ⟨A', c', rfl⟩ := hv
  refine ⟨A', c', w', by rw [run_append_tt w ht ht']; exact hrun, ?_, hb, by cases A <;> exact h3⟩
  unfold OwnPc
  rw [show pcV (l ++ [x]) = pcV l ++ x.cells.toList by simp [pcV]]
  exact h2
section
variable {P : Program} {w : World} {t t' e' : TypeId} {i : TypeInfo} {base : Nat} {A : Option Addr} {ad : Addr} {n c d : Nat} {l : List PcV} {xx : PcV} {o : Oper} {a : Act} {Q : Exit → Act → World → Prop} {ops : Array Oper}
/-- .. in a plain region. -/
theorem wpList_apPc {rest : List Oper} (hgd : o.guard = none) (s x : Operand) (ho : o.op = .call { callee := .builtin .append, args := #[s, x], argTypes := #[t, t'] })
    (ht : P.underlying t = some (.slice 99)) (ht' : P.underlying t' = some (.slice e')) (hi : P.info? 99 = some i) (hz : i.zero = some (.agg #[.int .u8 0, .slice none 0 0])) (hs : i.size = 2) (hy : i.bytes = 32)
    (h1 : a.eval s = .slice A n c) (h2 : a.eval x = .slice (some ad) 1 d) (hown : OwnPc base w A n c l) (hr : ∀ j v, xx.cells[j]? = some v → w.cell? (ad.add j) = some v) (hsz : n ≤ 1000000) (hbase : base ≤ w.heap.size)
    (h : ∀ A' c' w', OwnPc base w' A' (n + 1) c' (l ++ [xx]) → Below base w w' → w.grownBy w' (A.map (·.block)) → wpList P ops Q rest (a.put o.dst (.slice A' (n + 1) c')) w') : wpList P ops Q (o :: rest) a w := by
  refine wpList_plain hgd fun _ hK => ?_
  obtain ⟨A', c', w', hrun, k1, k2, k3⟩ := run_apPc (P := P) (ty := o.type) (d := d) w ht ht' hi hz hs hy hown hr hsz hbase
  unfold Oper.wp execOp
  simp only [ho, resolve, invoke, builtin, Sem.run_bind, Sem.run_pure, Result.andThen_ok, List.map_toArray, List.map_cons, List.map_nil, h1, h2, hrun]
  exact hK _ _ (h A' c' w' k1 k2 k3)
end
end Go.Proofs.YtpjleeeligahaaaGreatDoor

namespace Go.Proofs.YtpjleeeligahaaaGreatDoor
open Go.RowKit

/-- The kind, the inside, the error. -/
def openF (b : List UInt8) : UInt8 × List UInt8 × Nat :=
  if (takeF b).2.2.1 ≠ b.length ∨ (takeF b).2.2.1 = 0 then (0, [], 2) else ((takeF b).1, (takeF b).2.1, (takeF b).2.2.2)
theorem takeF_code (b : List UInt8) : (takeF b).2.2.2 ≤ 4 ∧ (takeF b).2.2.1 ≤ b.length + 100009 ∧ (takeF b).2.1.length ≤ b.length := by
  unfold takeF
  split
  · exact ⟨by decide, by simp, by simp⟩
  · split
    · exact ⟨by decide, by simp, by simp⟩
    · rename_i h
      split
      · exact ⟨by simp, by simp only; omega, by simp⟩
      · exact ⟨by simp, by simp only; omega, by simp only [List.length_take, List.length_drop]; omega⟩
/-- What the code reads of the package variables: its table of sixteen numbers, and errors.errorType. -/
def LaidF (W : World) : Prop :=
  (∀ i : Nat, i < 16 → W.cell? ⟨2, i, none⟩ = some (.int .u32 (crcSteps 4 i : Nat))) ∧ W.cell? ⟨1, 0, none⟩ = some (.iface 215 (.agg #[.pointer (some ⟨3, 82, none⟩)]))
theorem LaidF.keep {W W' : World} (h : LaidF W) (hb : Below W.heap.size W W') : LaidF W' :=
  ⟨fun i hi => (hb.cell (World.block_lt_of_cell? W _ (h.1 i hi))).trans (h.1 i hi), (hb.cell (World.block_lt_of_cell? W _ h.2)).trans h.2⟩
/-- The bytes of a constant, as they lie. -/
theorem rd_const (w : World) (l : List UInt8) (fr : Nat × Nat) : RdB (w.alloc (.cells (bytV l).toArray 5 fr)).heap.size (w.alloc (.cells (bytV l).toArray 5 fr)) (some ⟨w.heap.size, 0, none⟩) l := by
  intro k x hx
  refine ⟨_, rfl, by simp, ?_⟩
  have e : (⟨w.heap.size, 0, none⟩ : Addr).add k = ⟨w.heap.size, k, none⟩ := by unfold Addr.add; split <;> simp_all
  rw [e, Joins.cell_alloc_mark_at w _ _ fr _ k rfl, List.getElem?_toArray, List.getElem?_map, hx]
  rfl
end Go.Proofs.YtpjleeeligahaaaGreatDoor

namespace Go.Proofs.YtpjleeeligahaaaGreatDoor
open Go.RowKit Go.Extern.Stop Go.Stop Go.Extern

theorem faValueOfP (t : Addr) (w : World) : (ReflectliteValue.unpack (.iface 190 (.pointer (some t)))).run Tryz.prog w
    = .ok (.agg #[.pointer (some ⟨3, 190, none⟩), .pointer (some ⟨w.heap.size, 0, none⟩), .int .u64 150]) (w.alloc (.cells #[.pointer (some t)] 190)) := by kernel_rfl
theorem faTypeP (a : Addr) (w : World) : (ReflectliteValue.methodAny (ReflectliteValue.valueError "reflectlite.Value.Type" 0) (fun t _ _ _ => ReflectliteType.toType t) #[.agg #[.pointer (some ⟨3, 190, none⟩), .pointer (some a), .int .u64 150]]).run Tryz.prog w
    = .ok (.iface 215 (.agg #[.pointer (some ⟨3, 190, none⟩)])) w := by kernel_rfl
theorem faMKind (h : Value) (w : World) : (Go.method 388 215 (.agg #[h]) "Kind").run Tryz.prog w = .ok (204, h) w := by kernel_rfl
theorem faMElem (h : Value) (w : World) : (Go.method 388 215 (.agg #[h]) "Elem").run Tryz.prog w = .ok (217, .agg #[h]) w := by kernel_rfl
theorem faMImplements (h : Value) (w : World) : (Go.method 388 215 (.agg #[h]) "Implements").run Tryz.prog w = .ok (218, .agg #[h]) w := by kernel_rfl
theorem faMAssignableTo (h : Value) (w : World) : (Go.method 388 215 (.agg #[h]) "AssignableTo").run Tryz.prog w = .ok (215, .agg #[h]) w := by kernel_rfl
/-- The model's entry of (*abi.Type).Kind, as it is found. -/
noncomputable def feKind : Array Value → Sem Value := (Go.Extern.find Tryz.f204).getD fun _ => pure .nilIface
theorem faKindP (w : World) : (feKind #[.pointer (some ⟨3, 190, none⟩)]).run Tryz.prog w = .ok (.int .u8 22) w := by kernel_rfl
theorem faKindW (w : World) : (feKind #[.pointer (some ⟨3, 188, none⟩)]).run Tryz.prog w = .ok (.int .u8 2) w := by kernel_rfl
theorem faElemP (w : World) : (ReflectliteType.method ReflectliteType.elem #[.agg #[.pointer (some ⟨3, 190, none⟩)]]).run Tryz.prog w = .ok (.iface 215 (.agg #[.pointer (some ⟨3, 188, none⟩)])) w := by kernel_rfl
theorem faImplementsW (w : World) : (ReflectliteType.relation "Implements" ReflectliteType.implements_ #[.agg #[.pointer (some ⟨3, 188, none⟩)], .iface 215 (.agg #[.pointer (some ⟨3, 82, none⟩)])]).run Tryz.prog w = .ok (.bool true) w := by kernel_rfl
theorem faTypeOfW (v : Value) (w : World) : (ReflectliteType.typeOf #[.iface 188 v]).run Tryz.prog w = .ok (.iface 215 (.agg #[.pointer (some ⟨3, 188, none⟩)])) w := by kernel_rfl
theorem faAssignableW (w : World) : (ReflectliteType.relation "AssignableTo" ReflectliteType.assignableTo #[.agg #[.pointer (some ⟨3, 188, none⟩)], .iface 215 (.agg #[.pointer (some ⟨3, 188, none⟩)])]).run Tryz.prog w = .ok (.bool true) w := by kernel_rfl
theorem faValueOfW (n : Int) (w : World) : (ReflectliteValue.unpack (.iface 188 (.int .i64 n))).run Tryz.prog w
    = .ok (.agg #[.pointer (some ⟨3, 188, none⟩), .pointer (some ⟨w.heap.size, 0, none⟩), .int .u64 130]) (w.alloc (.cells #[.int .i64 n] 188)) := by kernel_rfl

theorem faPartsP (a : Addr) (w : World) : (ReflectliteValue.parts (.agg #[.pointer (some ⟨3, 190, none⟩), .pointer (some a), .int .u64 150])).run Tryz.prog w = .ok (some (190, a, 150)) w := by kernel_rfl
/-- (Value).IsNil of the target. -/
theorem faIsNilP (a p : Addr) (W : World) (ha : W.cell? a = some (.pointer (some p))) :
    (ReflectliteValue.method (ReflectliteValue.valueError "reflectlite.Value.IsNil" 0) ReflectliteValue.isNil #[.agg #[.pointer (some ⟨3, 190, none⟩), .pointer (some a), .int .u64 150]]).run Tryz.prog W = .ok (.bool false) W := by
  rw [Go.Lib.rl_method]
  simp only [Sem.run_bind, faPartsP, Result.andThen]
  simp [ReflectliteValue.isNil, loadVar, isAgg, underlying, Tryz.underlying190, ha, Result.andThen]
theorem faElemOfP (w : World) : (Rtype.elem? 190).run Tryz.prog w = .ok (some 188) w := by kernel_rfl
theorem faMkW (p : Addr) (w : World) : (ReflectliteValue.mk 188 p ReflectliteValue.flagAddr).run Tryz.prog w = .ok (.agg #[.pointer (some ⟨3, 188, none⟩), .pointer (some p), .int .u64 386]) w := by kernel_rfl
/-- (Value).Elem of the target: what it points to, addressable. -/
theorem faElemVP (a p : Addr) (W : World) (ha : W.cell? a = some (.pointer (some p))) :
    (ReflectliteValue.method (ReflectliteValue.valueError "reflectlite.Value.Elem" 0) ReflectliteValue.elem #[.agg #[.pointer (some ⟨3, 190, none⟩), .pointer (some a), .int .u64 150]]).run Tryz.prog W
      = .ok (.agg #[.pointer (some ⟨3, 188, none⟩), .pointer (some p), .int .u64 386]) W := by
  rw [Go.Lib.rl_method]
  simp only [Sem.run_bind, faPartsP, Result.andThen]
  simp [ReflectliteValue.elem, loadVar, isAgg, underlying, Tryz.underlying190, ha, Result.andThen, faElemOfP, faMkW]
theorem faPartsA (a : Addr) (w : World) : (ReflectliteValue.parts (.agg #[.pointer (some ⟨3, 188, none⟩), .pointer (some a), .int .u64 386])).run Tryz.prog w = .ok (some (188, a, 386)) w := by kernel_rfl
theorem faPartsW (a : Addr) (w : World) : (ReflectliteValue.parts (.agg #[.pointer (some ⟨3, 188, none⟩), .pointer (some a), .int .u64 130])).run Tryz.prog w = .ok (some (188, a, 130)) w := by kernel_rfl
theorem faDirectW (w : World) : (Rtype.directlyAssignable 188 188).run Tryz.prog w = .ok true w := by kernel_rfl
theorem faSizeW (w : World) : (sizeOf 188).run Tryz.prog w = .ok 1 w := by kernel_rfl
theorem faAggW (w : World) : (isAgg 188).run Tryz.prog w = .ok false w := by kernel_rfl
theorem faLoadW (b : Nat) (v : Value) (W : World) (hb : Blk W b #[v] 188) : (loadVar 188 ⟨b, 0, none⟩).run Tryz.prog W = .ok v W := by
  have h0 := hb.cell 0
  simp [loadVar, Result.andThen, h0, isAgg, underlying, Tryz.underlying188]
theorem faStoreW (b : Nat) (n : Int) (u : Value) (W : World) (hb : Blk W b #[u] 188) :
    (storeVar 188 ⟨b, 0, none⟩ (.int .i64 n)).run Tryz.prog W = .ok () (W.setCell ⟨b, 0, none⟩ (.int .i64 n)) := by
  have h0 := hb.cell 0
  have f0 := hb.free 0
  simp [storeVar, Value.cells, storeCells, Addr.add, Result.andThen]
  rw [run_store Tryz.prog W ⟨b, 0, none⟩ _ _ rfl]
  simp [h0, f0]
/-- (Value).Set. -/
theorem faSetW (b c : Nat) (n : Int) (u : Value) (W : World) (hc : Blk W c #[.int .i64 n] 188) (hb : Blk W b #[u] 188) :
    (ReflectliteValue.set #[.agg #[.pointer (some ⟨3, 188, none⟩), .pointer (some ⟨b, 0, none⟩), .int .u64 386], .agg #[.pointer (some ⟨3, 188, none⟩), .pointer (some ⟨c, 0, none⟩), .int .u64 130]]).run Tryz.prog W
      = .ok (.tuple #[]) (W.setCell ⟨b, 0, none⟩ (.int .i64 n)) := by
  show Sem.run Tryz.prog (ReflectliteValue.parts (.agg #[.pointer (some ⟨3, 188, none⟩), .pointer (some ⟨b, 0, none⟩), .int .u64 386]) >>= fun _ => ReflectliteValue.parts (.agg #[.pointer (some ⟨3, 188, none⟩), .pointer (some ⟨c, 0, none⟩), .int .u64 130]) >>= _) W = _
  simp only [Sem.run_bind, faPartsA, faPartsW, Result.andThen]
  simp [ReflectliteValue.flagAddr, Result.andThen, faLoadW c _ W hc, faDirectW, faStoreW b n u W hb]

/-! The other error type. -/
theorem aTypeOfL (v : Value) (w : World) : (ReflectliteType.typeOf #[.iface 139 v]).run Tryz.prog w = .ok (.iface 215 (.agg #[.pointer (some ⟨3, 139, none⟩)])) w := by kernel_rfl
theorem aAssignableL (w : World) : (ReflectliteType.relation "AssignableTo" ReflectliteType.assignableTo #[.agg #[.pointer (some ⟨3, 139, none⟩)], .iface 215 (.agg #[.pointer (some ⟨3, 188, none⟩)])]).run Tryz.prog w = .ok (.bool false) w := by kernel_rfl
theorem aNoAs (v : Value) (xT : TypeId) (w : World) : (Instr.typeAssert (.iface 139 v) xT 227 true).run Tryz.prog w = .ok (.tuple #[.nilIface, .bool false]) w := run_typeAssert_lacksB Tryz.underlying227 (by kernel_rfl) (by kernel_rfl) v xT w
theorem aUnwraps (v : Value) (xT : TypeId) (w : World) : (Instr.typeAssert (.iface 139 v) xT 220 true).run Tryz.prog w = .ok (.tuple #[.iface 139 v, .bool true]) w := run_typeAssert_hasB Tryz.underlying220 (by kernel_rfl) v xT w
theorem aMUnwrap (v : Value) (w : World) : (Go.method 388 139 v "Unwrap").run Tryz.prog w = .ok (209, v) w := by kernel_rfl
/-- errors.As(nil, ..). -/
theorem fas_nil (t : Value) (w : World) :
    Calls Tryz.prog 81 #[.nilIface, t] w fun e w' => e = .returned (.bool false) ∧ w' = w := by
  go_enter Tryz.func81, Tryz.ntmps81
  go_wp2
  go_ret
  exact ⟨rfl, rfl⟩
/-- What an error that tells a length wraps. -/
theorem unwrap_any (l n : Int) (w : World) :
    Calls Tryz.prog 209 #[.agg #[.int .i64 l, .int .i64 n]] w fun e w' => e = .returned (.iface 188 (.int .i64 n)) ∧ w' = w.alloc (.cells #[.int .i64 l, .int .i64 n] 139) := by
  go_enter Tryz.func209, Tryz.ntmps209
  go_wp2
  go_ret
  exact ⟨rfl, rfl⟩
end Go.Proofs.YtpjleeeligahaaaGreatDoor

namespace Go.Proofs.YtpjleeeligahaaaGreatDoor
open Go.RowKit Go.Extern.Stop Go.Stop Go.Extern

set_option maxRecDepth 100000 in
set_option maxHeartbeats 4000000 in
theorem fas_hit (b : Nat) (n : Int) (u : Value) (w : World) (hg : w.cell? ⟨1, 0, none⟩ = some (.iface 215 (.agg #[.pointer (some ⟨3, 82, none⟩)]))) (hb : Blk w b #[u] 188) :
    Calls Tryz.prog 81 #[.iface 188 (.int .i64 n), .iface 190 (.pointer (some ⟨b, 0, none⟩))] w fun ev w' => ev = .returned (.bool true) ∧ Blk w' b #[.int .i64 n] 188 ∧ Below b w w' := by
  have x1 := @run_callFunc_extern Tryz.prog 124 _ (fun args => ReflectliteValue.unpack (args.getD 0 (.tuple #[]))) Tryz.func124 (by kernel_rfl) (by kernel_rfl) (by kernel_rfl) (by kernel_rfl)
  have x2 := @run_callFunc_extern Tryz.prog 125 _ (ReflectliteValue.methodAny (ReflectliteValue.valueError "reflectlite.Value.Type" 0) (fun t _ _ _ => ReflectliteType.toType t)) Tryz.func125 (by kernel_rfl) (by kernel_rfl) (by kernel_rfl) (by kernel_rfl)
  have x3 := @run_callFunc_extern Tryz.prog 126 _ (ReflectliteValue.method (ReflectliteValue.valueError "reflectlite.Value.IsNil" 0) ReflectliteValue.isNil) Tryz.func126 (by kernel_rfl) (by kernel_rfl) (by kernel_rfl) (by kernel_rfl)
  have x4 := @run_callFunc_extern Tryz.prog 204 _ feKind Tryz.func204 (by kernel_rfl) (by kernel_rfl) (by kernel_rfl) (by kernel_rfl)
  have x5 := @run_callFunc_extern Tryz.prog 217 _ (ReflectliteType.method ReflectliteType.elem) Tryz.func217 (by kernel_rfl) (by kernel_rfl) (by kernel_rfl) (by kernel_rfl)
  have x6 := @run_callFunc_extern Tryz.prog 218 _ (ReflectliteType.relation "Implements" ReflectliteType.implements_) Tryz.func218 (by kernel_rfl) (by kernel_rfl) (by kernel_rfl) (by kernel_rfl)
  have x7 := @run_callFunc_extern Tryz.prog 122 _ ReflectliteType.typeOf Tryz.func122 (by kernel_rfl) (by kernel_rfl) (by kernel_rfl) (by kernel_rfl)
  have x8 := @run_callFunc_extern Tryz.prog 215 _ (ReflectliteType.relation "AssignableTo" ReflectliteType.assignableTo) Tryz.func215 (by kernel_rfl) (by kernel_rfl) (by kernel_rfl) (by kernel_rfl)
  have x9 := @run_callFunc_extern Tryz.prog 158 _ (ReflectliteValue.method (ReflectliteValue.valueError "reflectlite.Value.Elem" 0) ReflectliteValue.elem) Tryz.func158 (by kernel_rfl) (by kernel_rfl) (by kernel_rfl) (by kernel_rfl)
  have x10 := @run_callFunc_extern Tryz.prog 159 _ ReflectliteValue.set Tryz.func159 (by kernel_rfl) (by kernel_rfl) (by kernel_rfl) (by kernel_rfl)
  have v1 := faValueOfP
  have v2 := faTypeP
  have m1 := faMKind
  have m2 := faMElem
  have m3 := faMImplements
  have m4 := faMAssignableTo
  have k1 := faKindP
  have k2 := faKindW
  have e1 := faElemP
  have i1 := faImplementsW
  have t1 := faTypeOfW
  have a1 := faAssignableW
  have v3 := faValueOfW
  have hlg : 1 < w.heap.size := World.block_lt_of_cell? w _ hg
  have hlb := hb.lt
  let W1 := w.alloc (.cells #[.pointer (some ⟨b, 0, none⟩)] 190)
  let C : Array Value := #[.pointer (some ⟨3, 190, none⟩), .pointer (some ⟨w.heap.size, 0, none⟩), .int .u64 150]
  let W2 := W1.alloc (.cells C 181)
  let W3 := W2.alloc (.cells C 181)
  let W4 := W3.alloc (.cells #[.int .i64 n] 188)
  have c1 : W2.cell? ⟨w.heap.size, 0, none⟩ = some (.pointer (some ⟨b, 0, none⟩)) := ((blk_new w #[.pointer (some ⟨b, 0, none⟩)] 190).alloc _).cell 0
  have c2 : W3.cell? ⟨w.heap.size, 0, none⟩ = some (.pointer (some ⟨b, 0, none⟩)) := (((blk_new w #[.pointer (some ⟨b, 0, none⟩)] 190).alloc _).alloc _).cell 0
  have n8 := faIsNilP ⟨w.heap.size, 0, none⟩ ⟨b, 0, none⟩ W2 c1
  have hg2 : W2.cell? ⟨1, 0, none⟩ = some (.iface 215 (.agg #[.pointer (some ⟨3, 82, none⟩)])) := by
    have hB : Below w.heap.size w W2 := ((Below.refl _ w).alloc (Nat.le_refl _) _).alloc (by simp) _
    exact (hB.cell hlg).trans hg
  have el := faElemVP ⟨w.heap.size, 0, none⟩ ⟨b, 0, none⟩ W3 c2
  have hz3 : W3.heap.size = w.heap.size + 1 + 1 + 1 := by simp [W3, W2, W1]
  have st := faSetW b (w.heap.size + 1 + 1 + 1) n u W4 (blk_at (w := W3) hz3.symm _ _) ((((hb.alloc _).alloc _).alloc _).alloc _)
  have hfin : Blk (W4.setCell ⟨b, 0, none⟩ (.int .i64 n)) b #[.int .i64 n] 188 := ((((hb.alloc _).alloc _).alloc _).alloc _).set 0 (.int .i64 n)
  have hbel : Below b w (W4.setCell ⟨b, 0, none⟩ (.int .i64 n)) := by
    have h4 : Below w.heap.size w W4 := ba (ba (ba (b0 w _) _) _) _
    exact (h4.mono (Nat.le_of_lt hlb)).setCell (p := ⟨b, 0, none⟩) (Nat.le_refl _) _
  have HF := Lib.hid (And.intro hfin hbel)
  clear hfin hbel c1 c2 hz3
  simp only [W1, W2, W3, W4, C] at *
  go_enter Tryz.func81, Tryz.ntmps81
  go_wp2
  refine wp_loop_rounds 1 ?_
  rw [rounds_succ]
  go_wp2
  go_ret
  exact ⟨rfl, HF.out.1, HF.out.2⟩
set_option maxRecDepth 100000 in
set_option maxHeartbeats 4000000 in
theorem as_wrap (b : Nat) (l n : Int) (u : Value) (w : World) (hg : w.cell? ⟨1, 0, none⟩ = some (.iface 215 (.agg #[.pointer (some ⟨3, 82, none⟩)]))) (hb : Blk w b #[u] 188) :
    Calls Tryz.prog 81 #[.iface 139 (.agg #[.int .i64 l, .int .i64 n]), .iface 190 (.pointer (some ⟨b, 0, none⟩))] w fun ev w' => ev = .returned (.bool true) ∧ Blk w' b #[.int .i64 n] 188 ∧ Below b w w' := by
  have x1 := @run_callFunc_extern Tryz.prog 124 _ (fun args => ReflectliteValue.unpack (args.getD 0 (.tuple #[]))) Tryz.func124 (by kernel_rfl) (by kernel_rfl) (by kernel_rfl) (by kernel_rfl)
  have x2 := @run_callFunc_extern Tryz.prog 125 _ (ReflectliteValue.methodAny (ReflectliteValue.valueError "reflectlite.Value.Type" 0) (fun t _ _ _ => ReflectliteType.toType t)) Tryz.func125 (by kernel_rfl) (by kernel_rfl) (by kernel_rfl) (by kernel_rfl)
  have x3 := @run_callFunc_extern Tryz.prog 126 _ (ReflectliteValue.method (ReflectliteValue.valueError "reflectlite.Value.IsNil" 0) ReflectliteValue.isNil) Tryz.func126 (by kernel_rfl) (by kernel_rfl) (by kernel_rfl) (by kernel_rfl)
  have x4 := @run_callFunc_extern Tryz.prog 204 _ feKind Tryz.func204 (by kernel_rfl) (by kernel_rfl) (by kernel_rfl) (by kernel_rfl)
  have x5 := @run_callFunc_extern Tryz.prog 217 _ (ReflectliteType.method ReflectliteType.elem) Tryz.func217 (by kernel_rfl) (by kernel_rfl) (by kernel_rfl) (by kernel_rfl)
  have x6 := @run_callFunc_extern Tryz.prog 218 _ (ReflectliteType.relation "Implements" ReflectliteType.implements_) Tryz.func218 (by kernel_rfl) (by kernel_rfl) (by kernel_rfl) (by kernel_rfl)
  have x7 := @run_callFunc_extern Tryz.prog 122 _ ReflectliteType.typeOf Tryz.func122 (by kernel_rfl) (by kernel_rfl) (by kernel_rfl) (by kernel_rfl)
  have x8 := @run_callFunc_extern Tryz.prog 215 _ (ReflectliteType.relation "AssignableTo" ReflectliteType.assignableTo) Tryz.func215 (by kernel_rfl) (by kernel_rfl) (by kernel_rfl) (by kernel_rfl)
  have x9 := @run_callFunc_extern Tryz.prog 158 _ (ReflectliteValue.method (ReflectliteValue.valueError "reflectlite.Value.Elem" 0) ReflectliteValue.elem) Tryz.func158 (by kernel_rfl) (by kernel_rfl) (by kernel_rfl) (by kernel_rfl)
  have x10 := @run_callFunc_extern Tryz.prog 159 _ ReflectliteValue.set Tryz.func159 (by kernel_rfl) (by kernel_rfl) (by kernel_rfl) (by kernel_rfl)
  have v1 := faValueOfP
  have v2 := faTypeP
  have m1 := faMKind
  have m2 := faMElem
  have m3 := faMImplements
  have m4 := faMAssignableTo
  have k1 := faKindP
  have k2 := faKindW
  have e1 := faElemP
  have i1 := faImplementsW
  have t1 := faTypeOfW
  have a1 := faAssignableW
  have v3 := faValueOfW
  have t2 := aTypeOfL
  have a2 := aAssignableL
  have nA := aNoAs
  have uW := aUnwraps
  have mU := aMUnwrap
  have hlg : 1 < w.heap.size := World.block_lt_of_cell? w _ hg
  have hlb := hb.lt
  let W1 := w.alloc (.cells #[.pointer (some ⟨b, 0, none⟩)] 190)
  let C : Array Value := #[.pointer (some ⟨3, 190, none⟩), .pointer (some ⟨w.heap.size, 0, none⟩), .int .u64 150]
  let W2 := W1.alloc (.cells C 181)
  let W3 := W2.alloc (.cells C 181)
  let W4 := W3.alloc (.cells #[.int .i64 l, .int .i64 n] 139)
  let W5 := W4.alloc (.cells #[.int .i64 n] 188)
  have c1 : W2.cell? ⟨w.heap.size, 0, none⟩ = some (.pointer (some ⟨b, 0, none⟩)) := ((blk_new w #[.pointer (some ⟨b, 0, none⟩)] 190).alloc _).cell 0
  have c2 : W4.cell? ⟨w.heap.size, 0, none⟩ = some (.pointer (some ⟨b, 0, none⟩)) := ((((blk_new w #[.pointer (some ⟨b, 0, none⟩)] 190).alloc _).alloc _).alloc _).cell 0
  have n8 := faIsNilP ⟨w.heap.size, 0, none⟩ ⟨b, 0, none⟩ W2 c1
  have hg2 : W2.cell? ⟨1, 0, none⟩ = some (.iface 215 (.agg #[.pointer (some ⟨3, 82, none⟩)])) := by
    have hB : Below w.heap.size w W2 := ((Below.refl _ w).alloc (Nat.le_refl _) _).alloc (by simp) _
    exact (hB.cell hlg).trans hg
  have el := faElemVP ⟨w.heap.size, 0, none⟩ ⟨b, 0, none⟩ W4 c2
  have hz3 : W4.heap.size = w.heap.size + 1 + 1 + 1 + 1 := by simp [W4, W3, W2, W1]
  have st := faSetW b (w.heap.size + 1 + 1 + 1 + 1) n u W5 (blk_at (w := W4) hz3.symm _ _) (((((hb.alloc _).alloc _).alloc _).alloc _).alloc _)
  have hfin : Blk (W5.setCell ⟨b, 0, none⟩ (.int .i64 n)) b #[.int .i64 n] 188 := (((((hb.alloc _).alloc _).alloc _).alloc _).alloc _).set 0 (.int .i64 n)
  have hbel : Below b w (W5.setCell ⟨b, 0, none⟩ (.int .i64 n)) := by
    have h4 : Below w.heap.size w W5 := ba (ba (ba (ba (b0 w _) _) _) _) _
    exact (h4.mono (Nat.le_of_lt hlb)).setCell (p := ⟨b, 0, none⟩) (Nat.le_refl _) _
  have HF := Lib.hid (And.intro hfin hbel)
  clear hfin hbel c1 c2 hz3
  simp only [W1, W2, W3, W4, W5, C] at *
  go_enter Tryz.func81, Tryz.ntmps81
  go_wp2
  refine wp_loop_rounds 2 ?_
  rw [rounds_succ]
  go_wp2
  rw [rounds_succ]
  go_wp2
  go_ret
  exact ⟨rfl, HF.out.1, HF.out.2⟩

/-- An error of package frame, with its number; 0: none. -/
def ErrF (v : Value) (n : Nat) : Prop :=
  (v = .nilIface ∧ n = 0) ∨ v = .iface 188 (.int .i64 (n : Nat)) ∨ ∃ l : Int, v = .iface 139 (.agg #[.int .i64 l, .int .i64 (n : Nat)])
theorem fanswer_any (v : Value) (n : Nat) (w : World) (hL : LaidF w) (hv : ErrF v n) :
    Calls Tryz.prog 85 #[v] w fun e w' => e = .returned (.int .i64 (n : Nat)) ∧ Below w.heap.size w w' := by
  have hg := (hL.keep (b0 w (.cells #[.int .i64 0] 188))).2
  have hb := blk_new w #[.int .i64 0] 188
  have hB := b0 w (.cells #[.int .i64 0] 188)
  rcases hv with ⟨rfl, rfl⟩ | rfl | ⟨l, rfl⟩
  · go_enter Tryz.func85, Tryz.ntmps85
    go_wp2_with fail
    refine (fas_nil _ _).mono ?_
    rintro e w1 ⟨rfl, rfl⟩
    go_wp2_with fail
    go_ret
    exact ⟨rfl, hB⟩
  · have hc := fas_hit w.heap.size (n : Nat) (.int .i64 0) _ hg hb
    clear hg hb
    go_enter Tryz.func85, Tryz.ntmps85
    go_wp2_with fail
    refine hc.mono ?_
    rintro e w1 ⟨rfl, hb1, hB1⟩
    have c0 := hb1.cell 0
    have hB2 := hB.trans hB1
    clear hc
    go_wp2_with fail
    go_ret
    exact ⟨rfl, hB2⟩
  · have hc := as_wrap w.heap.size l (n : Nat) (.int .i64 0) _ hg hb
    clear hg hb
    go_enter Tryz.func85, Tryz.ntmps85
    go_wp2_with fail
    refine hc.mono ?_
    rintro e w1 ⟨rfl, hb1, hB1⟩
    have c0 := hb1.cell 0
    have hB2 := hB.trans hB1
    clear hc
    go_wp2_with fail
    go_ret
    exact ⟨rfl, hB2⟩
end Go.Proofs.YtpjleeeligahaaaGreatDoor

namespace Go.Proofs.YtpjleeeligahaaaGreatDoor
open Go.RowKit

theorem xor_u32 (a b : Nat) (ha : a < 4294967296) (hb : b < 4294967296) : bits .xor .u32 (a : Int) (b : Int) = ((a ^^^ b : Nat) : Int) := by
  have hx : a ^^^ b < 2 ^ 32 := Nat.xor_lt_two_pow (by omega) (by omega)
  have h1 : (BitVec.ofInt 32 (a : Int)).toNat = a := by
    rw [BitVec.ofInt_natCast, BitVec.toNat_ofNat]
    exact Nat.mod_eq_of_lt (by omega)
  have h2 : (BitVec.ofInt 32 (b : Int)).toNat = b := by
    rw [BitVec.ofInt_natCast, BitVec.toNat_ofNat]
    exact Nat.mod_eq_of_lt (by omega)
  show IntKind.u32.wrap ((BitVec.ofInt 32 (a : Int) ^^^ BitVec.ofInt 32 (b : Int)).toNat : Int) = _
  rw [BitVec.toNat_xor, h1, h2, IntKind.wrap_u32]
  omega
theorem and15_u32 (a : Nat) (ha : a < 4294967296) : bits .and .u32 (a : Int) 15 = ((a % 16 : Nat) : Int) := by
  have h := bits_mask .u32 32 (by decide) wraps_u32 4 (by decide) (a : Int) (by omega) (by omega)
  rw [show ((2 : Int) ^ 4 - 1) = 15 by decide, show ((2 : Int) ^ 4) = 16 by decide] at h
  rw [h]
  omega
theorem not_u32 (a : Nat) (ha : a < 4294967296) : bits .xor .u32 IntKind.u32.max (a : Int) = ((4294967295 - a : Nat) : Int) := by
  have h2 : (BitVec.ofInt 32 (a : Int)).toNat = a := by
    rw [BitVec.ofInt_natCast, BitVec.toNat_ofNat]
    exact Nat.mod_eq_of_lt (by omega)
  have h1 : BitVec.ofInt 32 IntKind.u32.max = BitVec.allOnes 32 := by decide
  show IntKind.u32.wrap ((BitVec.ofInt 32 IntKind.u32.max ^^^ BitVec.ofInt 32 (a : Int)).toNat : Int) = _
  rw [h1, BitVec.allOnes_xor, BitVec.toNat_not, h2, IntKind.wrap_u32]
  omega

set_option maxRecDepth 100000 in
set_option maxHeartbeats 4000000 in
theorem sum_any {B : Nat} (A : Option Addr) (n c : Nat) (l : List UInt8) (w : World) (hL : LaidF w) (hn : l.length = n) (hr : RdB B w A l) (hm : n ≤ 1000000000) :
    Calls Tryz.prog 98 #[.slice A n c] w fun e w' => e = .returned (.int .u32 (crcL l : Nat)) ∧ w = w' := by
  have HN := Lib.hid hn
  have HL := Lib.hid hL.1
  clear hn hL
  go_enter Tryz.func98, Tryz.ntmps98
  go_wp2_with fail
  go_loopw [3, 8] (fun x i wr => ∃ (k s : Nat), k ≤ n ∧ x = .int .u32 s ∧ i = .int .i64 k ∧ Hid (s = crcTo 4294967295 (l.take k)) ∧ s < 4294967296 ∧ w = wr) (fun _ i _ => n - (intOf i).toNat)
  case atStart => exact ⟨0, 4294967295, Nat.zero_le _, rfl, rfl, rfl, by omega, rfl⟩
  case round =>
    obtain ⟨k, s, hk, rfl, rfl, hS, hs, rfl⟩ := hrel
    by_cases hlt : k < n
    · obtain ⟨ad, rfl, _, hc⟩ := hr.at_ (show k < l.length by have := HN.out; omega)
      have i1 : (0 : Int) ≤ (k : Int) := by omega
      have i2 : (k : Int) < (n : Int) := by omega
      have hlk : k < l.length := by have := HN.out; omega
      have HX : Hid (l.take (k + 1) = l.take k ++ [l[k]]) := List.take_succ_eq_append_getElem hlk
      generalize l[k] = x at hc HX
      have hx := byte_lt x
      have hx2 := xor_lt hs hx
      have HS2 : Hid (crcSteps 4 (crcSteps 4 (s ^^^ x.toNat)) = crcTo 4294967295 (l.take (k + 1))) := by
        show _ = _
        rw [HX.out, crcTo_snoc, ← hS.out, crcByte_nib]
      have E0 := xor_u32 s x.toNat hs hx
      generalize s ^^^ x.toNat = s0 at hx2 HS2 E0
      have E1 := and15_u32 s0 hx2
      have m1 : s0 % 16 < 16 := Nat.mod_lt _ (by omega)
      have c1 := HL.out (s0 % 16) m1
      have l1 : crcSteps 4 s0 < 4294967296 := crcSteps_lt 4 hx2
      have t1 : crcSteps 4 (s0 % 16) < 4294967296 := crcSteps_lt 4 (by omega)
      have D1 : ((s0 : Int) / 16) = ((s0 / 16 : Nat) : Int) := by omega
      have F1 : bits .xor .u32 ((s0 / 16 : Nat) : Int) (crcSteps 4 (s0 % 16) : Nat) = (crcSteps 4 s0 : Nat) := by
        rw [xor_u32 _ _ (by omega) t1, ← nib]
      generalize crcSteps 4 s0 = s1 at l1 F1 HS2
      have E2 := and15_u32 s1 l1
      have m2 : s1 % 16 < 16 := Nat.mod_lt _ (by omega)
      have c2 := HL.out (s1 % 16) m2
      have l2 : crcSteps 4 s1 < 4294967296 := crcSteps_lt 4 l1
      have t2 : crcSteps 4 (s1 % 16) < 4294967296 := crcSteps_lt 4 (by omega)
      have D2 : ((s1 : Int) / 16) = ((s1 / 16 : Nat) : Int) := by omega
      have F2 : bits .xor .u32 ((s1 / 16 : Nat) : Int) (crcSteps 4 (s1 % 16) : Nat) = (crcSteps 4 s1 : Nat) := by
        rw [xor_u32 _ _ (by omega) t2, ← nib]
      rw [← D1] at F1
      rw [← D2] at F2
      generalize crcSteps 4 s1 = s2 at l2 F2 HS2
      generalize crcSteps 4 (s0 % 16) = y1 at c1 F1
      generalize crcSteps 4 (s1 % 16) = y2 at c2 F2
      generalize s0 % 16 = q1 at E1 m1 c1
      generalize s1 % 16 = q2 at E2 m2 c2
      clear D1 D2 t1 t2 HX
      go_wp2_with fail
      go_roundw
      case rel => exact ⟨k + 1, s2, by omega, rfl, by go_num, HS2, l2, by first | rfl | trivial⟩
      case measure => simp [intOf]; omega
    · have i2 : ¬ (k : Int) < (n : Int) := by omega
      have e : k = n := by omega
      subst e
      have R : Hid (crcL l = 4294967295 - s) := by
        show _ = _
        unfold crcL
        rw [hS.out, List.take_of_length_le (by rw [HN.out]; exact Nat.le_refl _)]
      go_wp2_with fail
      go_ret
      rw [R.out]
      refine ⟨?_, rfl⟩
      rw [not_u32 s hs]
      rfl
end Go.Proofs.YtpjleeeligahaaaGreatDoor

namespace Go.Proofs.YtpjleeeligahaaaGreatDoor
open Go.RowKit

theorem OwnB.form {base : Nat} {W : World} {A : Option Addr} {n c : Nat} {l : List UInt8} (h : OwnB base W A n c l) (hn : 0 < n) : ∃ g, A = some ⟨g, 0, none⟩ ∧ base ≤ g ∧ g < W.heap.size := by
  obtain ⟨g, cap, hv, hb, hlt⟩ := World.ownsRow.form h hn
  injection hv with hv
  exact ⟨g, hv, hb, hlt⟩
theorem OwnB.free {base : Nat} {W : World} {g n c : Nat} {l : List UInt8} (h : OwnB base W (some ⟨g, 0, none⟩) n c l) (i : Nat) : W.frozen? ⟨g, i, none⟩ = false := by
  rcases h.2 with ⟨hv, _⟩ | ⟨g', cap, cur, hv, hb, hg, h1, h2, h3, h4⟩
  · cases hv
  · injection hv with hv1 hv2 hv3
    injection hv1 with hv1
    injection hv1 with hv1
    subst hv1
    simp [World.frozen?, hg]
theorem OwnB.cellAt {base : Nat} {W : World} {g n c : Nat} {l : List UInt8} (h : OwnB base W (some ⟨g, 0, none⟩) n c l) {k : Nat} {x : UInt8} (hx : l[k]? = some x) : W.cell? ⟨g, k, none⟩ = some (.int .u8 (x.toNat : Int)) := by
  obtain ⟨ad, he, _, hc⟩ := h.rd k x hx
  injection he with he
  subst he
  have e : (Addr.mk g 0 none).add k = Addr.mk g k none := by unfold Addr.add; split <;> simp_all
  rwa [e] at hc
/-- A store into a row of the call's own. -/
theorem OwnB.set {base : Nat} {W : World} {g n c : Nat} {l : List UInt8} (h : OwnB base W (some ⟨g, 0, none⟩) n c l) (i : Nat) (x : UInt8) : OwnB base (W.setCell ⟨g, i, none⟩ (.int .u8 (x.toNat : Int))) (some ⟨g, 0, none⟩) n c (l.set i x) := by
  rcases h.2 with ⟨hv, _⟩ | ⟨g', cap, cur, hv, hb, hg, h1, h2, h3, h4⟩
  · cases hv
  · injection hv with hv1 hv2 hv3
    injection hv1 with hv1
    injection hv1 with hv1
    subst hv1
    subst hv3
    refine ⟨by simpa using h.1, .inr ⟨g, c, cur.setIfInBounds i (.int .u8 (x.toNat : Int)), rfl, hb, ?_, h1, h2, by simpa using h3, ?_⟩⟩
    · simp [World.setCell, Array.getElem?_modify, hg]
    · rw [Array.toList_setIfInBounds, List.take_set, h4]
      simp [bytV, List.map_set]
end Go.Proofs.YtpjleeeligahaaaGreatDoor

namespace Go.Proofs.YtpjleeeligahaaaGreatDoor
open Go.RowKit

/-- A number's lowest bytes, so many, the highest first. -/
def wdB (k x : Nat) : List UInt8 := (List.range k).map fun i => UInt8.ofNat (x / 256 ^ (k - 1 - i) % 256)
theorem wdB_len (k x : Nat) : (wdB k x).length = k := by simp [wdB]
theorem wdB_get (k x j : Nat) (h : j < k) : (wdB k x)[j]? = some (UInt8.ofNat (x / 256 ^ (k - 1 - j) % 256)) := by simp [wdB, h]
theorem wdB_next (k x j : Nat) (h : j < k) : (wdB k x).take (j + 1) = (wdB k x).take j ++ [UInt8.ofNat (x / 256 ^ (k - 1 - j) % 256)] := by rw [List.take_add_one, wdB_get k x j h]; rfl
set_option maxRecDepth 100000 in
set_option maxHeartbeats 2000000 in
theorem widePut_any (base : Nat) (A : Option Addr) (n c : Nat) (l : List UInt8) (x k : Nat) (w : World) (hp : PreB base w A n c l) (hb : base ≤ w.heap.size) (hm : n ≤ 100000000000) (hx : x < 18446744073709551616) (h1 : 0 < k) (hk : k ≤ 8) :
    Calls Tryz.prog 97 #[.slice A n c, .int .u64 x, .int .i64 (k : Int)] w fun e w' => PutO base w (l ++ wdB k x) e w' := by
  obtain ⟨i0, hi0, hz0, hz1, hz2⟩ := info_parts byt_info
  have HX := Lib.hid hx
  have hl := hp.len
  clear hx
  go_enter Tryz.func97, Tryz.ntmps97
  go_wp2_with fail
  go_loopw [0, 7] (fun b i wr => ∃ (j : Nat) (A3 : Option Addr) (n3 c3 : Nat), j ≤ k ∧ b = .slice A3 n3 c3 ∧ i = .int .i64 ((k : Int) - 1 - (j : Int)) ∧ n3 = n + j ∧ PreB base wr A3 n3 c3 (l ++ (wdB k x).take j) ∧ (0 < j → OwnB base wr A3 n3 c3 (l ++ (wdB k x).take j)) ∧ Below base w wr ∧ Oth w wr) (fun _ i _ => (intOf i + 1).toNat)
  case atStart => exact ⟨0, A, n, c, Nat.zero_le _, rfl, by go_num, rfl, by simpa using hp, fun h => absurd h (by omega), Below.refl _ _, Oth.refl _⟩
  case round =>
    clear hp hl
    obtain ⟨j, A3, n3, c3, hj, rfl, rfl, hn3, hP, hO, hB, hT⟩ := hrel
    by_cases hlt : j < k
    · clear hO
      have hl2 := hP.len
      have i1 : (0 : Int) ≤ (k : Int) - 1 - (j : Int) := by omega
      have i2 : (k : Int) - 1 - (j : Int) < 8 := by omega
      have i3 : (j : Int) ≤ (k : Int) - 1 := by omega
      have hq := shift_byte x (k - 1 - j)
      have HE := Lib.hid (show l ++ (wdB k x).take j ++ [UInt8.ofNat (x / 256 ^ (k - 1 - j) % 256)] = l ++ (wdB k x).take (j + 1) by rw [wdB_next k x j hlt, List.append_assoc])
      have hown := litB wr (base := base) _ _ hq (Nat.le_trans hb hB.size)
      have hP2 := hP.keep (b0 wr (.cells #[.int .u8 ((x : Int) / 2 ^ (8 * (k - 1 - j)) % 256)] 5))
      have hB2 := hB.alloc (Nat.le_trans hb hB.size) (.cells #[.int .u8 ((x : Int) / 2 ^ (8 * (k - 1 - j)) % 256)] 5)
      have hT2 := hT.trans (Oth.below (b0 wr (.cells #[.int .u8 ((x : Int) / 2 ^ (8 * (k - 1 - j)) % 256)] 5)))
      have hn4 : n3 ≤ 100000000000 + 10 := by omega
      have HQ := Lib.hid hq
      have HN := Lib.hid hn3
      clear hq hP hl2 hn3
      go_wp2_with (at_builtin; refine wpList_apP (base := base) (n := n3) (m := 1) (l := l ++ (wdB k x).take j) (l2 := [UInt8.ofNat (x / 256 ^ (k - 1 - j) % 256)]) (by rfl) _ _ (by rfl) Tryz.underlying23 Tryz.underlying23 hi0 hz0 hz1 hz2 (by rfl) (by rfl) hP2 hown.rd rfl (by omega) (n3 + 1) rfl (by omega) (Nat.le_trans hb hB2.size) ?_; intro A6 c6 w6 hO6 hb6 ho6)
      rw [HE.out] at hO6
      have hT6 := hT2.trans ho6
      have hn7 : n3 + 1 = n + (j + 1) := by have := HN.out; omega
      go_roundw
      case rel => exact ⟨j + 1, A6, n3 + 1, c6, by omega, rfl, by go_num, hn7, .inl hO6, fun _ => hO6, hB2.trans hb6, hT6⟩
      case measure => simp [intOf]; omega
    · have i1 : ¬ (0 : Int) ≤ (k : Int) - 1 - (j : Int) := by omega
      have e : (wdB k x).take j = wdB k x := List.take_of_length_le (by rw [wdB_len]; omega)
      have hO2 := hO (by omega)
      clear hO hP
      rw [e, hn3] at hO2
      go_wp2_with fail
      go_ret
      exact ⟨⟨A3, n + j, c3, rfl, hO2⟩, hB, hT⟩
end Go.Proofs.YtpjleeeligahaaaGreatDoor
