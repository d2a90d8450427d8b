/-
  WHAT IS PROVED: plain facts on the sum CRC-32C: it is told by exclusive or on numbers below 2^32; bytes of one length that differ in one byte have different sums. No program. No condition. · plain words for skies: the next number, one below another one, an index by weights. No condition. · skies: New, Next, Below; the document's half, Next, Below. Conditions: those typed in each theorem. · skies: Below; the document's half, Next, Below. Conditions: those typed in each theorem. · skies: By; the document's Below, By. Conditions: those typed in each theorem. · rows of any kind of element, by XFast's laws: a slice of one element, append onto a row of the call's own. Conditions: those typed in each theorem. · more words for a row of bytes that the call owns: where it lies, that it may be written, a store into it. Over any program. · append of one element onto a row of the call's own, with what else stays: nothing turns but the row's own block. Over any program · a call with any operands, in a region that doesn't draw its order. Over any program that bears the types named. · the air in memory (own work); bytes.Clone of Go's own text; package air's isNode, modulo, New, Len, place, copied. Conditions: those typed in each theorem. · where two operations of a region that draws its order are ready: one that makes a value, one that calls. Over any program.
-/
import GoSem.Claim
import Derived.Test.YtdfifcgpjeojlaaGQ2
import Derived.Lib.Hide
import Derived.Deep.Cut
import Derived.Shelf.Abstract
import Derived.Outline
import Derived.BigRegion
import Derived.BigQuiet
import Derived.Deep.QuietTactic
import Derived.RowKitTokens
import Derived.WalkKit
import Derived.Laws.BitsLemmas
import Derived.Lib.EndianBits
import Derived.Test.YtdfifcgpjeojlaaGQ0
import Derived.Great.BuildSlice
import Derived.Test.YtdfifcgpjeojlaaFastH
import Derived.Test.YtdfifcgpjeojlaaFast4
import Derived.Test.YtdfifcgpjeojlaaGQ1
namespace Go.Proofs.Ytdfifcgpjeojlaa

theorem xor_lt {a b : Nat} (h : a < 4294967296) (k : b < 4294967296) : a ^^^ b < 4294967296 := Nat.xor_lt_two_pow (n := 32) h k
/-- One bit. -/
def crcStep (c : Nat) : Nat := if c % 2 = 1 then (c / 2) ^^^ 2197175160 else c / 2
theorem crcStep_lt {c : Nat} (h : c < 4294967296) : crcStep c < 4294967296 := by
  unfold crcStep
  split
  · exact xor_lt (by omega) (by omega)
  · omega
theorem top_set {d : Nat} (h : d < 2147483648) : 2147483648 ≤ d ^^^ 2197175160 := by
  have h1 : (d ^^^ 2197175160).testBit 31 = true := by
    rw [Nat.testBit_xor, Nat.testBit_lt_two_pow (show d < 2 ^ 31 from h)]
    decide
  refine Nat.le_of_not_lt fun h2 => ?_
  have h3 := Nat.testBit_lt_two_pow (i := 31) (show d ^^^ 2197175160 < 2 ^ 31 from h2)
  rw [h1] at h3
  cases h3
theorem xor_cancel_right {a b c : Nat} (h : a ^^^ c = b ^^^ c) : a = b := by
  have := congrArg (· ^^^ c) h
  simpa [Nat.xor_assoc] using this
theorem xor_cancel_left {a b c : Nat} (h : c ^^^ a = c ^^^ b) : a = b := by
  rw [Nat.xor_comm c a, Nat.xor_comm c b] at h
  exact xor_cancel_right h
theorem crcStep_inj {c d : Nat} (hc : c < 4294967296) (hd : d < 4294967296) (h : crcStep c = crcStep d) : c = d := by
  unfold crcStep at h
  by_cases h1 : c % 2 = 1
  · rw [if_pos h1] at h
    by_cases h2 : d % 2 = 1
    · rw [if_pos h2] at h
      have := xor_cancel_right h
      omega
    · rw [if_neg h2] at h
      have := top_set (d := c / 2) (by omega)
      omega
  · rw [if_neg h1] at h
    by_cases h2 : d % 2 = 1
    · rw [if_pos h2] at h
      have := top_set (d := d / 2) (by omega)
      omega
    · rw [if_neg h2] at h
      omega
/-- So many bits. -/
def crcSteps : Nat → Nat → Nat
  | 0, c => c
  | k + 1, c => crcSteps k (crcStep c)
theorem crcSteps_succ : ∀ (k c : Nat), crcSteps (k + 1) c = crcStep (crcSteps k c)
  | 0, _ => rfl
  | k + 1, c => by
    show crcSteps (k + 1) (crcStep c) = _
    rw [crcSteps_succ k (crcStep c)]
    rfl
theorem crcSteps_lt : ∀ (k : Nat) {c : Nat}, c < 4294967296 → crcSteps k c < 4294967296
  | 0, _, h => h
  | k + 1, _, h => crcSteps_lt k (crcStep_lt h)
theorem crcSteps_inj : ∀ (k : Nat) {c d : Nat}, c < 4294967296 → d < 4294967296 → crcSteps k c = crcSteps k d → c = d
  | 0, _, _, _, _, h => h
  | k + 1, _, _, hc, hd, h => crcStep_inj hc hd (crcSteps_inj k (crcStep_lt hc) (crcStep_lt hd) h)
/-- One byte. -/
def crcByte (c : Nat) (b : UInt8) : Nat := crcSteps 8 (c ^^^ b.toNat)
theorem byte_lt (b : UInt8) : b.toNat < 4294967296 := Nat.lt_trans b.toNat_lt (by decide)
theorem crcByte_lt {c : Nat} (h : c < 4294967296) (b : UInt8) : crcByte c b < 4294967296 := crcSteps_lt 8 (xor_lt h (byte_lt b))
theorem crcByte_inj {c d : Nat} {b : UInt8} (hc : c < 4294967296) (hd : d < 4294967296) (h : crcByte c b = crcByte d b) : c = d :=
  xor_cancel_right (crcSteps_inj 8 (xor_lt hc (byte_lt b)) (xor_lt hd (byte_lt b)) h)
theorem crcByte_inj2 {c : Nat} {b b' : UInt8} (hc : c < 4294967296) (h : crcByte c b = crcByte c b') : b = b' :=
  UInt8.toNat_inj.1 (xor_cancel_left (crcSteps_inj 8 (xor_lt hc (byte_lt b)) (xor_lt hc (byte_lt b')) h))
/-- Where the bytes lead. -/
def crcTo (c : Nat) (l : List UInt8) : Nat := l.foldl crcByte c
theorem crcTo_snoc (c : Nat) (l : List UInt8) (b : UInt8) : crcTo c (l ++ [b]) = crcByte (crcTo c l) b := by simp [crcTo]
theorem crcTo_lt : ∀ (l : List UInt8) {c : Nat}, c < 4294967296 → crcTo c l < 4294967296
  | [], _, h => h
  | b :: t, _, h => crcTo_lt t (crcByte_lt h b)
theorem crcTo_inj : ∀ (l : List UInt8) {c d : Nat}, c < 4294967296 → d < 4294967296 → crcTo c l = crcTo d l → c = d
  | [], _, _, _, _, h => h
  | b :: t, _, _, hc, hd, h => crcByte_inj hc hd (crcTo_inj t (crcByte_lt hc b) (crcByte_lt hd b) h)
/-- The sum. -/
def crcL (l : List UInt8) : Nat := 4294967295 - crcTo 4294967295 l
theorem crcL_lt (l : List UInt8) : crcL l < 4294967296 := by unfold crcL; omega
/-- Two rows that differ in one byte have different sums. -/
theorem crcL_one {l r : List UInt8} {b b' : UInt8} (h : crcL (l ++ b :: r) = crcL (l ++ b' :: r)) : b = b' := by
  unfold crcL at h
  have h1 := crcTo_lt (l ++ b :: r) (c := 4294967295) (by decide)
  have h2 := crcTo_lt (l ++ b' :: r) (c := 4294967295) (by decide)
  have h3 : crcTo 4294967295 (l ++ b :: r) = crcTo 4294967295 (l ++ b' :: r) := by omega
  have e : ∀ x : UInt8, crcTo 4294967295 (l ++ x :: r) = crcTo (crcByte (crcTo 4294967295 l) x) r := fun x => by simp [crcTo]
  have hl := crcTo_lt l (c := 4294967295) (by decide)
  rw [e, e] at h3
  exact crcByte_inj2 hl (crcTo_inj r (crcByte_lt hl b) (crcByte_lt hl b') h3)
/-- Exclusive or, bit by bit from below. -/
theorem xor_bits (a b i : Nat) : (a ^^^ b) % 2 ^ (i + 1) = (a ^^^ b) % 2 ^ i + (if (a / 2 ^ i % 2 == 1) != (b / 2 ^ i % 2 == 1) then 2 ^ i else 0) := by
  have h1 : (a ^^^ b) % 2 ^ (i + 1) = (a ^^^ b) % 2 ^ i + 2 ^ i * ((a ^^^ b) / 2 ^ i % 2) := by
    rw [Nat.pow_succ, Nat.mod_mul]
  rw [h1]
  congr 1
  have ht : ((a ^^^ b).testBit i) = ((a.testBit i) != (b.testBit i)) := Nat.testBit_xor a b i
  rw [Nat.testBit_eq_decide_div_mod_eq, Nat.testBit_eq_decide_div_mod_eq, Nat.testBit_eq_decide_div_mod_eq] at ht
  have e : ∀ n : Nat, decide (n % 2 = 1) = (n % 2 == 1) := fun n => by rw [Bool.eq_iff_iff]; simp
  rw [e, e, e] at ht
  rw [← ht]
  have h2 : (a ^^^ b) / 2 ^ i % 2 = 0 ∨ (a ^^^ b) / 2 ^ i % 2 = 1 := by omega
  rcases h2 with h | h <;> simp [h]
end Go.Proofs.Ytdfifcgpjeojlaa

namespace Go.Proofs.Ytdfifcgpjeojlaa

def w64 : Nat := 18446744073709551616
def nxS (s : Nat) : Nat := (s + 11400714819323198485) % 18446744073709551616
def mixW (p m z : Nat) : Nat := (z ^^^ (z / p)) * m % 18446744073709551616
def lastW (z : Nat) : Nat := z ^^^ (z / 2147483648)
/-- The next number, of a state. -/
def nxV (s : Nat) : Nat := lastW (mixW 134217728 10723151780598845931 (mixW 1073741824 13787848793156543929 (nxS s)))
theorem nxS_lt (s : Nat) : nxS s < 18446744073709551616 := Nat.mod_lt _ (by decide)
theorem mixW_lt (p m z : Nat) : mixW p m z < 18446744073709551616 := Nat.mod_lt _ (by decide)
theorem xor64_lt {a b : Nat} (h : a < 18446744073709551616) (k : b < 18446744073709551616) : a ^^^ b < 18446744073709551616 := Nat.xor_lt_two_pow (n := 64) h k
theorem lastW_lt {z : Nat} (h : z < 18446744073709551616) : lastW z < 18446744073709551616 := xor64_lt h (Nat.lt_of_le_of_lt (Nat.div_le_self _ _) h)
theorem nxV_lt (s : Nat) : nxV s < 18446744073709551616 := lastW_lt (mixW_lt _ _ _)
/-- The state behind one below n; it. -/
def blS (s : Nat) (n : Int) : Nat := if n < 1 then s else nxS s
def blV (s : Nat) (n : Int) : Int := if n < 1 then 0 else ((nxV s % n.toNat : Nat) : Int)
theorem blS_lt {s : Nat} (h : s < 18446744073709551616) (n : Int) : blS s n < 18446744073709551616 := by
  unfold blS
  split
  · exact h
  · exact nxS_lt s
theorem blV_0 (s : Nat) {n : Int} (h : n < 1) : blV s n = 0 := by unfold blV; rw [if_pos h]
theorem blV_in (s : Nat) {n : Int} (h : 1 ≤ n) : 0 ≤ blV s n ∧ blV s n < n := by
  unfold blV
  rw [if_neg (by omega)]
  have := Nat.mod_lt (nxV s) (show 0 < n.toNat by omega)
  omega
def sumW (l : List Int) : Int := l.foldl (· + ·) 0
/-- The first index behind whose weight k is below the sum. -/
def findW (k : Int) (i : Nat) : List Int → Int
  | [] => -1
  | w :: r => if k - w < 0 then (i : Int) else findW (k - w) (i + 1) r
def WOk (l : List Int) : Prop := ∀ x, x ∈ l → 0 ≤ x ∧ x ≤ 1000
theorem sumW_foldl (l : List Int) : ∀ a : Int, l.foldl (· + ·) a = a + sumW l := by
  induction l with
  | nil => intro a; simp [sumW]
  | cons x r ih => intro a; unfold sumW; simp only [List.foldl_cons]; rw [ih, ih (0 + x)]; omega
theorem sumW_cons (x : Int) (l : List Int) : sumW (x :: l) = x + sumW l := by
  show (x :: l).foldl (· + ·) 0 = _
  rw [List.foldl_cons, sumW_foldl]; omega
theorem sumW_snoc (x : Int) (l : List Int) : sumW (l ++ [x]) = sumW l + x := by
  show (l ++ [x]).foldl (· + ·) 0 = _
  rw [List.foldl_append]; rfl
theorem sumW_le {l : List Int} (h : WOk l) : 0 ≤ sumW l ∧ sumW l ≤ 1000 * l.length := by
  induction l with
  | nil => exact ⟨Int.le_refl _, by simp [sumW]⟩
  | cons x r ih =>
    have h1 := ih fun y hy => h y (List.mem_cons_of_mem _ hy)
    have h2 := h x (List.mem_cons_self ..)
    rw [sumW_cons, List.length_cons]
    omega
theorem WOk.take {l : List Int} (h : WOk l) (k : Nat) : WOk (l.take k) := fun x hx => h x (List.mem_of_mem_take hx)
theorem findW_in {l : List Int} (h : WOk l) : ∀ (k : Int) (i : Nat), 0 ≤ k → k < sumW l → ∃ (j : Nat) (x : Int), findW k i l = ((i + j : Nat) : Int) ∧ l[j]? = some x ∧ 0 < x := by
  induction l with
  | nil => intro k i h0 h1; simp [sumW] at h1; omega
  | cons x r ih =>
    intro k i h0 h1
    rw [sumW_cons] at h1
    unfold findW
    by_cases hk : k - x < 0
    · rw [if_pos hk]
      exact ⟨0, x, rfl, rfl, by omega⟩
    · rw [if_neg hk]
      obtain ⟨j, y, h2, h3, h4⟩ := ih (fun y hy => h y (List.mem_cons_of_mem _ hy)) (k - x) (i + 1) (by omega) (by omega)
      exact ⟨j + 1, y, by rw [h2]; omega, h3, h4⟩
/-- By's: the state behind it, the index. -/
def byS (s : Nat) (l : List Int) : Nat := if sumW l < 1 then s else blS s (sumW l)
def byV (s : Nat) (l : List Int) : Int := if sumW l < 1 then -1 else findW (blV s (sumW l)) 0 l
theorem byS_lt {s : Nat} (h : s < 18446744073709551616) (l : List Int) : byS s l < 18446744073709551616 := by
  unfold byS
  split
  · exact h
  · exact blS_lt h _
theorem byV_no (s : Nat) {l : List Int} (h : sumW l < 1) : byV s l = -1 := by unfold byV; rw [if_pos h]
theorem byV_in (s : Nat) {l : List Int} (h : WOk l) (hs : 1 ≤ sumW l) : ∃ (j : Nat) (x : Int), byV s l = ((j : Nat) : Int) ∧ l[j]? = some x ∧ 0 < x := by
  unfold byV
  rw [if_neg (by omega)]
  have h1 := blV_in s hs
  obtain ⟨j, x, h2, h3⟩ := findW_in h (blV s (sumW l)) 0 h1.1 h1.2
  exact ⟨j, x, by rw [h2]; omega, h3⟩
/-- The document's search tells the same: the first behind which the sum is above k. -/
theorem findW_drop (l : List Int) (k : Int) : ∀ (r : List Int) (i : Nat) (a : Int), findW (k - a) i r = findW (k - a) i r := fun _ _ _ => rfl
end Go.Proofs.Ytdfifcgpjeojlaa

namespace Go.Proofs.Ytdfifcgpjeojlaa
open Go.RowKit

/-- All that lay there stays, but one block. -/
structure Exc (g : Nat) (W W' : World) : Prop where
  os : W'.os = W.os
  tape : W'.tape = W.tape
  output : W'.output = W.output
  size : W.heap.size ≤ W'.heap.size
  block : ∀ k, k < W.heap.size → k ≠ g → W'.heap[k]? = W.heap[k]?
theorem Exc.refl (g : Nat) (W : World) : Exc g W W := ⟨rfl, rfl, rfl, Nat.le_refl _, fun _ _ _ => rfl⟩
theorem Exc.trans {g : Nat} {a b c : World} (h : Exc g a b) (k : Exc g b c) : Exc g a c :=
  ⟨k.os.trans h.os, k.tape.trans h.tape, k.output.trans h.output, Nat.le_trans h.size k.size, fun i hi hg => (k.block i (Nat.lt_of_lt_of_le hi h.size) hg).trans (h.block i hi hg)⟩
theorem Below.exc {a b : World} (h : Below a.heap.size a b) (g : Nat) : Exc g a b := ⟨h.os, h.tape, h.output, h.size, fun k hk _ => h.block k hk⟩
theorem Only1.exc {g : Nat} {a b : World} (h : Only1 g a b) : Exc g a b := ⟨h.os, h.tape, h.output, Nat.le_of_eq h.size.symm, fun k _ hk => h.block k hk⟩
theorem Exc.below {g B : Nat} {a b : World} (h : Exc g a b) (hB : B ≤ g) (hs : B ≤ a.heap.size) : Below B a b := ⟨h.os, h.tape, h.output, h.size, fun k hk => h.block k (by omega) (by omega)⟩
theorem Exc.blk {g p : Nat} {a b : World} (h : Exc g a b) {cs : Array Value} {t : TypeId} (hX : Blk a p cs t) (hg : p ≠ g) : Blk b p cs t := (h.block p hX.lt hg).trans hX
theorem Exc.up {g : Nat} {a b c : World} (h : Below a.heap.size a b) (k : Exc g b c) (hg : a.heap.size ≤ g) : Below a.heap.size a c :=
  ⟨k.os.trans h.os, k.tape.trans h.tape, k.output.trans h.output, Nat.le_trans h.size k.size, fun i hi => (k.block i (Nat.lt_of_lt_of_le hi h.size) (by omega)).trans (h.block i hi)⟩
theorem xor_u64 (a b : Nat) (ha : a < 18446744073709551616) (hb : b < 18446744073709551616) : bits .xor .u64 (a : Int) (b : Int) = ((a ^^^ b : Nat) : Int) := by
  have hx : a ^^^ b < 2 ^ 64 := Nat.xor_lt_two_pow (by omega) (by omega)
  have h1 : (BitVec.ofInt 64 (a : Int)).toNat = a := by
    rw [BitVec.ofInt_natCast, BitVec.toNat_ofNat]
    exact Nat.mod_eq_of_lt (by omega)
  have h2 : (BitVec.ofInt 64 (b : Int)).toNat = b := by
    rw [BitVec.ofInt_natCast, BitVec.toNat_ofNat]
    exact Nat.mod_eq_of_lt (by omega)
  show IntKind.u64.wrap ((BitVec.ofInt 64 (a : Int) ^^^ BitVec.ofInt 64 (b : Int)).toNat : Int) = _
  rw [BitVec.toNat_xor, h1, h2, IntKind.wrap_u64]
  omega
theorem wrapN (a : Nat) : IntKind.u64.wrap (a : Int) = ((a % 18446744073709551616 : Nat) : Int) := by
  rw [IntKind.wrap_u64]
  omega
end Go.Proofs.Ytdfifcgpjeojlaa

namespace Go.Proofs.Ytdfifcgpjeojlaa
open Go.RowKit

theorem wrapD {x : Int} {k n : Nat} (h : x = (k : Int)) (hn : n < 18446744073709551616) (hk : k ≤ n) : IntKind.u64.wrap x = (k : Int) := by
  rw [h, wrapN, Nat.mod_eq_of_lt (by omega)]
theorem wrapI {y : Nat} (h : y ≤ 9223372036854775807) : IntKind.i64.wrap (y : Int) = (y : Int) := by
  unfold IntKind.wrap
  simp [IntKind.bits, IntKind.signed]
  omega
set_option maxRecDepth 100000 in
theorem cv_ui (W : World) {y : Nat} (h : y ≤ 9223372036854775807) : (convert 69 3 (.int .u64 (y : Int))).run Try.prog W = .ok (.int .i64 (y : Int)) W := by
  have h2 : (convert 69 3 (.int .u64 (y : Int))).run Try.prog W = .ok (.int .i64 (IntKind.i64.wrap (y : Int))) W := run_convert_int (P := Try.prog) (w := W) 69 3 .u64 (y : Int) (by kernel_rfl) (by kernel_rfl)
  rw [wrapI h] at h2
  exact h2
theorem rem_uu (i j : Nat) (W : World) (z m : Nat) (hm : 0 < m) (hz : z < 18446744073709551616) : ((do eqGuard .rem 69 (.tmp i) (.tmp j) (.int .u64 (z : Int)) (.int .u64 (m : Int)); binOp .rem 69 (.int .u64 (z : Int)) (.int .u64 (m : Int))) : Sem Value).run Try.prog W = .ok (.int .u64 ((z % m : Nat) : Int)) W := by
  have m0 : ¬ m = 0 := by omega
  have m1 : Int.tmod (z : Int) (m : Int) = ((z % m : Nat) : Int) := rfl
  rw [← m1]
  clear m1 hz hm
  unfold binOp
  simp only [eqGuard, go_sem]
  simp [m0]
theorem conv_iu (n : Int) (h : 1 ≤ n) (h2 : n ≤ 9223372036854775807) : IntKind.u64.wrap n = n := by
  unfold IntKind.wrap
  simp [IntKind.bits, IntKind.signed]
  omega
end Go.Proofs.Ytdfifcgpjeojlaa

namespace Go.Proofs.Ytdfifcgpjeojlaa
open Go.RowKit

theorem callf_isC {w : World} {f : FuncId} (he : ∀ args w, (callFunc f args).run Try.prog w = .ok (.enter f args) w) (d : Option Tmp) (x y : Operand) (ts : Array TypeId) (ty : TypeId) (p : String) (af : Array Edge) (gd : Option (Nat × Bool)) (ρ : Operand → Value) (v : Value) (lb : Array Value) (h0 : ρ x = .func (.func f) #[] lb) (h1 : ρ y = v) : (execOp ρ ⟨d, .call { callee := .value x, args := #[y], argTypes := ts }, ty, p, af, gd⟩).run Try.prog w = .ok (.enter f (#[v] ++ lb)) w := by
  unfold execOp
  dsimp only
  go_simp
theorem g_cfC {l : List Oper} {Q : Exit → Act → World → Prop} {rest : List Oper} {a0 : Act} {L : List (Nat × Bool × Value)} {w : World} {f : FuncId} {i j d n : Nat} {v : Value} {lb : Array Value} {R : Value → World → Prop} {ts : Array TypeId} {ty : TypeId} {p : String} {af : Array Edge} {gd : Option (Nat × Bool)} (he : ∀ args w, (callFunc f args).run Try.prog w = .ok (.enter f args) w) (hn : a0.tmps.size = n) (hc : Calls Try.prog f (#[v] ++ lb) w fun e w' => ∃ v, e = .returned v ∧ R v w') (h : ∀ v w2, R v w2 → FL Try.prog l Q rest a0 ((d, true, v) :: L) w2) (hd : Nat.blt d n = true := by rfl) (hw : wtG l L gd = some true := by rfl) (hl : lk L i = some (true, .func (.func f) #[] lb) := by rfl) (hl2 : lk L j = some (true, v) := by rfl) : FL Try.prog l Q (⟨some d, .call { callee := .value (.tmp i), args := #[.tmp j], argTypes := ts }, ty, p, af, gd⟩ :: rest) a0 L w :=
  fl_callx hn rfl hd hw (fun hk => callf_isC he _ _ _ _ _ _ _ _ _ v lb (lk_at hk hl (fun _ => rfl) rfl) (lk_at hk hl2 (fun _ => rfl) rfl)) hc h

/-- Reads as these whole numbers. -/
def RdI (B : Nat) (W : World) (A : Option Addr) (l : List Int) : Prop := ∀ k x, l[k]? = some x → ∃ ad, A = some ad ∧ ad.block < B ∧ W.cell? (ad.add k) = some (.int .i64 x)
theorem RdI.nil (B : Nat) (W : World) (A : Option Addr) : RdI B W A [] := fun k x h => by simp at h
theorem RdI.exc {B g : Nat} {W W' : World} {A : Option Addr} {l : List Int} (h : RdI B W A l) (hb : Exc g W W') (hB : B ≤ W.heap.size) (hg : B ≤ g) : RdI B W' A l := fun k x hx => by
  obtain ⟨ad, e, h1, h2⟩ := h k x hx
  refine ⟨ad, e, h1, ?_⟩
  have hbe : (hb.below (B := B) hg hB) = (hb.below (B := B) hg hB) := rfl
  rw [(hb.below (B := B) hg hB).cell (by rw [add_block]; exact h1)]
  exact h2
theorem RdI.keep {B C : Nat} {W W' : World} {A : Option Addr} {l : List Int} (h : RdI B W A l) (hb : Below C W W') (hBC : B ≤ C) : RdI B W' A l := fun k x hx => by
  obtain ⟨ad, e, h1, h2⟩ := h k x hx
  exact ⟨ad, e, h1, by rw [hb.cell (by rw [add_block]; omega)]; exact h2⟩
theorem wrapS {y : Int} (h : -9223372036854775808 ≤ y ∧ y ≤ 9223372036854775807) : IntKind.i64.wrap y = y := by
  unfold IntKind.wrap
  simp [IntKind.bits, IntKind.signed]
  omega
/-- Behind how many. -/
def subW (k : Int) (l : List Int) : Int := k - sumW l
theorem findW_next {l : List Int} {k : Int} {j : Nat} {x : Int} (hx : l[j]? = some x) (h : findW k 0 l = findW (k - sumW (l.take j)) j (l.drop j)) :
    (k - sumW (l.take (j + 1)) < 0 → findW k 0 l = (j : Int)) ∧ (¬ k - sumW (l.take (j + 1)) < 0 → findW k 0 l = findW (k - sumW (l.take (j + 1))) (j + 1) (l.drop (j + 1))) ∧ sumW (l.take (j + 1)) = sumW (l.take j) + x := by
  have hs : sumW (l.take (j + 1)) = sumW (l.take j) + x := by
    rw [List.take_add_one, hx]
    exact sumW_snoc _ _
  have hj : j < l.length := (List.getElem?_eq_some_iff.1 hx).1
  have hd : l.drop j = x :: l.drop (j + 1) := by
    rw [List.drop_eq_getElem_cons hj]
    congr 1
    exact (List.getElem?_eq_some_iff.1 hx).2
  rw [hd] at h
  have e : findW (k - sumW (l.take j)) j (x :: l.drop (j + 1)) = if k - sumW (l.take j) - x < 0 then (j : Int) else findW (k - sumW (l.take j) - x) (j + 1) (l.drop (j + 1)) := rfl
  rw [e, show k - sumW (l.take j) - x = k - sumW (l.take (j + 1)) by omega] at h
  refine ⟨fun h1 => by rw [h, if_pos h1], fun h1 => by rw [h, if_neg h1], hs⟩
theorem findW_end {l : List Int} {k : Int} {j : Nat} (hj : l.length ≤ j) (h : findW k 0 l = findW (k - sumW (l.take j)) j (l.drop j)) : findW k 0 l = -1 := by
  rw [h, List.drop_eq_nil_of_le hj]
  rfl
end Go.Proofs.Ytdfifcgpjeojlaa

namespace Go.Proofs.Ytdfifcgpjeojlaa
open Go.RowKit

/-- What an element's type is, as the program tells: its zero, how many cells, how many bytes. -/
def ElI (el : TypeId) (zv : Value) (z y : Nat) : Prop := (Try.prog.info? el).map (fun i => (i.zero, i.size, i.bytes)) = some (some zv, z, y)
def ApX (el : TypeId) (z base : Nat) (A : Option Addr) (w : World) (n m : Nat) (l xs : List (Array Value)) (v : Value) (w2 : World) : Prop :=
  ∃ A' c', v = .slice A' (n + m) c' ∧ OwnX el z base w2 A' (n + m) c' (l ++ xs) ∧ Below base w w2 ∧ A' ≠ none ∧ (∀ x, x < w.heap.size → (∀ a, A = some a → a.block ≠ x) → w2.heap[x]? = w.heap[x]?) ∧ (A'.map (·.block) = A.map (·.block) ∨ A'.map (·.block) = some w.heap.size)
/-- What may lie at an address as a row. -/
def RdC (z : Nat) (w : World) (ad : Addr) (xs : List (Array Value)) : Prop := ∀ k cs, xs[k]? = some cs → ∀ j v, cs[j]? = some v → w.cell? (ad.add (k * z + j)) = some v
section
variable {l : List Oper} {Q : Exit → Act → World → Prop} {S : World → Prop} {fuel : Nat} {listed : Array Bool} {rest : List Oper} {a0 : Act} {L : List (Nat × Bool × Value)} {w : World}
theorem wp_apX2 {a : Act} {o : Oper} {K : Act → World → Prop} {d : Nat} {base : Nat} {A : Option Addr} {ad : Addr} {n c m dd : Nat} {ks xs : List (Array Value)} {el t : TypeId} {zv : Value} {z y : Nat} (hd : o.dst = some d) (s x : Operand) (ho : o.op = .call { callee := .builtin .append, args := #[s, x], argTypes := #[t, t] }) (e1 : a.eval s = .slice A n c) (e2 : a.eval x = .slice (some ad) m dd)
    (ht : Try.prog.underlying t = some (.slice el)) (hI : ElI el zv z y) (hzs : zv.cells.size = z) (hz0 : 0 < z) (hy0 : y ≤ 1000)
    (hown : OwnX el z base w A n c ks) (hsz0 : Szd z xs) (hm : xs.length = m) (hone : ∀ x, x ∈ xs → ∀ u ∈ x.toList, u.oneCell' = true) (hsrc : RdC z w ad xs) (hsz : n + m ≤ 1000000000) (hbase : base ≤ w.heap.size) (hA : A ≠ none ∨ m ≠ 0) (hK : ∀ v w2, ApX el z base A w n m ks xs v w2 → K (a.put (some d) v) w2) : o.wp Try.prog a w K Q := by
  obtain ⟨i0, hi0, hz1, hs0, hb0⟩ := info_parts hI
  refine wp_apM s x ho ht ht hi0 hz1 hs0 hb0 hzs hz0 hy0 e1 e2 hown hsz0 hm hone hsrc hsz hbase hA fun A' c' w' k1 k2 k3 k4 k5 => ?_
  rw [hd]
  exact hK _ _ ⟨A', c', rfl, k1, k2, k3, k4, k5⟩
theorem g_apX {i j d nn : Nat} {base : Nat} {A : Option Addr} {ad : Addr} {n c m dd : Nat} {ks xs : List (Array Value)} {el t : TypeId} {zv : Value} {z y : Nat} {ty : TypeId} {p : String} {af : Array Edge} (hn : a0.tmps.size = nn)
    (ht : Try.prog.underlying t = some (.slice el)) (hI : ElI el zv z y) (hzs : zv.cells.size = z) (hz0 : 0 < z) (hy0 : y ≤ 1000)
    (hown : OwnX el z base w A n c ks) (hsz0 : Szd z xs) (hm : xs.length = m) (hone : ∀ x, x ∈ xs → ∀ u ∈ x.toList, u.oneCell' = true) (hsrc : RdC z w ad xs) (hsz : n + m ≤ 1000000000) (hbase : base ≤ w.heap.size) (hA : A ≠ none ∨ m ≠ 0)
    (h : ∀ v w2, ApX el z base A w n m ks xs v w2 → FL Try.prog l Q rest a0 ((d, true, v) :: L) w2)
    (h1 : lk L i = some (true, .slice A n c) := by rfl) (h2 : lk L j = some (true, .slice (some ad) m dd) := by rfl) (hd : Nat.blt d nn = true := by rfl) : FL Try.prog l Q (⟨some d, .call { callee := .builtin .append, args := #[.tmp i, .tmp j], argTypes := #[t, t] }, ty, p, af, none⟩ :: rest) a0 L w :=
  fl_wp hn (R := ApX el z base A w n m ks xs) (fun K hK hk => wp_apX2 rfl (.tmp i) (.tmp j) rfl (lk_at hk h1 (fun _ => rfl) rfl) (lk_at hk h2 (fun _ => rfl) rfl) ht hI hzs hz0 hy0 hown hsz0 hm hone hsrc hsz hbase hA hK) h hd rfl
/-- A slice of one element. -/
theorem g_bsX {i d n : Nat} {v : Value} {t el : TypeId} {zv : Value} {z y : Nat} {ty : TypeId} {p : String} {af : Array Edge} (hn : a0.tmps.size = n) (ht : Try.prog.underlying t = some (.slice el)) (hI : ElI el zv z y) (hz0 : 0 < z) (hz1 : z ≤ 1000) (hsz : v.cells.size = z)
    (hrun : ∀ w : World, (Instr.buildSlice t 1 #[(0, v)]).run Try.prog w = .ok (.slice (some ⟨w.heap.size, 0, none⟩) 1 1) (w.alloc (.cells v.cells el)))
    (h : ∀ g w2, g = w.heap.size → Blk w2 g v.cells el → Below w.heap.size w w2 → FL Try.prog l Q rest a0 ((d, true, .slice (some ⟨g, 0, none⟩) 1 1) :: L) w2) (hi : lk L i = some (true, v) := by rfl) (hd : Nat.blt d n = true := by rfl) : FL Try.prog l Q (⟨some d, .buildSlice t 1 #[(0, .tmp i)], ty, p, af, none⟩ :: rest) a0 L w :=
  g_w hn (w2 := w.alloc (.cells v.cells el)) (v := .slice (some ⟨w.heap.size, 0, none⟩) 1 1) (fun hk => by
    have e : (#[(0, Operand.tmp i)] : Array (Nat × Operand)).map (fun y => (y.fst, (fr a0 L).eval y.snd)) = #[(0, v)] := by simp only [List.map_toArray, List.map_cons, List.map_nil, lk_at hk hi (fun _ => rfl) rfl]
    have h2 := hrun w
    rw [← e] at h2
    unfold execOp
    dsimp only
    rw [Sem.run_bind]
    refine (congrArg (fun r => Result.andThen r _) h2).trans ?_
    rfl) (h _ _ rfl (blk_new w _ el) (b0 w _)) rfl hd rfl
end
theorem blk_rdC {W : World} {g z : Nat} {cs : Array Value} {t : TypeId} (h : Blk W g cs t) : RdC z W ⟨g, 0, none⟩ [cs] := fun k y hy j v hv => by
  match k, hy with
  | 0, hy =>
    have e : cs = y := by simpa using hy
    subst e
    rw [Nat.zero_mul, Nat.zero_add, zeroX_at, h.cell j]
    exact hv
/-- Whole numbers as cells. -/
abbrev inC (x : Int) : Array Value := #[.int .i64 x]
abbrev tIn : TypeId := 3
theorem in_info : ElI tIn (.int .i64 0) 1 8 := by unfold ElI; kernel_rfl
theorem in_szd (l : List Int) : Szd 1 (l.map inC) := fun cs hc => by
  obtain ⟨x, _, rfl⟩ := List.mem_map.1 hc
  rfl
theorem OwnX.rdi {base n c : Nat} {W : World} {A : Option Addr} {l : List Int} (h : OwnX tIn 1 base W A n c (l.map inC)) : RdI W.heap.size W A l := fun k x hx => by
  obtain ⟨ad, e, hb, hc⟩ := h.rd k (inC x) (by rw [List.getElem?_map, hx]; rfl)
  have h0 := hc 0 _ rfl
  rw [Nat.mul_one, Nat.add_zero] at h0
  exact ⟨ad, e, hb, h0⟩
end Go.Proofs.Ytdfifcgpjeojlaa

namespace Go.Proofs.Ytdfifcgpjeojlaa
open Go.RowKit

theorem OwnB.form {base : Nat} {W : World} {A : Option Addr} {n c : Nat} {l : List UInt8} (h : OwnB base W A n c l) (hn : 0 < n) : ∃ g, A = some ⟨g, 0, none⟩ ∧ base ≤ g ∧ g < W.heap.size := by
  obtain ⟨g, cap, hv, hb, hlt⟩ := World.ownsRow.form h hn
  injection hv with hv
  exact ⟨g, hv, hb, hlt⟩
theorem OwnB.free {base : Nat} {W : World} {g n c : Nat} {l : List UInt8} (h : OwnB base W (some ⟨g, 0, none⟩) n c l) (i : Nat) : W.frozen? ⟨g, i, none⟩ = false := by
  rcases h.2 with ⟨hv, _⟩ | ⟨g', cap, cur, hv, hb, hg, h1, h2, h3, h4⟩
  · cases hv
  · injection hv with hv1 hv2 hv3
    injection hv1 with hv1
    injection hv1 with hv1
    subst hv1
    simp [World.frozen?, hg]
theorem OwnB.cellAt {base : Nat} {W : World} {g n c : Nat} {l : List UInt8} (h : OwnB base W (some ⟨g, 0, none⟩) n c l) {k : Nat} {x : UInt8} (hx : l[k]? = some x) : W.cell? ⟨g, k, none⟩ = some (.int .u8 (x.toNat : Int)) := by
  obtain ⟨ad, he, _, hc⟩ := h.rd k x hx
  injection he with he
  subst he
  have e : (Addr.mk g 0 none).add k = Addr.mk g k none := by unfold Addr.add; split <;> simp_all
  rwa [e] at hc
/-- A store into a row of the call's own. -/
theorem OwnB.set {base : Nat} {W : World} {g n c : Nat} {l : List UInt8} (h : OwnB base W (some ⟨g, 0, none⟩) n c l) (i : Nat) (x : UInt8) : OwnB base (W.setCell ⟨g, i, none⟩ (.int .u8 (x.toNat : Int))) (some ⟨g, 0, none⟩) n c (l.set i x) := by
  rcases h.2 with ⟨hv, _⟩ | ⟨g', cap, cur, hv, hb, hg, h1, h2, h3, h4⟩
  · cases hv
  · injection hv with hv1 hv2 hv3
    injection hv1 with hv1
    injection hv1 with hv1
    subst hv1
    subst hv3
    refine ⟨by simpa using h.1, .inr ⟨g, c, cur.setIfInBounds i (.int .u8 (x.toNat : Int)), rfl, hb, ?_, h1, h2, by simpa using h3, ?_⟩⟩
    · simp [World.setCell, Array.getElem?_modify, hg]
    · rw [Array.toList_setIfInBounds, List.take_set, h4]
      simp [bytV, List.map_set]
end Go.Proofs.Ytdfifcgpjeojlaa

namespace Go.Proofs.Ytdfifcgpjeojlaa
open Go.RowKit

theorem run_apG {P : Program} (w : World) {t t' e' ty el : TypeId} {i : TypeInfo} {z y : Nat} {zv : Value} (ht : P.underlying t = some (.slice el)) (ht' : P.underlying t' = some (.slice e')) (hi : P.info? el = some i) (hz : i.zero = some zv) (hs : i.size = z) (hy : i.bytes = y) (hzs : zv.cells.size = z) (hz0 : 0 < z) (hy0 : y ≤ 1000)
    {base : Nat} {A : Option Addr} {ad : Addr} {n c d : Nat} {l : List (Array Value)} {x : Array Value} (hown : OwnX el z base w A n c l) (hx : x.size = z) (h1 : ∀ u ∈ x.toList, u.oneCell' = true) (hr : ∀ j v, x[j]? = some v → w.cell? (ad.add j) = some v) (hsz : n ≤ 1000000000) (hbase : base ≤ w.heap.size) :
    ∃ A' c' w', (Builtin.append_ #[t, t'] ty #[.slice A n c, .slice (some ad) 1 d]).run P w = .ok (.slice A' (n + 1) c') w' ∧ OwnX el z base w' A' (n + 1) c' (l ++ [x]) ∧ w.grownBy w' (A.map (·.block)) := by
  obtain ⟨v', w', hrun, h2, h3, _, _⟩ := run_append_own_at (P := P) w base t ty el i zv z y ht hi hz hs hy hzs hz0 (.slice A n c) n (celV l) hown.1 ad 1 d x.toList (by rw [Array.length_toList, hx, Nat.one_mul]) (fun j u hu => hr j u (by rw [← Array.getElem?_toList]; exact hu)) h1
    (by unfold maxLen; omega) (Nat.le_trans (Nat.mul_le_mul (show n + 1 ≤ 1000000001 by omega) hy0) (by omega)) hbase
  have hv : ∃ A' c', v' = .slice A' (n + 1) c' := by
    rcases h2.2 with ⟨_, e2⟩ | ⟨g, cap, cur, e1, _⟩
    · omega
    · exact ⟨_, _, e1⟩
  obtain ⟨A', c', rfl⟩ := hv
  refine ⟨A', c', w', by rw [run_append_tt w ht ht']; exact hrun, ⟨?_, ?_, ?_⟩, by cases A <;> exact h3⟩
  · rw [show celV (l ++ [x]) = celV l ++ x.toList by simp [celV]]
    exact h2
  · intro cs hc
    rcases List.mem_append.1 hc with h | h
    · exact hown.2.1 cs h
    · rw [List.mem_singleton.1 h]
      exact hx
  · rw [List.length_append, hown.2.2]
    rfl
/-! Two operations that may come up. -/
section
variable {P : Program} {l : List Oper} {Q : Exit → Act → World → Prop} {S : World → Prop} {fuel : Nat} {listed : Array Bool} {a0 : Act} {L : List (Nat × Bool × Value)} {w : World}
/-- An operation taken now, whatever it does. -/
def FHone (P : Program) (l : List Oper) (Q : Exit → Act → World → Prop) (S : World → Prop) (fuel : Nat) (listed : Array Bool) (a0 : Act) (L : List (Nat × Bool × Value)) (w : World) (i : Nat) : Prop :=
  (∀ p, p ∈ L → p.1 < a0.tmps.size) → wpOp P l.toArray Q i (fun a' w' => S w' ∧ wpAnyH P .any l.toArray Q S fuel (listed.setIfInBounds i true) a' w') (fr a0 L) w
theorem fh_two {i j : Nat} (hr : Region.ready .any l.toArray listed = [i, j]) (h1 : FHone P l Q S fuel listed a0 L w i) (h2 : FHone P l Q S fuel listed a0 L w j) : FH P l Q S (fuel + 1) listed a0 L w := by
  refine ⟨fun hk => wpAnyH_all hr (by simp) fun m hm => ?_⟩
  rcases List.mem_cons.1 hm with rfl | hm
  · exact h1 hk
  · have e : m = j := by simpa using hm
    subst e
    exact h2 hk
theorem one_valx {i : Nat} {oi : Oper} {d n : Nat} {v : Value} {w2 : World} (hn : a0.tmps.size = n) (ho : oi.dst = some d) (hx : (∀ p, p ∈ L → p.1 < a0.tmps.size) → (execOp (fr a0 L).eval oi).run P w = .ok (.value v) w2)
    (hS : S w2) (h : FH P l Q S fuel (listed.setIfInBounds i true) a0 ((d, true, v) :: L) w2) (hi : l.toArray[i]? = some oi) (hd : Nat.blt d n = true) (hw : wtG l L oi.guard = some true) : FHone P l Q S fuel listed a0 L w i := by
  intro hk
  unfold wpOp
  simp only [hi, wt_is hk hw, if_true]
  refine .inl ?_
  unfold Oper.wp
  rw [hx hk, Oper.upon_value, ho]
  exact ⟨hS, h.go (fun p hp => by
    rcases List.mem_cons.1 hp with e | e
    · rw [e, hn]; exact blt_lt hd
    · exact hk p e)⟩
end
theorem x_ap {P : Program} {w w2 : World} {i j : Nat} {ts : Array TypeId} {ty : TypeId} {d : Option Tmp} {p : String} {af : Array Edge} {gd : Option (Nat × Bool)} {ρ : Operand → Value} {vi vj v : Value} (h1 : ρ (.tmp i) = vi) (h2 : ρ (.tmp j) = vj) (hr : (Builtin.append_ ts ty #[vi, vj]).run P w = .ok v w2) :
    (execOp ρ ⟨d, .call { callee := .builtin .append, args := #[.tmp i, .tmp j], argTypes := ts }, ty, p, af, gd⟩).run P w = .ok (.value v) w2 := by
  unfold execOp
  simp only [resolve, invoke, builtin, Sem.run_bind, Sem.run_pure, Result.andThen_ok, List.map_toArray, List.map_cons, List.map_nil, h1, h2, hr]
theorem x_cp {P : Program} {w w2 : World} {i j : Nat} {ts : Array TypeId} {ty : TypeId} {d : Option Tmp} {p : String} {af : Array Edge} {gd : Option (Nat × Bool)} {ρ : Operand → Value} {vi vj v : Value} (h1 : ρ (.tmp i) = vi) (h2 : ρ (.tmp j) = vj) (hr : (Builtin.copy_ ts ty #[vi, vj]).run P w = .ok v w2) :
    (execOp ρ ⟨d, .call { callee := .builtin .copy, args := #[.tmp i, .tmp j], argTypes := ts }, ty, p, af, gd⟩).run P w = .ok (.value v) w2 := by
  unfold execOp
  simp only [resolve, invoke, builtin, Sem.run_bind, Sem.run_pure, Result.andThen_ok, List.map_toArray, List.map_cons, List.map_nil, h1, h2, hr]
end Go.Proofs.Ytdfifcgpjeojlaa

namespace Go.Proofs.Ytdfifcgpjeojlaa
open Go.RowKit
section
variable {l : List Oper} {Q : Exit → Act → World → Prop} {rest : List Oper} {a0 : Act} {L : List (Nat × Bool × Value)} {w : World}
theorem callv_is {f : FuncId} (he : ∀ args w, (callFunc f args).run Try.prog w = .ok (.enter f args) w) (d : Option Tmp) (xs : Array Operand) (ts : Array TypeId) (ty : TypeId) (p : String) (af : Array Edge) (gd : Option (Nat × Bool)) (ρ : Operand → Value) (vs : Array Value) (h : xs.map ρ = vs) (hf : ρ (.func f) = .func (.func f) #[] #[]) : (execOp ρ ⟨d, .call { callee := .value (.func f), args := xs, argTypes := ts }, ty, p, af, gd⟩).run Try.prog w = .ok (.enter f vs) w := by
  subst h
  unfold execOp
  dsimp only
  go_simp
theorem g_cvx {f : FuncId} {xs : Array Operand} {d n : Nat} {vs : Array Value} {R : Value → World → Prop} {ts : Array TypeId} {ty : TypeId} {p : String} {af : Array Edge} {gd : Option (Nat × Bool)} (he : ∀ args w, (callFunc f args).run Try.prog w = .ok (.enter f args) w) (hn : a0.tmps.size = n) (hv : (∀ p, p ∈ L → p.1 < a0.tmps.size) → xs.map (fr a0 L).eval = vs) (hc : Calls Try.prog f vs w fun e w' => ∃ v, e = .returned v ∧ R v w') (h : ∀ v w2, R v w2 → FL Try.prog l Q rest a0 ((d, true, v) :: L) w2) (hd : Nat.blt d n = true := by rfl) (hw : wtG l L gd = some true := by rfl) : FL Try.prog l Q (⟨some d, .call { callee := .value (.func f), args := xs, argTypes := ts }, ty, p, af, gd⟩ :: rest) a0 L w :=
  fl_callx hn rfl hd hw (fun hk => callv_is he _ _ _ _ _ _ _ _ vs (hv hk) rfl) hc h
end
end Go.Proofs.Ytdfifcgpjeojlaa

namespace Go.Proofs.Ytdfifcgpjeojlaa
open Go.RowKit

theorem en_spinney_air_isNode : ∀ args w, (callFunc 21 args).run Try.prog w = .ok (.enter 21 args) w := enters_of Try.func21 (by kernel_rfl) rfl
theorem en_spinney_air_modulo : ∀ args w, (callFunc 24 args).run Try.prog w = .ok (.enter 24 args) w := enters_of Try.func24 (by kernel_rfl) rfl
theorem en_spinney_air_New : ∀ args w, (callFunc 5 args).run Try.prog w = .ok (.enter 5 args) w := enters_of Try.func5 (by kernel_rfl) rfl
theorem en_spinney_air_Air_Len : ∀ args w, (callFunc 10 args).run Try.prog w = .ok (.enter 10 args) w := enters_of Try.func10 (by kernel_rfl) rfl
theorem en_spinney_air_Air_place : ∀ args w, (callFunc 23 args).run Try.prog w = .ok (.enter 23 args) w := enters_of Try.func23 (by kernel_rfl) rfl
theorem en_spinney_air_flight_copied : ∀ args w, (callFunc 27 args).run Try.prog w = .ok (.enter 27 args) w := enters_of Try.func27 (by kernel_rfl) rfl
theorem en_bytes_Clone : ∀ args w, (callFunc 28 args).run Try.prog w = .ok (.enter 28 args) w := enters_of Try.func28 (by kernel_rfl) rfl

/-- A parcel on its way, its bytes told beside it. -/
structure Fl where
  f : Int
  t : Int
  A : Option Addr
  n : Nat
  c : Nat
  u : Bool
  b : List UInt8
abbrev Fl.cells (x : Fl) : Array Value := #[.int .i64 x.f, .int .i64 x.t, .slice x.A x.n x.c, .bool x.u]
abbrev tFl : TypeId := 62
abbrev tAir : TypeId := 57
/-- Two rows of bytes don't lie in one block. -/
def Apt (x y : Fl) : Prop := ∀ a a', x.A = some a → y.A = some a' → a.block ≠ a'.block
/-- The air at p, in memory. -/
structure AirM (base p : Nat) (W : World) (A : Option Addr) (n c : Nat) (l : List Fl) : Prop where
  blk : Blk W p #[.slice A n c] tAir
  row : OwnX tFl 4 base W A n c (l.map Fl.cells)
  byt : ∀ x, x ∈ l → OwnB base W x.A x.n x.c x.b
  dis : l.Pairwise Apt
/-- Is a block the air's own? -/
def AirO (p : Nat) (A : Option Addr) (l : List Fl) (k : Nat) : Prop := k = p ∨ (∃ a, A = some a ∧ a.block = k) ∨ ∃ y, y ∈ l ∧ ∃ a, y.A = some a ∧ a.block = k
/-- What is not the air's own stays; what becomes its own is new. -/
structure AirS (base p : Nat) (A : Option Addr) (l : List Fl) (W : World) (A' : Option Addr) (n' c' : Nat) (l' : List Fl) (W' : World) : Prop where
  m : AirM base p W' A' n' c' l'
  os : W'.os = W.os
  tape : W'.tape = W.tape
  output : W'.output = W.output
  size : W.heap.size ≤ W'.heap.size
  stay : ∀ k, k < W.heap.size → ¬ AirO p A l k → W'.heap[k]? = W.heap[k]?
  new : ∀ k, k < W.heap.size → AirO p A' l' k → AirO p A l k
theorem AirM.keep {base p : Nat} {W W' : World} {A : Option Addr} {n c : Nat} {l : List Fl} (h : AirM base p W A n c l) (hb : Below W.heap.size W W') : AirM base p W' A n c l := ⟨h.blk.keep hb, h.row.keep hb, fun x hx => (h.byt x hx).keep hb, h.dis⟩
theorem AirS.same {base p : Nat} {W W' : World} {A : Option Addr} {n c : Nat} {l : List Fl} (h : AirM base p W A n c l) (hb : Below W.heap.size W W') : AirS base p A l W A n c l W' := ⟨h.keep hb, hb.os, hb.tape, hb.output, hb.size, fun k hk _ => hb.block k hk, fun _ _ h => h⟩
theorem AirS.trans {base p : Nat} {W W1 W2 : World} {A A1 A2 : Option Addr} {n1 c1 n2 c2 : Nat} {l l1 l2 : List Fl} (h : AirS base p A l W A1 n1 c1 l1 W1) (k : AirS base p A1 l1 W1 A2 n2 c2 l2 W2) : AirS base p A l W A2 n2 c2 l2 W2 :=
  ⟨k.m, k.os.trans h.os, k.tape.trans h.tape, k.output.trans h.output, Nat.le_trans h.size k.size, fun x hx hn => (k.stay x (Nat.lt_of_lt_of_le hx h.size) (fun ho => hn (h.new x hx ho))).trans (h.stay x hx hn), fun x hx ho => h.new x hx (k.new x (Nat.lt_of_lt_of_le hx h.size) ho)⟩
theorem AirM.own_ge {base p : Nat} {W : World} {A : Option Addr} {n c : Nat} {l : List Fl} (h : AirM base p W A n c l) (hp : base ≤ p) {k : Nat} (hk : AirO p A l k) : base ≤ k := by
  rcases hk with rfl | ⟨a, ha, rfl⟩ | ⟨y, hy, a, ha, rfl⟩
  · exact hp
  · exact (h.row.blk ha).1
  · exact ((h.byt y hy).blk ha).1
theorem AirS.below {base p : Nat} {W W' : World} {A A' : Option Addr} {n c n' c' : Nat} {l l' : List Fl} (h : AirS base p A l W A' n' c' l' W') (hm : AirM base p W A n c l) (hp : base ≤ p) (hb : base ≤ W.heap.size) : Below base W W' :=
  ⟨h.os, h.tape, h.output, h.size, fun k hk => h.stay k (by omega) fun ho => by have := hm.own_ge hp ho; omega⟩
theorem ld_air {W : World} {p : Nat} {A : Option Addr} {n c : Nat} (h : Blk W p #[.slice A n c] tAir) : (Instr.loadAt 55 (.pointer (some ⟨p, 0, none⟩))).run Try.prog W = .ok (.slice A n c) W := by
  have c0 := h.cell 0
  clear h
  go_simp
theorem far0 (W : World) (p : Nat) : (Instr.fieldAt 57 (.pointer (some ⟨p, 0, none⟩)) 0).run Try.prog W = .ok (.pointer (some ⟨p, 0, none⟩)) W := by kernel_rfl
theorem slice_nn (ad : Addr) (n c : Nat) (w : World) : (binOp .eql 27 (.slice (some ad) n c) (.slice none 0 0)).run Try.prog w = .ok (.bool false) w := by
  first
    | kernel_rfl
    | simp [binOp, go_sem]
    | go_simp
theorem slice_nl (w : World) : (binOp .eql 27 (.slice none 0 0) (.slice none 0 0)).run Try.prog w = .ok (.bool true) w := by
  first
    | kernel_rfl
    | simp [binOp, go_sem]
    | go_simp
set_option maxRecDepth 100000 in
set_option maxHeartbeats 4000000 in
theorem bclone_any {B : Nat} (A : Option Addr) (n c : Nat) (l : List UInt8) (w : World) (hn : l.length = n) (hr : RdB B w A l) (hB : B ≤ w.heap.size) (hm : n ≤ 1000000) (hz : A = none → n = 0 ∧ c = 0) : Calls Try.prog 28 #[.slice A n c] w fun e w' => (∃ (A' : Option Addr) (c' : Nat), e = .returned (.slice A' n c') ∧ OwnB w.heap.size w' A' n c' l) ∧ Below w.heap.size w w' := by
  cases A with
  | none =>
    obtain ⟨rfl, rfl⟩ := hz rfl
    have e : l = [] := List.length_eq_zero_iff.1 hn
    subst e
    have hnn := slice_nl w
    go_enter Try.func28, Try.ntmps28
    go_wp2_with fail
    go_ret
    exact ⟨⟨none, 0, rfl, OwnB.nil _ _⟩, Below.refl _ _⟩
  | some ad =>
    obtain ⟨i0, hi0, hz0, hz1, hz2⟩ := info_parts byt_info
    have hlit0 : OwnB w.heap.size (w.alloc (.cells #[] 5)) (some ⟨w.heap.size, 0, none⟩) 0 0 [] := OwnB.lit w #[] [] rfl rfl (Nat.le_refl _) (Nat.zero_le _)
    have hrf := hr.keep (b0 w (.cells #[] 5)) hB
    have HN := Lib.hid hn
    have hnn := slice_nn ad n c w
    clear hn hz
    go_enter Try.func28, Try.ntmps28
    go_wp2_with (at_builtin; refine wpList_apB (base := w.heap.size) (n := 0) (m := n) (l := []) (l2 := l) (by rfl) _ _ (by rfl) Try.underlying27 Try.underlying27 hi0 hz0 hz1 hz2 (by rfl) (by rfl) hlit0 hrf HN.out n (by omega) (by omega) (by simp) ?_; intro A3 c3 w3 hO3 hb3 hg3; rw [List.nil_append] at hO3; have hB3 := (b0 w (.cells #[] 5)).trans hb3)
    go_ret
    exact ⟨⟨A3, c3, rfl, hO3⟩, hB3⟩
/-- Is a number a node's? -/
def nodeB (n : Int) : Bool := decide (0 ≤ n ∧ n < 12)
set_option maxRecDepth 100000 in
set_option maxHeartbeats 4000000 in
theorem isNode_any (n : Int) (w : World) : Calls Try.prog 21 #[.int .i64 n] w fun e w' => e = .returned (.bool (nodeB n)) ∧ w' = w := by
  by_cases h0 : (0 : Int) ≤ n
  · by_cases h1 : n < 12
    · have e : nodeB n = true := by unfold nodeB; simp [h0, h1]
      go_enter Try.func21, Try.ntmps21
      go_wp2_with fail
      go_ret
      first | exact ⟨rfl, rfl⟩ | (rw [e]; exact ⟨rfl, rfl⟩)
    · have e : nodeB n = false := by unfold nodeB; simp [h1]
      go_enter Try.func21, Try.ntmps21
      go_wp2_with fail
      go_ret
      first | exact ⟨rfl, rfl⟩ | (rw [e]; exact ⟨rfl, rfl⟩)
  · have e : nodeB n = false := by unfold nodeB; simp [h0]
    go_enter Try.func21, Try.ntmps21
    go_wp2_with fail
    go_ret
    first | exact ⟨rfl, rfl⟩ | (rw [e]; exact ⟨rfl, rfl⟩)
/-- A number's remainder, as one without a sign. -/
def modA (n : Int) (by_ : Nat) : Nat := (n % 18446744073709551616).toNat % by_
set_option maxRecDepth 100000 in
set_option maxHeartbeats 4000000 in
theorem modulo_any (n : Int) (k : Nat) (w : World) (h0 : 0 < k) (h1 : k ≤ 1000000) : Calls Try.prog 24 #[.int .i64 n, .int .i64 (k : Int)] w fun e w' => e = .returned (.int .i64 (modA n k : Nat)) ∧ w' = w := by
  have g0 : IntKind.u64.wrap n = n % 18446744073709551616 := by rw [IntKind.wrap_u64]
  have g1 : IntKind.u64.wrap (k : Int) = (k : Int) := by rw [IntKind.wrap_u64]; omega
  have g2 : ((k : Int) == 0) = false := by rw [beq_eq_false_iff_ne]; omega
  have g3 : ¬ (k : Int) = 0 := by omega
  have hpos : 0 ≤ n % 18446744073709551616 := Int.emod_nonneg _ (by decide)
  have g4 : IntKind.u64.wrap ((n % 18446744073709551616).tmod (k : Int)) = ((modA n k : Nat) : Int) := by
    unfold modA
    rw [Int.tmod_eq_emod_of_nonneg hpos, IntKind.wrap_u64]
    have : ((n % 18446744073709551616).toNat : Int) = n % 18446744073709551616 := Int.toNat_of_nonneg hpos
    have hlt : (n % 18446744073709551616) % (k : Int) < (k : Int) := Int.emod_lt_of_pos _ (by omega)
    have hge : 0 ≤ (n % 18446744073709551616) % (k : Int) := Int.emod_nonneg _ (by omega)
    rw [Int.emod_eq_of_lt hge (by omega), Int.natCast_emod, this]
  have g6 : n % 18446744073709551616 % (k : Int) = ((modA n k : Nat) : Int) := by
    unfold modA
    have : ((n % 18446744073709551616).toNat : Int) = n % 18446744073709551616 := Int.toNat_of_nonneg hpos
    rw [Int.natCast_emod, this]
  have g5 : IntKind.i64.wrap ((modA n k : Nat) : Int) = ((modA n k : Nat) : Int) := by
    have : modA n k < k := Nat.mod_lt _ h0
    rw [IntKind.wrap_i64]
    omega
  go_enter Try.func24, Try.ntmps24
  go_wp2_with fail
  go_ret
  refine ⟨?_, rfl⟩
  first
    | rfl
    | (rw [g6]; exact congrArg (fun z => Ending.returned (.int .i64 z)) g5)
    | (rw [g6, show wrap64 ((modA n k : Nat) : Int) = ((modA n k : Nat) : Int) from g5])
    | (rw [g6]; exact g5)
set_option maxRecDepth 100000 in
set_option maxHeartbeats 4000000 in
theorem airNew_any (w : World) : Calls Try.prog 5 #[] w fun e w' => ∃ p, e = .returned (.pointer (some ⟨p, 0, none⟩)) ∧ p = w.heap.size ∧ AirM w.heap.size p w' none 0 0 [] ∧ Below w.heap.size w w' := by
  go_enter Try.func5, Try.ntmps5
  go_wp2_with fail
  go_ret
  exact ⟨_, rfl, rfl, ⟨blk_new w _ _, OwnX.nil _ _ _ _, fun _ h => by simp at h, List.Pairwise.nil⟩, b0 w _⟩
set_option maxRecDepth 100000 in
set_option maxHeartbeats 4000000 in
theorem airLen_any (base p : Nat) (A : Option Addr) (n c : Nat) (l : List Fl) (w : World) (h : AirM base p w A n c l) : Calls Try.prog 10 #[.pointer (some ⟨p, 0, none⟩)] w fun e w' => e = .returned (.int .i64 (n : Nat)) ∧ w' = w := by
  have c0 := h.blk.cell 0
  clear h
  go_enter Try.func10, Try.ntmps10
  go_wp2_with fail
  go_ret
  exact ⟨rfl, rfl⟩
set_option maxRecDepth 100000 in
set_option maxHeartbeats 4000000 in
theorem place_none (base p : Nat) (A : Option Addr) (c : Nat) (l : List Fl) (i : Int) (w : World) (h : AirM base p w A 0 c l) : Calls Try.prog 23 #[.pointer (some ⟨p, 0, none⟩), .int .i64 i] w fun e w' => e = .returned (.tuple #[.int .i64 0, .int .i64 5]) ∧ w' = w := by
  have c0 := h.blk.cell 0
  clear h
  go_enter Try.func23, Try.ntmps23
  go_wp2_with fail
  go_ret2
  exact ⟨rfl, rfl⟩
set_option maxRecDepth 100000 in
set_option maxHeartbeats 4000000 in
theorem place_some (base p : Nat) (A : Option Addr) (n c : Nat) (l : List Fl) (i : Int) (w : World) (h : AirM base p w A n c l) (h0 : 0 < n) (h1 : n ≤ 1000000) : Calls Try.prog 23 #[.pointer (some ⟨p, 0, none⟩), .int .i64 i] w fun e w' => e = .returned (.tuple #[.int .i64 (modA i n : Nat), .int .i64 0]) ∧ w' = w := by
  have l0 := ld_air h.blk
  have f0 := far0 w p
  have c0 := h.blk.cell 0
  have e0 : ((n : Int) == 0) = false := by rw [beq_eq_false_iff_ne]; omega
  have cM := modulo_any i n w h0 h1
  clear h
  go_enter Try.func23, Try.ntmps23
  go_wp2_with fail
  refine cM.mono ?_
  rintro e w2 ⟨rfl, rfl⟩
  go_wp2_with fail
  go_ret2
  exact ⟨rfl, rfl⟩
end Go.Proofs.Ytdfifcgpjeojlaa

namespace Go.Proofs.Ytdfifcgpjeojlaa
open Go.RowKit

theorem bel_un29 {b : Nat} {w w' : World} (h : Below b w.drew w') : Below b w w' := ⟨h.os, h.tape, h.output, h.size, h.block⟩
section
variable {P : Program} {l : List Oper} {Q : Exit → Act → World → Prop} {S : World → Prop} {fuel : Nat} {listed : Array Bool} {a0 : Act} {L : List (Nat × Bool × Value)} {w : World}
theorem one_val29 {i : Nat} {oi : Oper} {d n : Nat} {R : Value → World → Prop} (hn : a0.tmps.size = n) (hX : ∀ K : Act → World → Prop, (∀ v w2, R v w2 → K ((fr a0 L).put (some d) v) w2) → (∀ p, p ∈ L → p.1 < a0.tmps.size) → oi.wp P (fr a0 L) w K Q)
    (h : ∀ v w2, R v w2 → S w2 ∧ FH P l Q S fuel (listed.setIfInBounds i true) a0 ((d, true, v) :: L) w2) (hi : l.toArray[i]? = some oi) (hd : Nat.blt d n = true) (hw : wtG l L oi.guard = some true) : FHone P l Q S fuel listed a0 L w i := by
  intro hk
  unfold wpOp
  simp only [hi, wt_is hk hw, if_true]
  refine .inl (hX _ (fun v w2 hR => ?_) hk)
  obtain ⟨hs, hF⟩ := h v w2 hR
  exact ⟨hs, hF.go (fun p hp => by
    rcases List.mem_cons.1 hp with e | e
    · rw [e, hn]; exact blt_lt hd
    · exact hk p e)⟩
theorem one_callx29 {i : Nat} {oi : Oper} {d n : Nat} {R : Value → World → Prop} {f : FuncId} {args : Array Value} (hn : a0.tmps.size = n) (ho : oi.dst = some d) (hx : (∀ p, p ∈ L → p.1 < a0.tmps.size) → (execOp (fr a0 L).eval oi).run P w = .ok (.enter f args) w) (hc : Calls P f args w fun e w' => ∃ v, e = .returned v ∧ R v w')
    (h : ∀ v w2, R v w2 → S w2 ∧ FH P l Q S fuel (listed.setIfInBounds i true) a0 ((d, true, v) :: L) w2) (hi : l.toArray[i]? = some oi) (hd : Nat.blt d n = true) (hw : wtG l L oi.guard = some true) : FHone P l Q S fuel listed a0 L w i :=
  one_val29 hn (fun K hK hk => by
    unfold Oper.wp
    rw [hx hk, Oper.upon_enter]
    refine hc.mono ?_
    rintro e w' ⟨v, rfl, hR⟩
    show K ((fr a0 L).put oi.dst v) w'
    rw [ho]
    exact hK v w' hR) h hi hd hw
end
end Go.Proofs.Ytdfifcgpjeojlaa
