/-
  WHAT IS PROVED: plain words for digests. No condition. · plain words for skies: the next number, one below another one, an index by weights. No condition. · skies: New, Next, Below; the document's half, Next, Below. Conditions: those typed in each theorem. · skies: Below; the document's half, Next, Below. Conditions: those typed in each theorem.
-/
import Derived.Test.YtokkmofcijfmiabGQ14
import Derived.Test.YtokkmofcijfmiabGQ13
import Derived.Lib.Hide
import Derived.Deep.Cut
import Derived.Shelf.Abstract
import Derived.Outline
import Derived.BigRegion
import Derived.BigQuiet
import Derived.Deep.QuietTactic
import Derived.RowKitTokens
import Derived.WalkKit
import Derived.Laws.BitsLemmas
import Derived.Lib.EndianBits
namespace Go.Proofs.Ytokkmofcijfmiab

theorem xor64L {a b : Nat} (h : a < 18446744073709551616) (k : b < 18446744073709551616) : a ^^^ b < 18446744073709551616 := Nat.xor_lt_two_pow (n := 64) h k
def digS (h : Nat) (x : UInt8) : Nat := (h ^^^ x.toNat) * 1099511628211 % 18446744073709551616
def digTo (h : Nat) (l : List UInt8) : Nat := l.foldl digS h
/-- The digest of bytes. -/
def digL (l : List UInt8) : Nat := digTo 14695981039346656037 l
theorem digS_lt (h : Nat) (x : UInt8) : digS h x < 18446744073709551616 := Nat.mod_lt _ (by decide)
theorem digTo_snoc (h : Nat) (l : List UInt8) (x : UInt8) : digTo h (l ++ [x]) = digS (digTo h l) x := by unfold digTo; rw [List.foldl_append, List.foldl_cons, List.foldl_nil]
theorem digTo_lt {h : Nat} (hh : h < 18446744073709551616) : ∀ l : List UInt8, digTo h l < 18446744073709551616 := by
  intro l
  induction l generalizing h with
  | nil => exact hh
  | cons x r ih => exact ih (digS_lt h x)
theorem digL_lt (l : List UInt8) : digL l < 18446744073709551616 := digTo_lt (by decide) l
theorem digTo_next {h : Nat} {l : List UInt8} {k : Nat} {x : UInt8} (hx : l[k]? = some x) : digTo h (l.take (k + 1)) = digS (digTo h (l.take k)) x := by
  rw [List.take_add_one, hx]
  exact digTo_snoc _ _ _
/-- The lowest eight bits, turned by a byte: the number, turned by it. -/
theorem low_xor (n c : Nat) (hc : c < 256) : n - n % 256 + ((n % 256) ^^^ c) = n ^^^ c := by
  have h1 : ((n % 256) ^^^ c) < 2 ^ 8 := Nat.xor_lt_two_pow (n := 8) (Nat.mod_lt _ (by decide)) hc
  have h2 : n - n % 256 + ((n % 256) ^^^ c) = 2 ^ 8 * (n / 256) + ((n % 256) ^^^ c) := by
    have := Nat.div_add_mod n 256
    omega
  rw [h2]
  apply Nat.eq_of_testBit_eq
  intro j
  rw [Nat.testBit_two_pow_mul_add _ h1, Nat.testBit_xor, Nat.testBit_xor, show (256 : Nat) = 2 ^ 8 by rfl]
  by_cases hj : j < 8
  · rw [if_pos hj, Nat.testBit_mod_two_pow, decide_eq_true hj, Bool.true_and]
  · rw [if_neg hj, Nat.testBit_div_two_pow]
    have e : c.testBit j = false := Nat.testBit_lt_two_pow (Nat.lt_of_lt_of_le hc (show 2 ^ 8 ≤ 2 ^ j from Nat.pow_le_pow_right (by decide) (by omega)))
    rw [e, Bool.xor_false, show j - 8 + 8 = j by omega]
theorem xor_mod256 (n c : Nat) (hc : c < 256) : (n ^^^ c) < 18446744073709551616 ↔ n < 18446744073709551616 := by
  constructor
  · intro h
    have h2 : n = (n ^^^ c) ^^^ c := by rw [Nat.xor_assoc, Nat.xor_self, Nat.xor_zero]
    rw [h2]
    exact xor64L h (by omega)
  · intro h
    exact xor64L h (by omega)
end Go.Proofs.Ytokkmofcijfmiab

namespace Go.Proofs.Ytokkmofcijfmiab

def w64 : Nat := 18446744073709551616
def nxS (s : Nat) : Nat := (s + 11400714819323198485) % 18446744073709551616
def mixW (p m z : Nat) : Nat := (z ^^^ (z / p)) * m % 18446744073709551616
def lastW (z : Nat) : Nat := z ^^^ (z / 2147483648)
/-- The next number, of a state. -/
def nxV (s : Nat) : Nat := lastW (mixW 134217728 10723151780598845931 (mixW 1073741824 13787848793156543929 (nxS s)))
theorem nxS_lt (s : Nat) : nxS s < 18446744073709551616 := Nat.mod_lt _ (by decide)
theorem mixW_lt (p m z : Nat) : mixW p m z < 18446744073709551616 := Nat.mod_lt _ (by decide)
theorem xor64_lt {a b : Nat} (h : a < 18446744073709551616) (k : b < 18446744073709551616) : a ^^^ b < 18446744073709551616 := Nat.xor_lt_two_pow (n := 64) h k
theorem lastW_lt {z : Nat} (h : z < 18446744073709551616) : lastW z < 18446744073709551616 := xor64_lt h (Nat.lt_of_le_of_lt (Nat.div_le_self _ _) h)
theorem nxV_lt (s : Nat) : nxV s < 18446744073709551616 := lastW_lt (mixW_lt _ _ _)
/-- The state behind one below n; it. -/
def blS (s : Nat) (n : Int) : Nat := if n < 1 then s else nxS s
def blV (s : Nat) (n : Int) : Int := if n < 1 then 0 else ((nxV s % n.toNat : Nat) : Int)
theorem blS_lt {s : Nat} (h : s < 18446744073709551616) (n : Int) : blS s n < 18446744073709551616 := by
  unfold blS
  split
  · exact h
  · exact nxS_lt s
theorem blV_0 (s : Nat) {n : Int} (h : n < 1) : blV s n = 0 := by unfold blV; rw [if_pos h]
theorem blV_in (s : Nat) {n : Int} (h : 1 ≤ n) : 0 ≤ blV s n ∧ blV s n < n := by
  unfold blV
  rw [if_neg (by omega)]
  have := Nat.mod_lt (nxV s) (show 0 < n.toNat by omega)
  omega
def sumW (l : List Int) : Int := l.foldl (· + ·) 0
/-- The first index behind whose weight k is below the sum. -/
def findW (k : Int) (i : Nat) : List Int → Int
  | [] => -1
  | w :: r => if k - w < 0 then (i : Int) else findW (k - w) (i + 1) r
def WOk (l : List Int) : Prop := ∀ x, x ∈ l → 0 ≤ x ∧ x ≤ 1000
theorem sumW_foldl (l : List Int) : ∀ a : Int, l.foldl (· + ·) a = a + sumW l := by
  induction l with
  | nil => intro a; simp [sumW]
  | cons x r ih => intro a; unfold sumW; simp only [List.foldl_cons]; rw [ih, ih (0 + x)]; omega
theorem sumW_cons (x : Int) (l : List Int) : sumW (x :: l) = x + sumW l := by
  show (x :: l).foldl (· + ·) 0 = _
  rw [List.foldl_cons, sumW_foldl]; omega
theorem sumW_snoc (x : Int) (l : List Int) : sumW (l ++ [x]) = sumW l + x := by
  show (l ++ [x]).foldl (· + ·) 0 = _
  rw [List.foldl_append]; rfl
theorem sumW_le {l : List Int} (h : WOk l) : 0 ≤ sumW l ∧ sumW l ≤ 1000 * l.length := by
  induction l with
  | nil => exact ⟨Int.le_refl _, by simp [sumW]⟩
  | cons x r ih =>
    have h1 := ih fun y hy => h y (List.mem_cons_of_mem _ hy)
    have h2 := h x (List.mem_cons_self ..)
    rw [sumW_cons, List.length_cons]
    omega
theorem WOk.take {l : List Int} (h : WOk l) (k : Nat) : WOk (l.take k) := fun x hx => h x (List.mem_of_mem_take hx)
theorem findW_in {l : List Int} (h : WOk l) : ∀ (k : Int) (i : Nat), 0 ≤ k → k < sumW l → ∃ (j : Nat) (x : Int), findW k i l = ((i + j : Nat) : Int) ∧ l[j]? = some x ∧ 0 < x := by
  induction l with
  | nil => intro k i h0 h1; simp [sumW] at h1; omega
  | cons x r ih =>
    intro k i h0 h1
    rw [sumW_cons] at h1
    unfold findW
    by_cases hk : k - x < 0
    · rw [if_pos hk]
      exact ⟨0, x, rfl, rfl, by omega⟩
    · rw [if_neg hk]
      obtain ⟨j, y, h2, h3, h4⟩ := ih (fun y hy => h y (List.mem_cons_of_mem _ hy)) (k - x) (i + 1) (by omega) (by omega)
      exact ⟨j + 1, y, by rw [h2]; omega, h3, h4⟩
/-- By's: the state behind it, the index. -/
def byS (s : Nat) (l : List Int) : Nat := if sumW l < 1 then s else blS s (sumW l)
def byV (s : Nat) (l : List Int) : Int := if sumW l < 1 then -1 else findW (blV s (sumW l)) 0 l
theorem byS_lt {s : Nat} (h : s < 18446744073709551616) (l : List Int) : byS s l < 18446744073709551616 := by
  unfold byS
  split
  · exact h
  · exact blS_lt h _
theorem byV_no (s : Nat) {l : List Int} (h : sumW l < 1) : byV s l = -1 := by unfold byV; rw [if_pos h]
theorem byV_in (s : Nat) {l : List Int} (h : WOk l) (hs : 1 ≤ sumW l) : ∃ (j : Nat) (x : Int), byV s l = ((j : Nat) : Int) ∧ l[j]? = some x ∧ 0 < x := by
  unfold byV
  rw [if_neg (by omega)]
  have h1 := blV_in s hs
  obtain ⟨j, x, h2, h3⟩ := findW_in h (blV s (sumW l)) 0 h1.1 h1.2
  exact ⟨j, x, by rw [h2]; omega, h3⟩
/-- The document's search tells the same: the first behind which the sum is above k. -/
theorem findW_drop (l : List Int) (k : Int) : ∀ (r : List Int) (i : Nat) (a : Int), findW (k - a) i r = findW (k - a) i r := fun _ _ _ => rfl
end Go.Proofs.Ytokkmofcijfmiab

namespace Go.Proofs.Ytokkmofcijfmiab
open Go.RowKit

/-- All that lay there stays, but one block. -/
structure Exc (g : Nat) (W W' : World) : Prop where
  os : W'.os = W.os
  tape : W'.tape = W.tape
  output : W'.output = W.output
  size : W.heap.size ≤ W'.heap.size
  block : ∀ k, k < W.heap.size → k ≠ g → W'.heap[k]? = W.heap[k]?
theorem Exc.refl (g : Nat) (W : World) : Exc g W W := ⟨rfl, rfl, rfl, Nat.le_refl _, fun _ _ _ => rfl⟩
theorem Exc.trans {g : Nat} {a b c : World} (h : Exc g a b) (k : Exc g b c) : Exc g a c :=
  ⟨k.os.trans h.os, k.tape.trans h.tape, k.output.trans h.output, Nat.le_trans h.size k.size, fun i hi hg => (k.block i (Nat.lt_of_lt_of_le hi h.size) hg).trans (h.block i hi hg)⟩
theorem Below.exc {a b : World} (h : Below a.heap.size a b) (g : Nat) : Exc g a b := ⟨h.os, h.tape, h.output, h.size, fun k hk _ => h.block k hk⟩
theorem Only1.exc {g : Nat} {a b : World} (h : Only1 g a b) : Exc g a b := ⟨h.os, h.tape, h.output, Nat.le_of_eq h.size.symm, fun k _ hk => h.block k hk⟩
theorem Exc.below {g B : Nat} {a b : World} (h : Exc g a b) (hB : B ≤ g) (hs : B ≤ a.heap.size) : Below B a b := ⟨h.os, h.tape, h.output, h.size, fun k hk => h.block k (by omega) (by omega)⟩
theorem Exc.blk {g p : Nat} {a b : World} (h : Exc g a b) {cs : Array Value} {t : TypeId} (hX : Blk a p cs t) (hg : p ≠ g) : Blk b p cs t := (h.block p hX.lt hg).trans hX
theorem Exc.up {g : Nat} {a b c : World} (h : Below a.heap.size a b) (k : Exc g b c) (hg : a.heap.size ≤ g) : Below a.heap.size a c :=
  ⟨k.os.trans h.os, k.tape.trans h.tape, k.output.trans h.output, Nat.le_trans h.size k.size, fun i hi => (k.block i (Nat.lt_of_lt_of_le hi h.size) (by omega)).trans (h.block i hi)⟩
theorem xor_u64 (a b : Nat) (ha : a < 18446744073709551616) (hb : b < 18446744073709551616) : bits .xor .u64 (a : Int) (b : Int) = ((a ^^^ b : Nat) : Int) := by
  have hx : a ^^^ b < 2 ^ 64 := Nat.xor_lt_two_pow (by omega) (by omega)
  have h1 : (BitVec.ofInt 64 (a : Int)).toNat = a := by
    rw [BitVec.ofInt_natCast, BitVec.toNat_ofNat]
    exact Nat.mod_eq_of_lt (by omega)
  have h2 : (BitVec.ofInt 64 (b : Int)).toNat = b := by
    rw [BitVec.ofInt_natCast, BitVec.toNat_ofNat]
    exact Nat.mod_eq_of_lt (by omega)
  show IntKind.u64.wrap ((BitVec.ofInt 64 (a : Int) ^^^ BitVec.ofInt 64 (b : Int)).toNat : Int) = _
  rw [BitVec.toNat_xor, h1, h2, IntKind.wrap_u64]
  omega
theorem wrapN (a : Nat) : IntKind.u64.wrap (a : Int) = ((a % 18446744073709551616 : Nat) : Int) := by
  rw [IntKind.wrap_u64]
  omega
end Go.Proofs.Ytokkmofcijfmiab

namespace Go.Proofs.Ytokkmofcijfmiab
open Go.RowKit

theorem wrapD {x : Int} {k n : Nat} (h : x = (k : Int)) (hn : n < 18446744073709551616) (hk : k ≤ n) : IntKind.u64.wrap x = (k : Int) := by
  rw [h, wrapN, Nat.mod_eq_of_lt (by omega)]
theorem wrapI {y : Nat} (h : y ≤ 9223372036854775807) : IntKind.i64.wrap (y : Int) = (y : Int) := by
  unfold IntKind.wrap
  simp [IntKind.bits, IntKind.signed]
  omega
set_option maxRecDepth 100000 in
theorem cv_ui (W : World) {y : Nat} (h : y ≤ 9223372036854775807) : (convert 36 3 (.int .u64 (y : Int))).run Try.prog W = .ok (.int .i64 (y : Int)) W := by
  have h2 : (convert 36 3 (.int .u64 (y : Int))).run Try.prog W = .ok (.int .i64 (IntKind.i64.wrap (y : Int))) W := run_convert_int (P := Try.prog) (w := W) 36 3 .u64 (y : Int) (by kernel_rfl) (by kernel_rfl)
  rw [wrapI h] at h2
  exact h2
theorem rem_uu (i j : Nat) (W : World) (z m : Nat) (hm : 0 < m) (hz : z < 18446744073709551616) : ((do eqGuard .rem 36 (.tmp i) (.tmp j) (.int .u64 (z : Int)) (.int .u64 (m : Int)); binOp .rem 36 (.int .u64 (z : Int)) (.int .u64 (m : Int))) : Sem Value).run Try.prog W = .ok (.int .u64 ((z % m : Nat) : Int)) W := by
  have m0 : ¬ m = 0 := by omega
  have m1 : Int.tmod (z : Int) (m : Int) = ((z % m : Nat) : Int) := rfl
  rw [← m1]
  clear m1 hz hm
  unfold binOp
  simp only [eqGuard, go_sem]
  simp [m0]
theorem conv_iu (n : Int) (h : 1 ≤ n) (h2 : n ≤ 9223372036854775807) : IntKind.u64.wrap n = n := by
  unfold IntKind.wrap
  simp [IntKind.bits, IntKind.signed]
  omega
end Go.Proofs.Ytokkmofcijfmiab
