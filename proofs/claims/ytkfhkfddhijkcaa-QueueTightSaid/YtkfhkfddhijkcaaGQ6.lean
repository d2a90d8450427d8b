/-
  WHAT IS PROVED: plain facts on the sum CRC-32C: it is told by exclusive or on numbers below 2^32; bytes of one length that differ in one byte have different sums. No program. No condition. · plain words for skies: the next number, one below another one, an index by weights. No condition. · skies: New, Next, Below; the document's half, Next, Below. Conditions: those typed in each theorem.
-/
import GoSem.Claim
import Derived.Test.YtkfhkfddhijkcaaGQ5
import Derived.Lib.Hide
import Derived.Deep.Cut
import Derived.Shelf.Abstract
import Derived.Outline
import Derived.BigRegion
import Derived.BigQuiet
import Derived.Deep.QuietTactic
import Derived.RowKitTokens
import Derived.WalkKit
import Derived.Laws.BitsLemmas
import Derived.Lib.EndianBits
namespace Go.Proofs.Ytkfhkfddhijkcaa

theorem xor_lt {a b : Nat} (h : a < 4294967296) (k : b < 4294967296) : a ^^^ b < 4294967296 := Nat.xor_lt_two_pow (n := 32) h k
/-- One bit. -/
def crcStep (c : Nat) : Nat := if c % 2 = 1 then (c / 2) ^^^ 2197175160 else c / 2
theorem crcStep_lt {c : Nat} (h : c < 4294967296) : crcStep c < 4294967296 := by
  unfold crcStep
  split
  · exact xor_lt (by omega) (by omega)
  · omega
theorem top_set {d : Nat} (h : d < 2147483648) : 2147483648 ≤ d ^^^ 2197175160 := by
  have h1 : (d ^^^ 2197175160).testBit 31 = true := by
    rw [Nat.testBit_xor, Nat.testBit_lt_two_pow (show d < 2 ^ 31 from h)]
    decide
  refine Nat.le_of_not_lt fun h2 => ?_
  have h3 := Nat.testBit_lt_two_pow (i := 31) (show d ^^^ 2197175160 < 2 ^ 31 from h2)
  rw [h1] at h3
  cases h3
theorem xor_cancel_right {a b c : Nat} (h : a ^^^ c = b ^^^ c) : a = b := by
  have := congrArg (· ^^^ c) h
  simpa [Nat.xor_assoc] using this
theorem xor_cancel_left {a b c : Nat} (h : c ^^^ a = c ^^^ b) : a = b := by
  rw [Nat.xor_comm c a, Nat.xor_comm c b] at h
  exact xor_cancel_right h
theorem crcStep_inj {c d : Nat} (hc : c < 4294967296) (hd : d < 4294967296) (h : crcStep c = crcStep d) : c = d := by
  unfold crcStep at h
  by_cases h1 : c % 2 = 1
  · rw [if_pos h1] at h
    by_cases h2 : d % 2 = 1
    · rw [if_pos h2] at h
      have := xor_cancel_right h
      omega
    · rw [if_neg h2] at h
      have := top_set (d := c / 2) (by omega)
      omega
  · rw [if_neg h1] at h
    by_cases h2 : d % 2 = 1
    · rw [if_pos h2] at h
      have := top_set (d := d / 2) (by omega)
      omega
    · rw [if_neg h2] at h
      omega
/-- So many bits. -/
def crcSteps : Nat → Nat → Nat
  | 0, c => c
  | k + 1, c => crcSteps k (crcStep c)
theorem crcSteps_succ : ∀ (k c : Nat), crcSteps (k + 1) c = crcStep (crcSteps k c)
  | 0, _ => rfl
  | k + 1, c => by
    show crcSteps (k + 1) (crcStep c) = _
    rw [crcSteps_succ k (crcStep c)]
    rfl
theorem crcSteps_lt : ∀ (k : Nat) {c : Nat}, c < 4294967296 → crcSteps k c < 4294967296
  | 0, _, h => h
  | k + 1, _, h => crcSteps_lt k (crcStep_lt h)
theorem crcSteps_inj : ∀ (k : Nat) {c d : Nat}, c < 4294967296 → d < 4294967296 → crcSteps k c = crcSteps k d → c = d
  | 0, _, _, _, _, h => h
  | k + 1, _, _, hc, hd, h => crcStep_inj hc hd (crcSteps_inj k (crcStep_lt hc) (crcStep_lt hd) h)
/-- One byte. -/
def crcByte (c : Nat) (b : UInt8) : Nat := crcSteps 8 (c ^^^ b.toNat)
theorem byte_lt (b : UInt8) : b.toNat < 4294967296 := Nat.lt_trans b.toNat_lt (by decide)
theorem crcByte_lt {c : Nat} (h : c < 4294967296) (b : UInt8) : crcByte c b < 4294967296 := crcSteps_lt 8 (xor_lt h (byte_lt b))
theorem crcByte_inj {c d : Nat} {b : UInt8} (hc : c < 4294967296) (hd : d < 4294967296) (h : crcByte c b = crcByte d b) : c = d :=
  xor_cancel_right (crcSteps_inj 8 (xor_lt hc (byte_lt b)) (xor_lt hd (byte_lt b)) h)
theorem crcByte_inj2 {c : Nat} {b b' : UInt8} (hc : c < 4294967296) (h : crcByte c b = crcByte c b') : b = b' :=
  UInt8.toNat_inj.1 (xor_cancel_left (crcSteps_inj 8 (xor_lt hc (byte_lt b)) (xor_lt hc (byte_lt b')) h))
/-- Where the bytes lead. -/
def crcTo (c : Nat) (l : List UInt8) : Nat := l.foldl crcByte c
theorem crcTo_snoc (c : Nat) (l : List UInt8) (b : UInt8) : crcTo c (l ++ [b]) = crcByte (crcTo c l) b := by simp [crcTo]
theorem crcTo_lt : ∀ (l : List UInt8) {c : Nat}, c < 4294967296 → crcTo c l < 4294967296
  | [], _, h => h
  | b :: t, _, h => crcTo_lt t (crcByte_lt h b)
theorem crcTo_inj : ∀ (l : List UInt8) {c d : Nat}, c < 4294967296 → d < 4294967296 → crcTo c l = crcTo d l → c = d
  | [], _, _, _, _, h => h
  | b :: t, _, _, hc, hd, h => crcByte_inj hc hd (crcTo_inj t (crcByte_lt hc b) (crcByte_lt hd b) h)
/-- The sum. -/
def crcL (l : List UInt8) : Nat := 4294967295 - crcTo 4294967295 l
theorem crcL_lt (l : List UInt8) : crcL l < 4294967296 := by unfold crcL; omega
/-- Two rows that differ in one byte have different sums. -/
theorem crcL_one {l r : List UInt8} {b b' : UInt8} (h : crcL (l ++ b :: r) = crcL (l ++ b' :: r)) : b = b' := by
  unfold crcL at h
  have h1 := crcTo_lt (l ++ b :: r) (c := 4294967295) (by decide)
  have h2 := crcTo_lt (l ++ b' :: r) (c := 4294967295) (by decide)
  have h3 : crcTo 4294967295 (l ++ b :: r) = crcTo 4294967295 (l ++ b' :: r) := by omega
  have e : ∀ x : UInt8, crcTo 4294967295 (l ++ x :: r) = crcTo (crcByte (crcTo 4294967295 l) x) r := fun x => by simp [crcTo]
  have hl := crcTo_lt l (c := 4294967295) (by decide)
  rw [e, e] at h3
  exact crcByte_inj2 hl (crcTo_inj r (crcByte_lt hl b) (crcByte_lt hl b') h3)
/-- Exclusive or, bit by bit from below. -/
theorem xor_bits (a b i : Nat) : (a ^^^ b) % 2 ^ (i + 1) = (a ^^^ b) % 2 ^ i + (if (a / 2 ^ i % 2 == 1) != (b / 2 ^ i % 2 == 1) then 2 ^ i else 0) := by
  have h1 : (a ^^^ b) % 2 ^ (i + 1) = (a ^^^ b) % 2 ^ i + 2 ^ i * ((a ^^^ b) / 2 ^ i % 2) := by
    rw [Nat.pow_succ, Nat.mod_mul]
  rw [h1]
  congr 1
  have ht : ((a ^^^ b).testBit i) = ((a.testBit i) != (b.testBit i)) := Nat.testBit_xor a b i
  rw [Nat.testBit_eq_decide_div_mod_eq, Nat.testBit_eq_decide_div_mod_eq, Nat.testBit_eq_decide_div_mod_eq] at ht
  have e : ∀ n : Nat, decide (n % 2 = 1) = (n % 2 == 1) := fun n => by rw [Bool.eq_iff_iff]; simp
  rw [e, e, e] at ht
  rw [← ht]
  have h2 : (a ^^^ b) / 2 ^ i % 2 = 0 ∨ (a ^^^ b) / 2 ^ i % 2 = 1 := by omega
  rcases h2 with h | h <;> simp [h]
end Go.Proofs.Ytkfhkfddhijkcaa

namespace Go.Proofs.Ytkfhkfddhijkcaa

def w64 : Nat := 18446744073709551616
def nxS (s : Nat) : Nat := (s + 11400714819323198485) % 18446744073709551616
def mixW (p m z : Nat) : Nat := (z ^^^ (z / p)) * m % 18446744073709551616
def lastW (z : Nat) : Nat := z ^^^ (z / 2147483648)
/-- The next number, of a state. -/
def nxV (s : Nat) : Nat := lastW (mixW 134217728 10723151780598845931 (mixW 1073741824 13787848793156543929 (nxS s)))
theorem nxS_lt (s : Nat) : nxS s < 18446744073709551616 := Nat.mod_lt _ (by decide)
theorem mixW_lt (p m z : Nat) : mixW p m z < 18446744073709551616 := Nat.mod_lt _ (by decide)
theorem xor64_lt {a b : Nat} (h : a < 18446744073709551616) (k : b < 18446744073709551616) : a ^^^ b < 18446744073709551616 := Nat.xor_lt_two_pow (n := 64) h k
theorem lastW_lt {z : Nat} (h : z < 18446744073709551616) : lastW z < 18446744073709551616 := xor64_lt h (Nat.lt_of_le_of_lt (Nat.div_le_self _ _) h)
theorem nxV_lt (s : Nat) : nxV s < 18446744073709551616 := lastW_lt (mixW_lt _ _ _)
/-- The state behind one below n; it. -/
def blS (s : Nat) (n : Int) : Nat := if n < 1 then s else nxS s
def blV (s : Nat) (n : Int) : Int := if n < 1 then 0 else ((nxV s % n.toNat : Nat) : Int)
theorem blS_lt {s : Nat} (h : s < 18446744073709551616) (n : Int) : blS s n < 18446744073709551616 := by
  unfold blS
  split
  · exact h
  · exact nxS_lt s
theorem blV_0 (s : Nat) {n : Int} (h : n < 1) : blV s n = 0 := by unfold blV; rw [if_pos h]
theorem blV_in (s : Nat) {n : Int} (h : 1 ≤ n) : 0 ≤ blV s n ∧ blV s n < n := by
  unfold blV
  rw [if_neg (by omega)]
  have := Nat.mod_lt (nxV s) (show 0 < n.toNat by omega)
  omega
def sumW (l : List Int) : Int := l.foldl (· + ·) 0
/-- The first index behind whose weight k is below the sum. -/
def findW (k : Int) (i : Nat) : List Int → Int
  | [] => -1
  | w :: r => if k - w < 0 then (i : Int) else findW (k - w) (i + 1) r
def WOk (l : List Int) : Prop := ∀ x, x ∈ l → 0 ≤ x ∧ x ≤ 1000
theorem sumW_foldl (l : List Int) : ∀ a : Int, l.foldl (· + ·) a = a + sumW l := by
  induction l with
  | nil => intro a; simp [sumW]
  | cons x r ih => intro a; unfold sumW; simp only [List.foldl_cons]; rw [ih, ih (0 + x)]; omega
theorem sumW_cons (x : Int) (l : List Int) : sumW (x :: l) = x + sumW l := by
  show (x :: l).foldl (· + ·) 0 = _
  rw [List.foldl_cons, sumW_foldl]; omega
theorem sumW_snoc (x : Int) (l : List Int) : sumW (l ++ [x]) = sumW l + x := by
  show (l ++ [x]).foldl (· + ·) 0 = _
  rw [List.foldl_append]; rfl
theorem sumW_le {l : List Int} (h : WOk l) : 0 ≤ sumW l ∧ sumW l ≤ 1000 * l.length := by
  induction l with
  | nil => exact ⟨Int.le_refl _, by simp [sumW]⟩
  | cons x r ih =>
    have h1 := ih fun y hy => h y (List.mem_cons_of_mem _ hy)
    have h2 := h x (List.mem_cons_self ..)
    rw [sumW_cons, List.length_cons]
    omega
theorem WOk.take {l : List Int} (h : WOk l) (k : Nat) : WOk (l.take k) := fun x hx => h x (List.mem_of_mem_take hx)
theorem findW_in {l : List Int} (h : WOk l) : ∀ (k : Int) (i : Nat), 0 ≤ k → k < sumW l → ∃ (j : Nat) (x : Int), findW k i l = ((i + j : Nat) : Int) ∧ l[j]? = some x ∧ 0 < x := by
  induction l with
  | nil => intro k i h0 h1; simp [sumW] at h1; omega
  | cons x r ih =>
    intro k i h0 h1
    rw [sumW_cons] at h1
    unfold findW
    by_cases hk : k - x < 0
    · rw [if_pos hk]
      exact ⟨0, x, rfl, rfl, by omega⟩
    · rw [if_neg hk]
      obtain ⟨j, y, h2, h3, h4⟩ := ih (fun y hy => h y (List.mem_cons_of_mem _ hy)) (k - x) (i + 1) (by omega) (by omega)
      exact ⟨j + 1, y, by rw [h2]; omega, h3, h4⟩
/-- By's: the state behind it, the index. -/
def byS (s : Nat) (l : List Int) : Nat := if sumW l < 1 then s else blS s (sumW l)
def byV (s : Nat) (l : List Int) : Int := if sumW l < 1 then -1 else findW (blV s (sumW l)) 0 l
theorem byS_lt {s : Nat} (h : s < 18446744073709551616) (l : List Int) : byS s l < 18446744073709551616 := by
  unfold byS
  split
  · exact h
  · exact blS_lt h _
theorem byV_no (s : Nat) {l : List Int} (h : sumW l < 1) : byV s l = -1 := by unfold byV; rw [if_pos h]
theorem byV_in (s : Nat) {l : List Int} (h : WOk l) (hs : 1 ≤ sumW l) : ∃ (j : Nat) (x : Int), byV s l = ((j : Nat) : Int) ∧ l[j]? = some x ∧ 0 < x := by
  unfold byV
  rw [if_neg (by omega)]
  have h1 := blV_in s hs
  obtain ⟨j, x, h2, h3⟩ := findW_in h (blV s (sumW l)) 0 h1.1 h1.2
  exact ⟨j, x, by rw [h2]; omega, h3⟩
/-- The document's search tells the same: the first behind which the sum is above k. -/
theorem findW_drop (l : List Int) (k : Int) : ∀ (r : List Int) (i : Nat) (a : Int), findW (k - a) i r = findW (k - a) i r := fun _ _ _ => rfl
end Go.Proofs.Ytkfhkfddhijkcaa

namespace Go.Proofs.Ytkfhkfddhijkcaa
open Go.RowKit

/-- All that lay there stays, but one block. -/
structure Exc (g : Nat) (W W' : World) : Prop where
  os : W'.os = W.os
  tape : W'.tape = W.tape
  output : W'.output = W.output
  size : W.heap.size ≤ W'.heap.size
  block : ∀ k, k < W.heap.size → k ≠ g → W'.heap[k]? = W.heap[k]?
theorem Exc.refl (g : Nat) (W : World) : Exc g W W := ⟨rfl, rfl, rfl, Nat.le_refl _, fun _ _ _ => rfl⟩
theorem Exc.trans {g : Nat} {a b c : World} (h : Exc g a b) (k : Exc g b c) : Exc g a c :=
  ⟨k.os.trans h.os, k.tape.trans h.tape, k.output.trans h.output, Nat.le_trans h.size k.size, fun i hi hg => (k.block i (Nat.lt_of_lt_of_le hi h.size) hg).trans (h.block i hi hg)⟩
theorem exc_of {a b : World} (h : Below a.heap.size a b) (g : Nat) : Exc g a b := ⟨h.os, h.tape, h.output, h.size, fun k hk _ => h.block k hk⟩
theorem Only1.exc {g : Nat} {a b : World} (h : Only1 g a b) : Exc g a b := ⟨h.os, h.tape, h.output, Nat.le_of_eq h.size.symm, fun k _ hk => h.block k hk⟩
theorem Exc.below {g B : Nat} {a b : World} (h : Exc g a b) (hB : B ≤ g) (hs : B ≤ a.heap.size) : Below B a b := ⟨h.os, h.tape, h.output, h.size, fun k hk => h.block k (by omega) (by omega)⟩
theorem Exc.blk {g p : Nat} {a b : World} (h : Exc g a b) {cs : Array Value} {t : TypeId} (hX : Blk a p cs t) (hg : p ≠ g) : Blk b p cs t := (h.block p hX.lt hg).trans hX
theorem Exc.up {g : Nat} {a b c : World} (h : Below a.heap.size a b) (k : Exc g b c) (hg : a.heap.size ≤ g) : Below a.heap.size a c :=
  ⟨k.os.trans h.os, k.tape.trans h.tape, k.output.trans h.output, Nat.le_trans h.size k.size, fun i hi => (k.block i (Nat.lt_of_lt_of_le hi h.size) (by omega)).trans (h.block i hi)⟩
theorem en_spinney_weather_New : ∀ args w, (callFunc 26 args).run Try.prog w = .ok (.enter 26 args) w := enters_of Try.func26 (by kernel_rfl) rfl
theorem en_spinney_weather_Sky_Next : ∀ args w, (callFunc 29 args).run Try.prog w = .ok (.enter 29 args) w := enters_of Try.func29 (by kernel_rfl) rfl
theorem en_spinney_weather_Sky_Below : ∀ args w, (callFunc 31 args).run Try.prog w = .ok (.enter 31 args) w := enters_of Try.func31 (by kernel_rfl) rfl
theorem en_spinney_spinneyref29_half : ∀ args w, (callFunc 78 args).run Try.prog w = .ok (.enter 78 args) w := enters_of Try.func78 (by kernel_rfl) rfl
theorem en_spinney_spinneyref29_Next : ∀ args w, (callFunc 28 args).run Try.prog w = .ok (.enter 28 args) w := enters_of Try.func28 (by kernel_rfl) rfl
theorem en_spinney_spinneyref29_Below : ∀ args w, (callFunc 30 args).run Try.prog w = .ok (.enter 30 args) w := enters_of Try.func30 (by kernel_rfl) rfl

theorem xor_u64 (a b : Nat) (ha : a < 18446744073709551616) (hb : b < 18446744073709551616) : bits .xor .u64 (a : Int) (b : Int) = ((a ^^^ b : Nat) : Int) := by
  have hx : a ^^^ b < 2 ^ 64 := Nat.xor_lt_two_pow (by omega) (by omega)
  have h1 : (BitVec.ofInt 64 (a : Int)).toNat = a := by
    rw [BitVec.ofInt_natCast, BitVec.toNat_ofNat]
    exact Nat.mod_eq_of_lt (by omega)
  have h2 : (BitVec.ofInt 64 (b : Int)).toNat = b := by
    rw [BitVec.ofInt_natCast, BitVec.toNat_ofNat]
    exact Nat.mod_eq_of_lt (by omega)
  show IntKind.u64.wrap ((BitVec.ofInt 64 (a : Int) ^^^ BitVec.ofInt 64 (b : Int)).toNat : Int) = _
  rw [BitVec.toNat_xor, h1, h2, IntKind.wrap_u64]
  omega
theorem wrapN (a : Nat) : IntKind.u64.wrap (a : Int) = ((a % 18446744073709551616 : Nat) : Int) := by
  rw [IntKind.wrap_u64]
  omega
/-- A sky's block. -/
def SkyB (W : World) (p s : Nat) : Prop := Blk W p #[.int .u64 (s : Int)] 143
theorem skyNew_any (s : Nat) (w : World) : Calls Try.prog 26 #[.int .u64 (s : Int)] w fun e w' => ∃ p, e = .returned (.pointer (some ⟨p, 0, none⟩)) ∧ w.heap.size ≤ p ∧ SkyB w' p s ∧ Below w.heap.size w w' := by
  have hX := blk_new w #[.int .u64 (s : Int)] 143
  have hB := b0 w (.cells #[.int .u64 (s : Int)] 143)
  go_enter Try.func26, Try.ntmps26
  go_wp2_with fail
  go_ret
  exact ⟨_, rfl, Nat.le_refl _, hX, hB⟩
set_option maxHeartbeats 4000000 in
theorem skyNext_any (s p : Nat) (w : World) (hs : s < 18446744073709551616) (hX : SkyB w p s) : Calls Try.prog 29 #[.pointer (some ⟨p, 0, none⟩)] w fun e w' => e = .returned (.int .u64 (nxV s : Nat)) ∧ SkyB w' p (nxS s) ∧ Only1 p w w' := by
  have h1 : IntKind.u64.wrap ((s : Int) + 11400714819323198485) = (nxS s : Nat) := by
    unfold nxS
    rw [← wrapN]
    rfl
  have HS := Lib.hid (nxS_lt s)
  have HR : Hid (nxV s = lastW (mixW 134217728 10723151780598845931 (mixW 1073741824 13787848793156543929 (nxS s)))) := by show _ = _; rfl
  have hY := hX.set 0 (.int .u64 (nxS s : Nat))
  have ho := only_cell w p 0 (.int .u64 (nxS s : Nat))
  have c0 := hX.cell 0
  have f0 := hX.free 0
  have d0 := hY.cell 0
  generalize nxS s = z at *
  have a1 := xor_u64 z (z / 1073741824) HS.out (Nat.lt_of_le_of_lt (Nat.div_le_self _ _) HS.out)
  have a2 : IntKind.u64.wrap (((z ^^^ (z / 1073741824) : Nat) : Int) * 13787848793156543929) = (mixW 1073741824 13787848793156543929 z : Nat) := by
    unfold mixW
    rw [← wrapN]
    congr 1
  have l2 := mixW_lt 1073741824 13787848793156543929 z
  generalize mixW 1073741824 13787848793156543929 z = y at a2 l2 HR
  have a3 := xor_u64 y (y / 134217728) l2 (Nat.lt_of_le_of_lt (Nat.div_le_self _ _) l2)
  have a4 : IntKind.u64.wrap (((y ^^^ (y / 134217728) : Nat) : Int) * 10723151780598845931) = (mixW 134217728 10723151780598845931 y : Nat) := by
    unfold mixW
    rw [← wrapN]
    congr 1
  have l3 := mixW_lt 134217728 10723151780598845931 y
  generalize mixW 134217728 10723151780598845931 y = x at a4 l3 HR
  have a5 := xor_u64 x (x / 2147483648) l3 (Nat.lt_of_le_of_lt (Nat.div_le_self _ _) l3)
  have e1 : ((z : Int) / 1073741824) = ((z / 1073741824 : Nat) : Int) := by omega
  have e2 : ((y : Int) / 134217728) = ((y / 134217728 : Nat) : Int) := by omega
  have e3 : ((x : Int) / 2147483648) = ((x / 2147483648 : Nat) : Int) := by omega
  rw [← e1] at a1
  rw [← e2] at a3
  rw [← e3] at a5
  have HX := Lib.hid hX
  clear e1 e2 e3 l2 l3 hX
  generalize z ^^^ (z / 1073741824) = q1 at *
  generalize y ^^^ (y / 134217728) = q2 at *
  unfold lastW at HR
  generalize x ^^^ (x / 2147483648) = q3 at *
  go_enter Try.func29, Try.ntmps29
  go_wp2_with fail
  go_ret
  rw [HR.out]
  exact ⟨rfl, hY, ho⟩
end Go.Proofs.Ytkfhkfddhijkcaa
