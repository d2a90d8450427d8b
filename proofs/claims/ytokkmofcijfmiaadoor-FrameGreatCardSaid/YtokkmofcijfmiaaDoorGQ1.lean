/-
  WHAT IS PROVED: an argument that is a slice of bytes, or a uint64, opened (own work, over any program that bears the types named). · words for slices of slices of bytes (own work): such a slice reads as a list of lists of bytes, nil let in. Over any program. · an argument that is a byte, or a slice of slices of bytes, opened (own work, over any program that bears the types named). · plain facts on the sum CRC-32C: it is told by exclusive or on numbers below 2^32; bytes of one length that differ in one byte have different sums. No program. No condition. · the document's sum (spinneyref06.bit, turned, Sum) is crcL, for every slice of bytes. Conditions: those typed in each theorem. · the document's frame of a kind and bytes (spinneyref06.Seal) is sealL. Conditions: those typed in the theorem. · a slice of bytes cut off at its front, at its end, at both, as one word (own work); over any program that bears the types named. · string(..) of bytes that are read (own work); over any program that bears the types named.
-/
import Derived.Test.YtokkmofcijfmiaaDoorGQ0
import Derived.ChangeSlices
import Derived.Deep.Slices
import GoSem.Claim
namespace Go.Proofs.YtokkmofcijfmiaaDoor
open Go.RowKit Go.WideShapes Go.ChangeShapes

section
variable {H : Type} {enc : TypeId × Value → H}
theorem cellsB1 : Tryd.prog.cellsOf 5 = 1 := by kernel_rfl
theorem wf_u8 {z : Int} (h : (Lit.int .u8 z).wf = true) : z = ((UInt8.ofNat z.toNat).toNat : Int) := by
  have e1 : IntKind.u8.min = 0 := rfl
  have e2 : IntKind.u8.max = 255 := rfl
  simp [Lit.wf, e1, e2] at h
  rw [UInt8.toNat_ofNat']
  omega
theorem wf_i64 {n : Int} (h : (Lit.int .i64 n).wf = true) : -9223372036854775808 ≤ n ∧ n ≤ 9223372036854775807 := by
  have e1 : IntKind.i64.min = -9223372036854775808 := rfl
  have e2 : IntKind.i64.max = 9223372036854775807 := rfl
  simp [Lit.wf, e1, e2] at h
  omega
set_option maxRecDepth 100000 in
/-- An argument that is a slice of bytes, opened. -/
theorem open_bytl {t : TypeId} (ht : Tryd.prog.underlying t = some (.slice 5)) {W : World} {r : Reach} {b0 : Nat} {v : Value} {d : DataW H} {p : List MemPlace} (hv : Value.okWide Tryd.prog W r b0 t v) (h : DataW.Trod enc Tryd.prog W 0 (fun _ => true) true t v d p) :
    ∃ (A : Option Addr) (n c : Nat) (l : List UInt8), v = .slice A n c ∧ l.length = n ∧ RdB W.heap.size W A l ∧ n ≤ c ∧ c ≤ maxLen := by
  obtain ⟨A, n, c, rfl⟩ := okWide_slice ht hv
  obtain ⟨fuel, hf⟩ := h
  rcases open_ints ht Tryd.underlying5 cellsB1 hf with ⟨hcs, _⟩ | ⟨a, len, cap, zs, hcs, _, hl, hm, hmm, _, hcell, hwf⟩
  · simp [Value.cells] at hcs
    obtain ⟨rfl, rfl, rfl⟩ := hcs
    exact ⟨none, 0, 0, [], rfl, rfl, RdB.nil _ _ _, Nat.le_refl _, Nat.zero_le _⟩
  · simp [Value.cells] at hcs
    obtain ⟨rfl, rfl, rfl⟩ := hcs
    have hle : n ≤ zs.length := by rw [hmm]; simp; omega
    refine ⟨some a, n, c, (zs.take n).map (fun z => UInt8.ofNat z.toNat), rfl, by rw [List.length_map, List.length_take]; omega, fun k x hx => ?_, hl, hm⟩
    have hk : k < n := by
      have := (List.getElem?_eq_some_iff.1 hx).1
      rw [List.length_map, List.length_take] at this
      omega
    have hkz : k < zs.length := by omega
    have hc := hcell k hkz
    have e : zs.getD k 0 = zs[k] := by rw [List.getD_eq_getElem?_getD, List.getElem?_eq_getElem hkz]; rfl
    rw [List.getElem?_map, List.getElem?_take, if_pos hk, List.getElem?_eq_getElem hkz] at hx
    injection hx with hx
    subst hx
    have hb := World.block_lt_of_cell? W _ hc
    rw [add_block] at hb
    refine ⟨a, rfl, hb, ?_⟩
    rw [hc, e]
    have := wf_u8 (hwf zs[k] (List.getElem_mem hkz))
    rw [← this]
set_option maxRecDepth 100000 in
/-- An argument that is a uint64, opened. -/
theorem open_u64 {P : Program} {t : TypeId} (ht : P.underlying t = some (.int .u64)) {W : World} {base : Nat} {spare : Nat → Bool} {held : Bool} {r : Reach} {b0 : Nat} {v : Value} {d : DataW H} {p : List MemPlace} (hv : Value.okWide P W r b0 t v) (h : DataW.Trod enc P W base spare held t v d p) :
    ∃ x : Nat, v = .int .u64 x ∧ x < 18446744073709551616 := by
  obtain ⟨n, rfl, _, _, hw⟩ := open_int ht hv h
  have e1 : IntKind.u64.min = 0 := rfl
  have e2 : IntKind.u64.max = 18446744073709551615 := rfl
  simp [Lit.wf, e1, e2] at hw
  exact ⟨n.toNat, by rw [Int.toNat_of_nonneg hw.1], by omega⟩
end
end Go.Proofs.YtokkmofcijfmiaaDoor

namespace Go.Proofs.YtokkmofcijfmiaaDoor
open Go.RowKit

/-- The slice at A reads as the rows l, in blocks below B. -/
def RdBB (B : Nat) (W : World) (A : Option Addr) (l : List (List UInt8)) : Prop :=
  ∀ k x, l[k]? = some x → ∃ ad A' c', A = some ad ∧ ad.block < B ∧ W.cell? (ad.add k) = some (.slice A' x.length c') ∧ RdB B W A' x ∧ x.length ≤ c'
theorem RdBB.nil (B : Nat) (W : World) (A : Option Addr) : RdBB B W A [] := fun k x h => by simp at h
theorem RdBB.keep {B C : Nat} {W W' : World} {A : Option Addr} {l : List (List UInt8)} (h : RdBB B W A l) (hb : Below C W W') (hBC : B ≤ C) : RdBB B W' A l := by
  intro k x hx
  obtain ⟨ad, A', c', hA, hl, h1, h2, h3⟩ := h k x hx
  exact ⟨ad, A', c', hA, hl, (hb.cell (by rw [add_block]; omega)).trans h1, h2.keep hb hBC, h3⟩
end Go.Proofs.YtokkmofcijfmiaaDoor

namespace Go.Proofs.YtokkmofcijfmiaaDoor
open Go.RowKit Go.WideShapes Go.ChangeShapes

section
open Go.Deep
variable {H : Type} {enc : TypeId × Value → H}
/-- An argument that is a byte, opened. -/
theorem open_u8 {P : Program} {t : TypeId} (ht : P.underlying t = some (.int .u8)) {W : World} {base : Nat} {spare : Nat → Bool} {held : Bool} {r : Reach} {b0 : Nat} {v : Value} {d : DataW H} {p : List MemPlace} (hv : Value.okWide P W r b0 t v) (h : DataW.Trod enc P W base spare held t v d p) :
    ∃ x : UInt8, v = .int .u8 (x.toNat : Int) := by
  obtain ⟨n, rfl, _, _, hw⟩ := open_int ht hv h
  exact ⟨UInt8.ofNat n.toNat, by rw [← wf_u8 hw]⟩
theorem cellsSl : Tryd.prog.cellsOf 34 = 1 := by kernel_rfl
/-- A cell that reads as bytes. -/
theorem rd_bytl {t : TypeId} (ht : Tryd.prog.underlying t = some (.slice 5)) {W : World} {fuel : Nat} {cs : List Value} {y : DataW H × List MemPlace} (h : DataW.trod enc Tryd.prog W 0 (fun _ => true) true fuel t cs = some y) :
    ∃ (A : Option Addr) (n c : Nat) (l : List UInt8), cs = [.slice A n c] ∧ l.length = n ∧ RdB W.heap.size W A l ∧ n ≤ c := by
  rcases open_ints ht Tryd.underlying5 cellsB1 h with ⟨hcs, _⟩ | ⟨a, n, c, zs, hcs, _, hl, hm, hmm, _, hcell, hwf⟩
  · exact ⟨none, 0, 0, [], hcs, rfl, RdB.nil _ _ _, Nat.le_refl _⟩
  · have hle : n ≤ zs.length := by rw [hmm]; simp; omega
    refine ⟨some a, n, c, (zs.take n).map (fun z => UInt8.ofNat z.toNat), hcs, by rw [List.length_map, List.length_take]; omega, fun k x hx => ?_, hl⟩
    have hk : k < n := by
      have := (List.getElem?_eq_some_iff.1 hx).1
      rw [List.length_map, List.length_take] at this
      omega
    have hkz : k < zs.length := by omega
    have hc := hcell k hkz
    have e : zs.getD k 0 = zs[k] := by rw [List.getD_eq_getElem?_getD, List.getElem?_eq_getElem hkz]; rfl
    rw [List.getElem?_map, List.getElem?_take, if_pos hk, List.getElem?_eq_getElem hkz] at hx
    injection hx with hx
    subst hx
    have hb := World.block_lt_of_cell? W _ hc
    rw [add_block] at hb
    refine ⟨a, rfl, hb, ?_⟩
    rw [hc, e]
    have := wf_u8 (hwf zs[k] (List.getElem_mem hkz))
    rw [← this]
set_option maxRecDepth 100000 in
/-- An argument that is a slice of slices of bytes, opened. -/
theorem open_rows {t : TypeId} (ht : Tryd.prog.underlying t = some (.slice 34)) {W : World} {r : Reach} {b0 : Nat} {v : Value} {d : DataW H} {p : List MemPlace} (hv : Value.okWide Tryd.prog W r b0 t v) (h : DataW.Trod enc Tryd.prog W 0 (fun _ => true) true t v d p) :
    ∃ (A : Option Addr) (n c : Nat) (l : List (List UInt8)), v = .slice A n c ∧ l.length = n ∧ RdBB W.heap.size W A l ∧ n ≤ maxLen := by
  obtain ⟨A, n, c, rfl⟩ := okWide_slice ht hv
  obtain ⟨fuel, hf⟩ := h
  rcases open_slice ht hf with ⟨hcs, _⟩ | ⟨a, len, cap, m, f, D, Pl, hcs, _, hl, hm, hmm, _, hi⟩
  · simp [Value.cells] at hcs
    obtain ⟨rfl, rfl, rfl⟩ := hcs
    exact ⟨none, 0, 0, [], rfl, rfl, RdBB.nil _ _ _, Nat.zero_le _⟩
  · simp [Value.cells] at hcs
    obtain ⟨rfl, rfl, rfl⟩ := hcs
    have hle : n ≤ m := by rw [hmm]; simp; omega
    have hx : ∀ i, ∃ x : List UInt8, i < n → ∃ A' c', W.cell? (a.add i) = some (.slice A' x.length c') ∧ RdB W.heap.size W A' x ∧ x.length ≤ c' := by
      intro i
      by_cases hin : i < n
      · obtain ⟨cs', hc, ht'⟩ := hi i (by omega)
        rw [cellsSl, Nat.mul_one] at hc
        obtain ⟨_, hlen, hcell⟩ := World.cells?_some hc
        obtain ⟨A', n', c', x, rfl, hn', hr', hc'⟩ := rd_bytl Tryd.underlying34 ht'
        refine ⟨x, fun _ => ⟨A', c', ?_, hr', by omega⟩⟩
        have h0 := hcell 0 (by omega)
        rw [hn']
        simpa [Addr.add] using h0
      · exact ⟨[], fun h => absurd h hin⟩
    have hF : ∃ f : Nat → List UInt8, ∀ i, i < n → ∃ A' c', W.cell? (a.add i) = some (.slice A' (f i).length c') ∧ RdB W.heap.size W A' (f i) ∧ (f i).length ≤ c' := ⟨fun i => Classical.choose (hx i), fun i => Classical.choose_spec (hx i)⟩
    obtain ⟨g, hg⟩ := hF
    refine ⟨some a, n, c, (List.range n).map g, rfl, by simp, fun k x hx => ?_, by omega⟩
    have hk : k < n := by
      have := (List.getElem?_eq_some_iff.1 hx).1
      simpa using this
    have e : x = g k := by
      rw [List.getElem?_map, List.getElem?_range hk] at hx
      injection hx with hx
      exact hx.symm
    subst e
    obtain ⟨A', c', h1, h2, h3⟩ := hg k hk
    have hb := World.block_lt_of_cell? W _ h1
    rw [add_block] at hb
    exact ⟨a, A', c', rfl, hb, h1, h2, h3⟩
end
end Go.Proofs.YtokkmofcijfmiaaDoor

namespace Go.Proofs.YtokkmofcijfmiaaDoor

theorem xor_lt {a b : Nat} (h : a < 4294967296) (k : b < 4294967296) : a ^^^ b < 4294967296 := Nat.xor_lt_two_pow (n := 32) h k
/-- One bit. -/
def crcStep (c : Nat) : Nat := if c % 2 = 1 then (c / 2) ^^^ 2197175160 else c / 2
theorem crcStep_lt {c : Nat} (h : c < 4294967296) : crcStep c < 4294967296 := by
  unfold crcStep
  split
  · exact xor_lt (by omega) (by omega)
  · omega
theorem top_set {d : Nat} (h : d < 2147483648) : 2147483648 ≤ d ^^^ 2197175160 := by
  have h1 : (d ^^^ 2197175160).testBit 31 = true := by
    rw [Nat.testBit_xor, Nat.testBit_lt_two_pow (show d < 2 ^ 31 from h)]
    decide
  refine Nat.le_of_not_lt fun h2 => ?_
  have h3 := Nat.testBit_lt_two_pow (i := 31) (show d ^^^ 2197175160 < 2 ^ 31 from h2)
  rw [h1] at h3
  cases h3
theorem xor_cancel_right {a b c : Nat} (h : a ^^^ c = b ^^^ c) : a = b := by
  have := congrArg (· ^^^ c) h
  simpa [Nat.xor_assoc] using this
theorem xor_cancel_left {a b c : Nat} (h : c ^^^ a = c ^^^ b) : a = b := by
  rw [Nat.xor_comm c a, Nat.xor_comm c b] at h
  exact xor_cancel_right h
theorem crcStep_inj {c d : Nat} (hc : c < 4294967296) (hd : d < 4294967296) (h : crcStep c = crcStep d) : c = d := by
  unfold crcStep at h
  by_cases h1 : c % 2 = 1
  · rw [if_pos h1] at h
    by_cases h2 : d % 2 = 1
    · rw [if_pos h2] at h
      have := xor_cancel_right h
      omega
    · rw [if_neg h2] at h
      have := top_set (d := c / 2) (by omega)
      omega
  · rw [if_neg h1] at h
    by_cases h2 : d % 2 = 1
    · rw [if_pos h2] at h
      have := top_set (d := d / 2) (by omega)
      omega
    · rw [if_neg h2] at h
      omega
/-- So many bits. -/
def crcSteps : Nat → Nat → Nat
  | 0, c => c
  | k + 1, c => crcSteps k (crcStep c)
theorem crcSteps_succ : ∀ (k c : Nat), crcSteps (k + 1) c = crcStep (crcSteps k c)
  | 0, _ => rfl
  | k + 1, c => by
    show crcSteps (k + 1) (crcStep c) = _
    rw [crcSteps_succ k (crcStep c)]
    rfl
theorem crcSteps_lt : ∀ (k : Nat) {c : Nat}, c < 4294967296 → crcSteps k c < 4294967296
  | 0, _, h => h
  | k + 1, _, h => crcSteps_lt k (crcStep_lt h)
theorem crcSteps_inj : ∀ (k : Nat) {c d : Nat}, c < 4294967296 → d < 4294967296 → crcSteps k c = crcSteps k d → c = d
  | 0, _, _, _, _, h => h
  | k + 1, _, _, hc, hd, h => crcStep_inj hc hd (crcSteps_inj k (crcStep_lt hc) (crcStep_lt hd) h)
/-- One byte. -/
def crcByte (c : Nat) (b : UInt8) : Nat := crcSteps 8 (c ^^^ b.toNat)
theorem byte_lt (b : UInt8) : b.toNat < 4294967296 := Nat.lt_trans b.toNat_lt (by decide)
theorem crcByte_lt {c : Nat} (h : c < 4294967296) (b : UInt8) : crcByte c b < 4294967296 := crcSteps_lt 8 (xor_lt h (byte_lt b))
theorem crcByte_inj {c d : Nat} {b : UInt8} (hc : c < 4294967296) (hd : d < 4294967296) (h : crcByte c b = crcByte d b) : c = d :=
  xor_cancel_right (crcSteps_inj 8 (xor_lt hc (byte_lt b)) (xor_lt hd (byte_lt b)) h)
theorem crcByte_inj2 {c : Nat} {b b' : UInt8} (hc : c < 4294967296) (h : crcByte c b = crcByte c b') : b = b' :=
  UInt8.toNat_inj.1 (xor_cancel_left (crcSteps_inj 8 (xor_lt hc (byte_lt b)) (xor_lt hc (byte_lt b')) h))
/-- Where the bytes lead. -/
def crcTo (c : Nat) (l : List UInt8) : Nat := l.foldl crcByte c
theorem crcTo_snoc (c : Nat) (l : List UInt8) (b : UInt8) : crcTo c (l ++ [b]) = crcByte (crcTo c l) b := by simp [crcTo]
theorem crcTo_lt : ∀ (l : List UInt8) {c : Nat}, c < 4294967296 → crcTo c l < 4294967296
  | [], _, h => h
  | b :: t, _, h => crcTo_lt t (crcByte_lt h b)
theorem crcTo_inj : ∀ (l : List UInt8) {c d : Nat}, c < 4294967296 → d < 4294967296 → crcTo c l = crcTo d l → c = d
  | [], _, _, _, _, h => h
  | b :: t, _, _, hc, hd, h => crcByte_inj hc hd (crcTo_inj t (crcByte_lt hc b) (crcByte_lt hd b) h)
/-- The sum. -/
def crcL (l : List UInt8) : Nat := 4294967295 - crcTo 4294967295 l
theorem crcL_lt (l : List UInt8) : crcL l < 4294967296 := by unfold crcL; omega
/-- Two rows that differ in one byte have different sums. -/
theorem crcL_one {l r : List UInt8} {b b' : UInt8} (h : crcL (l ++ b :: r) = crcL (l ++ b' :: r)) : b = b' := by
  unfold crcL at h
  have h1 := crcTo_lt (l ++ b :: r) (c := 4294967295) (by decide)
  have h2 := crcTo_lt (l ++ b' :: r) (c := 4294967295) (by decide)
  have h3 : crcTo 4294967295 (l ++ b :: r) = crcTo 4294967295 (l ++ b' :: r) := by omega
  have e : ∀ x : UInt8, crcTo 4294967295 (l ++ x :: r) = crcTo (crcByte (crcTo 4294967295 l) x) r := fun x => by simp [crcTo]
  have hl := crcTo_lt l (c := 4294967295) (by decide)
  rw [e, e] at h3
  exact crcByte_inj2 hl (crcTo_inj r (crcByte_lt hl b) (crcByte_lt hl b') h3)
/-- Exclusive or, bit by bit from below. -/
theorem xor_bits (a b i : Nat) : (a ^^^ b) % 2 ^ (i + 1) = (a ^^^ b) % 2 ^ i + (if (a / 2 ^ i % 2 == 1) != (b / 2 ^ i % 2 == 1) then 2 ^ i else 0) := by
  have h1 : (a ^^^ b) % 2 ^ (i + 1) = (a ^^^ b) % 2 ^ i + 2 ^ i * ((a ^^^ b) / 2 ^ i % 2) := by
    rw [Nat.pow_succ, Nat.mod_mul]
  rw [h1]
  congr 1
  have ht : ((a ^^^ b).testBit i) = ((a.testBit i) != (b.testBit i)) := Nat.testBit_xor a b i
  rw [Nat.testBit_eq_decide_div_mod_eq, Nat.testBit_eq_decide_div_mod_eq, Nat.testBit_eq_decide_div_mod_eq] at ht
  have e : ∀ n : Nat, decide (n % 2 = 1) = (n % 2 == 1) := fun n => by rw [Bool.eq_iff_iff]; simp
  rw [e, e, e] at ht
  rw [← ht]
  have h2 : (a ^^^ b) / 2 ^ i % 2 = 0 ∨ (a ^^^ b) / 2 ^ i % 2 = 1 := by omega
  rcases h2 with h | h <;> simp [h]
end Go.Proofs.YtokkmofcijfmiaaDoor

namespace Go.Proofs.YtokkmofcijfmiaaDoor
open Go.RowKit

set_option maxHeartbeats 1000000 in
theorem bit_is (n : Nat) (b : Bool) (hb : (n % 2 == 1) = b) (w : World) :
    Calls Tryd.prog 74 #[.int .u64 n, .int .i64 0] w fun e w' => e = .returned (.bool b) ∧ w = w' := by
  go_enter Tryd.func74, Tryd.ntmps74
  go_wp2_with fail
  go_loopw [0, 1] (fun x p wr => x = .int .u64 n ∧ p = .int .i64 0 ∧ w = wr) (fun _ _ _ => 0)
  case atStart => exact ⟨rfl, rfl, rfl⟩
  case round =>
    obtain ⟨rfl, rfl, rfl⟩ := hrel
    go_wp2_with fail
    go_ret
    exact ⟨ret_bool (by rw [← hb, Bool.eq_iff_iff, beq_iff_eq, beq_iff_eq]; omega), by first | rfl | trivial⟩
set_option maxRecDepth 100000 in
set_option maxHeartbeats 4000000 in
theorem turned_any (a b : Nat) (ha : a < 4294967296) (hb : b < 4294967296) (w : World) :
    Calls Tryd.prog 55 #[.int .u64 a, .int .u64 b] w fun e w' => e = .returned (.int .u64 ((a ^^^ b : Nat) : Int)) ∧ w = w' := by
  have HA := Lib.hid ha
  have HB := Lib.hid hb
  clear ha hb
  go_enter Tryd.func55, Tryd.ntmps55
  go_wp2_with fail
  go_loopw [0, 1, 5, 6, 7] (fun x y o p i wr => ∃ (k x' y' o' p' : Nat), k ≤ 32 ∧ x = .int .u64 x' ∧ y = .int .u64 y' ∧ o = .int .u64 o' ∧ p = .int .u64 p' ∧ i = .int .i64 k ∧ Hid (x' = a / 2 ^ k ∧ y' = b / 2 ^ k ∧ o' = (a ^^^ b) % 2 ^ k ∧ p' = 2 ^ k) ∧ o' < p' ∧ p' ≤ 4294967296 ∧ w = wr) (fun _ _ _ _ i _ => 32 - (intOf i).toNat)
  case atStart => exact ⟨0, a, b, 0, 1, by omega, rfl, rfl, rfl, rfl, rfl, ⟨by simp, by simp, by simp [Nat.mod_one], rfl⟩, by omega, by omega, rfl⟩
  case round =>
    obtain ⟨k, x', y', o', p', hk, rfl, rfl, rfl, rfl, rfl, hE, ho, hp, rfl⟩ := hrel
    by_cases hlt : k < 32
    · have i1 : (k : Int) < 32 := by omega
      have hx : x' < 4294967296 := by rw [hE.out.1]; exact Nat.lt_of_le_of_lt (Nat.div_le_self _ _) HA.out
      have hy : y' < 4294967296 := by rw [hE.out.2.1]; exact Nat.lt_of_le_of_lt (Nat.div_le_self _ _) HB.out
      have hpk : p' ≤ 2147483648 := by
        rw [hE.out.2.2.2]
        exact Nat.pow_le_pow_right (n := 2) (by omega) (show k ≤ 31 by omega)
      have hxb := xor_bits a b k
      rw [← hE.out.1, ← hE.out.2.1, ← hE.out.2.2.1, ← hE.out.2.2.2] at hxb
      have hE2 : ∀ o2, o2 = (a ^^^ b) % 2 ^ (k + 1) → Hid (x' / 2 = a / 2 ^ (k + 1) ∧ y' / 2 = b / 2 ^ (k + 1) ∧ o2 = (a ^^^ b) % 2 ^ (k + 1) ∧ p' * 2 = 2 ^ (k + 1)) := fun o2 h => by
        refine ⟨?_, ?_, h, ?_⟩
        · rw [hE.out.1, Nat.div_div_eq_div_mul, Nat.pow_succ]
        · rw [hE.out.2.1, Nat.div_div_eq_div_mul, Nat.pow_succ]
        · rw [hE.out.2.2.2, Nat.pow_succ]
      have HE2 := Lib.hid hE2
      have E1 : Hid (((x' : Int) / 2) = ((x' / 2 : Nat) : Int)) := by show _ = _; omega
      have E2 : Hid (((y' : Int) / 2) = ((y' / 2 : Nat) : Int)) := by show _ = _; omega
      have E3 : Hid (((p' : Int) * 2) = ((p' * 2 : Nat) : Int)) := by show _ = _; omega
      have E4 : Hid (((o' : Int) + (p' : Int)) = ((o' + p' : Nat) : Int)) := by show _ = _; omega
      clear hE hE2
      obtain ⟨bx, hbx⟩ : ∃ q, (x' % 2 == 1) = q := ⟨_, rfl⟩
      obtain ⟨by', hby⟩ : ∃ q, (y' % 2 == 1) = q := ⟨_, rfl⟩
      rw [hbx, hby] at hxb
      have FX := Lib.hid (fun w => bit_is x' bx hbx w)
      have FY := Lib.hid (fun w => bit_is y' by' hby w)
      clear hbx hby
      go_wp2_with fail
      refine (FX.out _).mono ?_
      rintro e w2 ⟨rfl, rfl⟩
      go_wp2_with fail
      refine (FY.out _).mono ?_
      rintro e w3 ⟨rfl, rfl⟩
      cases bx with
      | true => cases by' with
        | true =>
          rw [if_neg (by decide), Nat.add_zero] at hxb
          have HE3 := HE2.out _ hxb.symm
          clear HE2 hxb FX FY
          go_wp2_with fail
          go_roundw
          case rel => exact ⟨k + 1, x' / 2, y' / 2, o', p' * 2, by omega, by rw [E1.out], by rw [E2.out], by first | rfl | rw [E4.out], by rw [E3.out], by go_num, HE3, by omega, by omega, by first | rfl | trivial⟩
          case measure => simp [intOf]; omega
        | false =>
          rw [if_pos (by decide)] at hxb
          have HE3 := HE2.out _ hxb.symm
          clear HE2 hxb FX FY
          go_wp2_with fail
          go_roundw
          case rel => exact ⟨k + 1, x' / 2, y' / 2, o' + p', p' * 2, by omega, by rw [E1.out], by rw [E2.out], by first | rfl | rw [E4.out], by rw [E3.out], by go_num, HE3, by omega, by omega, by first | rfl | trivial⟩
          case measure => simp [intOf]; omega
      | false => cases by' with
        | true =>
          rw [if_pos (by decide)] at hxb
          have HE3 := HE2.out _ hxb.symm
          clear HE2 hxb FX FY
          go_wp2_with fail
          go_roundw
          case rel => exact ⟨k + 1, x' / 2, y' / 2, o' + p', p' * 2, by omega, by rw [E1.out], by rw [E2.out], by first | rfl | rw [E4.out], by rw [E3.out], by go_num, HE3, by omega, by omega, by first | rfl | trivial⟩
          case measure => simp [intOf]; omega
        | false =>
          rw [if_neg (by decide), Nat.add_zero] at hxb
          have HE3 := HE2.out _ hxb.symm
          clear HE2 hxb FX FY
          go_wp2_with fail
          go_roundw
          case rel => exact ⟨k + 1, x' / 2, y' / 2, o', p' * 2, by omega, by rw [E1.out], by rw [E2.out], by first | rfl | rw [E4.out], by rw [E3.out], by go_num, HE3, by omega, by omega, by first | rfl | trivial⟩
          case measure => simp [intOf]; omega
    · have hq : ¬ (k : Int) < 32 := by omega
      have e : k = 32 := by omega
      subst e
      have R : Hid ((o' : Int) = ((a ^^^ b : Nat) : Int)) := by
        show _ = _
        rw [hE.out.2.2.1, Nat.mod_eq_of_lt (xor_lt HA.out HB.out)]
      clear hE
      go_wp2_with fail
      go_ret
      exact ⟨by rw [R.out]; rfl, by first | rfl | trivial⟩

theorem turned_is (a b r : Nat) (hr : a ^^^ b = r) (ha : a < 4294967296) (hb : b < 4294967296) (w : World) :
    Calls Tryd.prog 55 #[.int .u64 a, .int .u64 b] w fun e w' => e = .returned (.int .u64 (r : Nat)) ∧ w = w' := by
  subst hr
  exact turned_any a b ha hb w
set_option maxRecDepth 100000 in
set_option maxHeartbeats 4000000 in
theorem refSum_any {B : Nat} (A : Option Addr) (n c : Nat) (l : List UInt8) (w : World) (hn : l.length = n) (hr : RdB B w A l) (hm : n ≤ 1000000000) :
    Calls Tryd.prog 38 #[.slice A n c] w fun e w' => e = .returned (.int .u32 (crcL l : Nat)) ∧ w = w' := by
  have HN := Lib.hid hn
  clear hn
  go_enter Tryd.func38, Tryd.ntmps38
  go_wp2_with fail
  go_loopw [3, 9] (fun x i wr => ∃ (k s : Nat), k ≤ n ∧ x = .int .u64 s ∧ i = .int .i64 k ∧ Hid (s = crcTo 4294967295 (l.take k)) ∧ s < 4294967296 ∧ w = wr) (fun _ i _ => n - (intOf i).toNat)
  case atStart => exact ⟨0, 4294967295, Nat.zero_le _, rfl, rfl, rfl, by omega, rfl⟩
  case round =>
    obtain ⟨k, s, hk, rfl, rfl, hS, hs, rfl⟩ := hrel
    by_cases hlt : k < n
    · obtain ⟨ad, rfl, _, hc⟩ := hr.at_ (show k < l.length by have := HN.out; omega)
      have i1 : (0 : Int) ≤ (k : Int) := by omega
      have i2 : (k : Int) < (n : Int) := by omega
      have hlk : k < l.length := by have := HN.out; omega
      have HX : Hid (l.take (k + 1) = l.take k ++ [l[k]]) := List.take_succ_eq_append_getElem hlk
      generalize l[k] = x at hc HX
      have hx := byte_lt x
      have hx2 := xor_lt hs hx
      have HS2 : Hid (crcSteps 8 (s ^^^ x.toNat) = crcTo 4294967295 (l.take (k + 1))) := by
        show _ = _
        rw [HX.out, crcTo_snoc, ← hS.out]
        rfl
      have hbx := x.toNat_lt
      have FT := Lib.hid (fun w => turned_is s x.toNat (s ^^^ x.toNat) rfl hs hx w)
      generalize s ^^^ x.toNat = s0 at hx2 HS2 FT
      clear hS HX hx
      go_wp2_with fail
      refine (FT.out _).mono ?_
      rintro e w2 ⟨rfl, rfl⟩
      clear FT
      go_wp2_with fail
      go_loopw [3, 5] (fun y i wr => ∃ (j r : Nat), j ≤ 8 ∧ y = .int .u64 r ∧ i = .int .i64 j ∧ Hid (r = crcSteps j s0) ∧ r < 4294967296 ∧ w = wr) (fun _ i _ => 8 - (intOf i).toNat)
      case atStart => exact ⟨0, s0, by omega, rfl, rfl, rfl, hx2, rfl⟩
      case round =>
        obtain ⟨j, r, hj, rfl, rfl, hR, hrl, rfl⟩ := hrel
        by_cases hjt : j < 8
        · have j1 : (j : Int) < 8 := by omega
          have hst := crcSteps_succ j s0
          rw [← hR.out] at hst
          have E1 : Hid (((r : Int) / 2) = ((r / 2 : Nat) : Int)) := by show _ = _; omega
          by_cases hp : r % 2 = 1
          · have t1 : ((r : Int) % 2 == 1) = true := by rw [beq_iff_eq]; omega
            have HST : Hid (crcSteps (j + 1) s0 = (r / 2) ^^^ 2197175160) := by
              show _ = _
              rw [hst]
              unfold crcStep
              rw [if_pos hp]
            have hl2 : (r / 2) ^^^ 2197175160 < 4294967296 := xor_lt (by omega) (by omega)
            have FT := Lib.hid (fun w => turned_is (r / 2) 2197175160 ((r / 2) ^^^ 2197175160) rfl (by omega) (by omega) w)
            generalize (r / 2) ^^^ 2197175160 = r2 at HST hl2 FT
            rw [← E1.out] at FT
            clear hst hR hp
            go_wp2_with fail
            refine (FT.out _).mono ?_
            rintro e w3 ⟨rfl, rfl⟩
            clear FT
            go_wp2_with fail
            go_roundw
            case rel => exact ⟨j + 1, r2, by omega, rfl, by go_num, HST.out.symm, hl2, by first | rfl | trivial⟩
            case measure => simp [intOf]; omega
          · have t1 : ((r : Int) % 2 == 1) = false := by rw [beq_eq_false_iff_ne]; omega
            have HST : Hid (crcSteps (j + 1) s0 = r / 2) := by
              show _ = _
              rw [hst]
              unfold crcStep
              rw [if_neg hp]
            clear hst hR hp
            go_wp2_with fail
            go_roundw
            case rel => exact ⟨j + 1, r / 2, by omega, by rw [E1.out], by go_num, HST.out.symm, by omega, by first | rfl | trivial⟩
            case measure => simp [intOf]; omega
        · have hq : ¬ (j : Int) < 8 := by omega
          have e8 : j = 8 := by omega
          subst e8
          have HR : Hid (r = crcTo 4294967295 (l.take (k + 1))) := hR.out.trans HS2.out
          clear hR HS2
          go_wp2_with fail
          go_roundw
          case rel => exact ⟨k + 1, r, by omega, rfl, by go_num, HR, hrl, by first | rfl | trivial⟩
          case measure => simp [intOf]; omega
    · have hq : ¬ (k : Int) < (n : Int) := by omega
      have R : Hid (((4294967295 : Int) - (s : Int)) = ((crcL l : Nat) : Int)) := by
        show _ = _
        unfold crcL
        rw [hS.out, List.take_of_length_le (by have := HN.out; omega)]
        have := crcTo_lt l (c := 4294967295) (by omega)
        omega
      clear hS
      go_wp2_with fail
      go_ret
      exact ⟨by rw [← R.out]; rfl, by first | rfl | trivial⟩
end Go.Proofs.YtokkmofcijfmiaaDoor

namespace Go.Proofs.YtokkmofcijfmiaaDoor
open Go.RowKit

/-- Four bytes of a number, the highest first. -/
def fourB (c : Nat) : List UInt8 := [UInt8.ofNat (c / 16777216), UInt8.ofNat (c / 65536 % 256), UInt8.ofNat (c / 256 % 256), UInt8.ofNat (c % 256)]
/-- A frame ahead of its sum. -/
def bodyL (k : UInt8) (l : List UInt8) : List UInt8 := [229, k, UInt8.ofNat (l.length / 65536), UInt8.ofNat (l.length / 256 % 256), UInt8.ofNat (l.length % 256)] ++ l
/-- A frame. -/
def sealL (k : UInt8) (l : List UInt8) : List UInt8 := bodyL k l ++ fourB (crcL (bodyL k l))
theorem bodyL_len (k : UInt8) (l : List UInt8) : (bodyL k l).length = 5 + l.length := by simp [bodyL]; omega
theorem sealL_len (k : UInt8) (l : List UInt8) : (sealL k l).length = 9 + l.length := by simp [sealL, bodyL_len, fourB]; omega
theorem of_small {x : Nat} (h : x < 256) : ((UInt8.ofNat x).toNat : Int) = (x : Int) := by
  rw [UInt8.toNat_ofNat']
  omega

set_option maxRecDepth 100000 in
set_option maxHeartbeats 4000000 in
theorem refSeal_any {B : Nat} (k : UInt8) (A : Option Addr) (n c : Nat) (l : List UInt8) (w : World) (hn : l.length = n) (hr : RdB B w A l) (hB : B ≤ w.heap.size) (hm : n ≤ 100000) :
    Calls Tryd.prog 19 #[.int .u8 (k.toNat : Int), .slice A n c] w fun e w' => (∃ (A' : Option Addr) (c' : Nat), e = .returned (.tuple #[.slice A' (n + 9) c', .bool true]) ∧ OwnB w.heap.size w' A' (n + 9) c' (sealL k l)) ∧ Below w.heap.size w w' := by
  obtain ⟨i0, hi0, hz0, hz1, hz2⟩ := info_parts byt_info
  have HN := Lib.hid hn
  have g1 : (n : Int) ≤ 100000 := by omega
  have hk := k.toNat_lt
  clear hn
  go_enter Tryd.func19, Tryd.ntmps19
  have hl5 : #[Value.int .u8 229, .int .u8 (k.toNat : Int), .int .u8 ((n : Int) / 65536), .int .u8 ((n : Int) / 256 % 256), .int .u8 ((n : Int) % 256)].toList = bytV [229, k, UInt8.ofNat (n / 65536), UInt8.ofNat (n / 256 % 256), UInt8.ofNat (n % 256)] := by
    dsimp only [bytV, List.map]
    rw [of_small (x := n / 65536) (by omega), of_small (x := n / 256 % 256) (by omega), of_small (x := n % 256) (by omega)]
    rfl
  have hown := OwnB.lit w (base := w.heap.size) _ _ hl5 (n := 5) rfl (Nat.le_refl _) (by unfold maxLen; omega)
  have hrd := hr.keep (b0 w (.cells #[.int .u8 229, .int .u8 (k.toNat : Int), .int .u8 ((n : Int) / 65536), .int .u8 ((n : Int) / 256 % 256), .int .u8 ((n : Int) % 256)] 5)) hB
  have hB0 := b0 w (.cells #[.int .u8 229, .int .u8 (k.toNat : Int), .int .u8 ((n : Int) / 65536), .int .u8 ((n : Int) / 256 % 256), .int .u8 ((n : Int) % 256)] 5)
  have HBY : Hid ([229, k, UInt8.ofNat (n / 65536), UInt8.ofNat (n / 256 % 256), UInt8.ofNat (n % 256)] ++ l = bodyL k l) := by show _ = _; unfold bodyL; rw [HN.out]
  clear hl5
  go_wp2_with (at_builtin; refine wpList_apB (base := w.heap.size) (n := 5) (m := n) (l := [229, k, UInt8.ofNat (n / 65536), UInt8.ofNat (n / 256 % 256), UInt8.ofNat (n % 256)]) (l2 := l) (by rfl) _ _ (by rfl) Tryd.underlying34 Tryd.underlying34 hi0 hz0 hz1 hz2 (by rfl) (by rfl) hown hrd HN.out (n + 5) (by omega) (by omega) (by simp) ?_; intro A5 c5 w5 hO5 hb5 hg5)
  rw [HBY.out] at hO5
  have hB5 := hB0.trans hb5
  clear hown hrd hg5 HBY hb5
  refine (refSum_any A5 (n + 5) c5 (bodyL k l) w5 hO5.len hO5.rd (by omega)).mono ?_
  rintro e w6 ⟨rfl, rfl⟩
  have hcs := crcL_lt (bodyL k l)
  generalize hcc : crcL (bodyL k l) = cs at hcs ⊢
  have HCC := Lib.hid hcc
  clear hcc
  have hcs' : (cs : Int) < 4294967296 := by omega
  have hl4 : #[Value.int .u8 ((cs : Int) / 16777216), .int .u8 ((cs : Int) / 65536 % 256), .int .u8 ((cs : Int) / 256 % 256), .int .u8 ((cs : Int) % 256)].toList = bytV (fourB cs) := by
    dsimp only [fourB, bytV, List.map]
    rw [of_small (x := cs / 16777216) (by omega), of_small (x := cs / 65536 % 256) (by omega), of_small (x := cs / 256 % 256) (by omega), of_small (x := cs % 256) (by omega)]
    rfl
  have hown4 := OwnB.lit w5 (base := w5.heap.size) _ _ hl4 (n := 4) rfl (Nat.le_refl _) (by unfold maxLen; omega)
  have hO6 := hO5.keep (b0 w5 (.cells #[.int .u8 ((cs : Int) / 16777216), .int .u8 ((cs : Int) / 65536 % 256), .int .u8 ((cs : Int) / 256 % 256), .int .u8 ((cs : Int) % 256)] 5))
  have hz5 := hB5.size
  have hB6 := hB5.alloc hz5 (.cells #[.int .u8 ((cs : Int) / 16777216), .int .u8 ((cs : Int) / 65536 % 256), .int .u8 ((cs : Int) / 256 % 256), .int .u8 ((cs : Int) % 256)] 5)
  clear hl4 hO5
  go_wp2_with (at_builtin; refine wpList_apB (base := w.heap.size) (n := n + 5) (m := 4) (l := bodyL k l) (l2 := fourB cs) (by rfl) _ _ (by rfl) Tryd.underlying34 Tryd.underlying34 hi0 hz0 hz1 hz2 (by rfl) (by rfl) hO6 hown4.rd rfl (n + 9) (by omega) (by omega) (by simp; omega) ?_; intro A7 c7 w7 hO7 hb7 hg7)
  go_ret2
  refine ⟨⟨A7, c7, rfl, ?_⟩, hB6.trans hb7⟩
  unfold sealL
  rw [HCC.out]
  exact hO7
end Go.Proofs.YtokkmofcijfmiaaDoor

namespace Go.Proofs.YtokkmofcijfmiaaDoor
open Go.RowKit

/-- A slice cut off at its front: its address, in one word. -/
def cutA (A : Option Addr) (c p : Nat) : Option Addr := if c = p then A else A.map (·.add p)
theorem run_cut (W : World) (A : Option Addr) (n c p : Nat) (h : p ≤ n) :
    (Instr.sliceAt 34 (.slice A n c) (some (.int .i64 (p : Int))) none none).run Tryd.prog W = .ok (.slice (cutA A c p) (n - p) (c - p)) W := by
  have h1 : (p : Int) ≤ (n : Int) := by omega
  unfold cutA
  go_simp
theorem run_cutI (W : World) (A : Option Addr) (n c p : Nat) (z : Int) (hz : z = (p : Int)) (h : p ≤ n) :
    (Instr.sliceAt 34 (.slice A n c) (some (.int .i64 z)) none none).run Tryd.prog W = .ok (.slice (cutA A c p) (n - p) (c - p)) W := by
  rw [hz]
  exact run_cut W A n c p h
theorem RdB.cut {B : Nat} {W : World} {A : Option Addr} {l : List UInt8} (h : RdB B W A l) {p c : Nat} (hc : l.length ≤ c) : RdB B W (cutA A c p) (l.drop p) := h.drop hc
/-- .. at both ends. -/
theorem run_cut2 (W : World) (A : Option Addr) (n c p q : Nat) (y z : Int) (hy : y = (p : Int)) (hz : z = (q : Int)) (h : p ≤ q) (hq : q ≤ n) (hc : n ≤ c) :
    (Instr.sliceAt 34 (.slice A n c) (some (.int .i64 y)) (some (.int .i64 z)) none).run Tryd.prog W = .ok (.slice (cutA A c p) (q - p) (c - p)) W := by
  have h1 : (p : Int) ≤ (q : Int) := by omega
  have h2 : (q : Int) ≤ (c : Int) := by omega
  rw [hy, hz]
  unfold cutA
  go_simp
/-- .. at its end. -/
theorem run_cut0 (W : World) (A : Option Addr) (n c q : Nat) (z : Int) (hz : z = (q : Int)) (hq : q ≤ n) (hc : n ≤ c) :
    (Instr.sliceAt 34 (.slice A n c) none (some (.int .i64 z)) none).run Tryd.prog W = .ok (.slice A q c) W := by
  have h2 : (q : Int) ≤ (c : Int) := by omega
  rw [hz]
  go_simp
theorem RdB.sub {B : Nat} {W : World} {A : Option Addr} {l : List UInt8} (h : RdB B W A l) {p c : Nat} (hc : l.length ≤ c) (m : Nat) : RdB B W (cutA A c p) ((l.drop p).take m) := (h.cut hc).take m
end Go.Proofs.YtokkmofcijfmiaaDoor

namespace Go.Proofs.YtokkmofcijfmiaaDoor
open Go.RowKit

/-- string(..) of bytes that are read. -/
theorem conv_rd {B : Nat} (W : World) (A : Option Addr) (n c : Nat) (l : List UInt8) (hn : l.length = n) (h : RdB B W A l) : (convert 34 9 (.slice A n c)).run Tryd.prog W = .ok (.string ⟨l.toArray⟩) W := by
  subst hn
  cases l with
  | nil =>
    cases A with
    | none => exact run_convert_bytes_nil W 34 5 Tryd.underlying34 Tryd.underlying5 0 c 9 Tryd.underlying9
    | some ad => exact run_convert_bytes_back W 34 9 5 ad c [] Tryd.underlying34 Tryd.underlying5 Tryd.underlying9 (fun j hj => absurd hj (by simp))
  | cons x t =>
    obtain ⟨ad, rfl, _, _⟩ := h 0 x rfl
    refine run_convert_bytes_back W 34 9 5 ad c (x :: t) Tryd.underlying34 Tryd.underlying5 Tryd.underlying9 ?_
    intro j hj
    obtain ⟨a2, e, _, hc⟩ := h j _ (List.getElem?_eq_getElem hj)
    injection e with e
    subst e
    exact hc
end Go.Proofs.YtokkmofcijfmiaaDoor
