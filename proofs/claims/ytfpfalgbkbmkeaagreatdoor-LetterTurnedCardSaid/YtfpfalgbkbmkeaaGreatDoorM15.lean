/-
  WHAT IS PROVED: plain facts on the sum CRC-32C: it is told by exclusive or on numbers below 2^32; bytes of one length that differ in one byte have different sums. No program. No condition. · the document's sum (spinneyref06.bit, turned, Sum) is crcL, for every slice of bytes. Conditions: those typed in each theorem. · the document's frame of a kind and bytes (spinneyref06.Seal) is sealL. Conditions: those typed in the theorem. · the document's taking of a frame from bytes (spinneyref06.Take) is takeF. Conditions: those typed in the theorem. · plain facts: four bits of the sum CRC-32C at once, by a table of sixteen numbers; the sixteen numbers. No program is spoken of. · plain facts: what frames one behind the other are of (a relation, and that it tells its answers); frames that were sealed, one behind the other, the last one torn or whole. · words for slices of pieces (own work): a slice that reads as a list of pieces (a kind, and bytes), nil let in; such a row that the call owns; append of one piece onto it. Over any program that bears the types named. · the document's opening of a frame (spinneyref06.Open) is openF; as definitions, what the walks of layer 6's statements take of package frame's calls (they are proved elsewhere, of the code itself); the chapter's examples hold, if the calls answer so.
-/
import GoSem.Claim
import Derived.Test.YtfpfalgbkbmkeaaGreatDoorM0
import Derived.Test.YtfpfalgbkbmkeaaGreatDoorM3
import Derived.Test.YtfpfalgbkbmkeaaGreatDoorM1
import Derived.Deep.RegionHeld3
import Derived.BigRegion
import Derived.IntWalk
import Derived.Stop.LaidErr
import Derived.Lib.SmallJoins
namespace Go.Proofs.YtfpfalgbkbmkeaaGreatDoor

theorem xor_lt {a b : Nat} (h : a < 4294967296) (k : b < 4294967296) : a ^^^ b < 4294967296 := Nat.xor_lt_two_pow (n := 32) h k
/-- One bit. -/
def crcStep (c : Nat) : Nat := if c % 2 = 1 then (c / 2) ^^^ 2197175160 else c / 2
theorem crcStep_lt {c : Nat} (h : c < 4294967296) : crcStep c < 4294967296 := by
  unfold crcStep
  split
  · exact xor_lt (by omega) (by omega)
  · omega
theorem top_set {d : Nat} (h : d < 2147483648) : 2147483648 ≤ d ^^^ 2197175160 := by
  have h1 : (d ^^^ 2197175160).testBit 31 = true := by
    rw [Nat.testBit_xor, Nat.testBit_lt_two_pow (show d < 2 ^ 31 from h)]
    decide
  refine Nat.le_of_not_lt fun h2 => ?_
  have h3 := Nat.testBit_lt_two_pow (i := 31) (show d ^^^ 2197175160 < 2 ^ 31 from h2)
  rw [h1] at h3
  cases h3
theorem xor_cancel_right {a b c : Nat} (h : a ^^^ c = b ^^^ c) : a = b := by
  have := congrArg (· ^^^ c) h
  simpa [Nat.xor_assoc] using this
theorem xor_cancel_left {a b c : Nat} (h : c ^^^ a = c ^^^ b) : a = b := by
  rw [Nat.xor_comm c a, Nat.xor_comm c b] at h
  exact xor_cancel_right h
theorem crcStep_inj {c d : Nat} (hc : c < 4294967296) (hd : d < 4294967296) (h : crcStep c = crcStep d) : c = d := by
  unfold crcStep at h
  by_cases h1 : c % 2 = 1
  · rw [if_pos h1] at h
    by_cases h2 : d % 2 = 1
    · rw [if_pos h2] at h
      have := xor_cancel_right h
      omega
    · rw [if_neg h2] at h
      have := top_set (d := c / 2) (by omega)
      omega
  · rw [if_neg h1] at h
    by_cases h2 : d % 2 = 1
    · rw [if_pos h2] at h
      have := top_set (d := d / 2) (by omega)
      omega
    · rw [if_neg h2] at h
      omega
/-- So many bits. -/
def crcSteps : Nat → Nat → Nat
  | 0, c => c
  | k + 1, c => crcSteps k (crcStep c)
theorem crcSteps_succ : ∀ (k c : Nat), crcSteps (k + 1) c = crcStep (crcSteps k c)
  | 0, _ => rfl
  | k + 1, c => by
    show crcSteps (k + 1) (crcStep c) = _
    rw [crcSteps_succ k (crcStep c)]
    rfl
theorem crcSteps_lt : ∀ (k : Nat) {c : Nat}, c < 4294967296 → crcSteps k c < 4294967296
  | 0, _, h => h
  | k + 1, _, h => crcSteps_lt k (crcStep_lt h)
theorem crcSteps_inj : ∀ (k : Nat) {c d : Nat}, c < 4294967296 → d < 4294967296 → crcSteps k c = crcSteps k d → c = d
  | 0, _, _, _, _, h => h
  | k + 1, _, _, hc, hd, h => crcStep_inj hc hd (crcSteps_inj k (crcStep_lt hc) (crcStep_lt hd) h)
/-- One byte. -/
def crcByte (c : Nat) (b : UInt8) : Nat := crcSteps 8 (c ^^^ b.toNat)
theorem byte_lt (b : UInt8) : b.toNat < 4294967296 := Nat.lt_trans b.toNat_lt (by decide)
theorem crcByte_lt {c : Nat} (h : c < 4294967296) (b : UInt8) : crcByte c b < 4294967296 := crcSteps_lt 8 (xor_lt h (byte_lt b))
theorem crcByte_inj {c d : Nat} {b : UInt8} (hc : c < 4294967296) (hd : d < 4294967296) (h : crcByte c b = crcByte d b) : c = d :=
  xor_cancel_right (crcSteps_inj 8 (xor_lt hc (byte_lt b)) (xor_lt hd (byte_lt b)) h)
theorem crcByte_inj2 {c : Nat} {b b' : UInt8} (hc : c < 4294967296) (h : crcByte c b = crcByte c b') : b = b' :=
  UInt8.toNat_inj.1 (xor_cancel_left (crcSteps_inj 8 (xor_lt hc (byte_lt b)) (xor_lt hc (byte_lt b')) h))
/-- Where the bytes lead. -/
def crcTo (c : Nat) (l : List UInt8) : Nat := l.foldl crcByte c
theorem crcTo_snoc (c : Nat) (l : List UInt8) (b : UInt8) : crcTo c (l ++ [b]) = crcByte (crcTo c l) b := by simp [crcTo]
theorem crcTo_lt : ∀ (l : List UInt8) {c : Nat}, c < 4294967296 → crcTo c l < 4294967296
  | [], _, h => h
  | b :: t, _, h => crcTo_lt t (crcByte_lt h b)
theorem crcTo_inj : ∀ (l : List UInt8) {c d : Nat}, c < 4294967296 → d < 4294967296 → crcTo c l = crcTo d l → c = d
  | [], _, _, _, _, h => h
  | b :: t, _, _, hc, hd, h => crcByte_inj hc hd (crcTo_inj t (crcByte_lt hc b) (crcByte_lt hd b) h)
/-- The sum. -/
def crcL (l : List UInt8) : Nat := 4294967295 - crcTo 4294967295 l
theorem crcL_lt (l : List UInt8) : crcL l < 4294967296 := by unfold crcL; omega
/-- Two rows that differ in one byte have different sums. -/
theorem crcL_one {l r : List UInt8} {b b' : UInt8} (h : crcL (l ++ b :: r) = crcL (l ++ b' :: r)) : b = b' := by
  unfold crcL at h
  have h1 := crcTo_lt (l ++ b :: r) (c := 4294967295) (by decide)
  have h2 := crcTo_lt (l ++ b' :: r) (c := 4294967295) (by decide)
  have h3 : crcTo 4294967295 (l ++ b :: r) = crcTo 4294967295 (l ++ b' :: r) := by omega
  have e : ∀ x : UInt8, crcTo 4294967295 (l ++ x :: r) = crcTo (crcByte (crcTo 4294967295 l) x) r := fun x => by simp [crcTo]
  have hl := crcTo_lt l (c := 4294967295) (by decide)
  rw [e, e] at h3
  exact crcByte_inj2 hl (crcTo_inj r (crcByte_lt hl b) (crcByte_lt hl b') h3)
/-- Exclusive or, bit by bit from below. -/
theorem xor_bits (a b i : Nat) : (a ^^^ b) % 2 ^ (i + 1) = (a ^^^ b) % 2 ^ i + (if (a / 2 ^ i % 2 == 1) != (b / 2 ^ i % 2 == 1) then 2 ^ i else 0) := by
  have h1 : (a ^^^ b) % 2 ^ (i + 1) = (a ^^^ b) % 2 ^ i + 2 ^ i * ((a ^^^ b) / 2 ^ i % 2) := by
    rw [Nat.pow_succ, Nat.mod_mul]
  rw [h1]
  congr 1
  have ht : ((a ^^^ b).testBit i) = ((a.testBit i) != (b.testBit i)) := Nat.testBit_xor a b i
  rw [Nat.testBit_eq_decide_div_mod_eq, Nat.testBit_eq_decide_div_mod_eq, Nat.testBit_eq_decide_div_mod_eq] at ht
  have e : ∀ n : Nat, decide (n % 2 = 1) = (n % 2 == 1) := fun n => by rw [Bool.eq_iff_iff]; simp
  rw [e, e, e] at ht
  rw [← ht]
  have h2 : (a ^^^ b) / 2 ^ i % 2 = 0 ∨ (a ^^^ b) / 2 ^ i % 2 = 1 := by omega
  rcases h2 with h | h <;> simp [h]
end Go.Proofs.YtfpfalgbkbmkeaaGreatDoor

namespace Go.Proofs.YtfpfalgbkbmkeaaGreatDoor
open Go.RowKit

set_option maxHeartbeats 1000000 in
theorem bit_is (n : Nat) (b : Bool) (hb : (n % 2 == 1) = b) (w : World) :
    Calls Tryz.prog 169 #[.int .u64 n, .int .i64 0] w fun e w' => e = .returned (.bool b) ∧ w = w' := by
  go_enter Tryz.func169, Tryz.ntmps169
  go_wp2_with fail
  go_loopw [0, 1] (fun x p wr => x = .int .u64 n ∧ p = .int .i64 0 ∧ w = wr) (fun _ _ _ => 0)
  case atStart => exact ⟨rfl, rfl, rfl⟩
  case round =>
    obtain ⟨rfl, rfl, rfl⟩ := hrel
    go_wp2_with fail
    go_ret
    exact ⟨ret_bool (by rw [← hb, Bool.eq_iff_iff, beq_iff_eq, beq_iff_eq]; omega), by first | rfl | trivial⟩
set_option maxRecDepth 100000 in
set_option maxHeartbeats 4000000 in
theorem turned_any (a b : Nat) (ha : a < 4294967296) (hb : b < 4294967296) (w : World) :
    Calls Tryz.prog 114 #[.int .u64 a, .int .u64 b] w fun e w' => e = .returned (.int .u64 ((a ^^^ b : Nat) : Int)) ∧ w = w' := by
  have HA := Lib.hid ha
  have HB := Lib.hid hb
  clear ha hb
  go_enter Tryz.func114, Tryz.ntmps114
  go_wp2_with fail
  go_loopw [0, 1, 5, 6, 7] (fun x y o p i wr => ∃ (k x' y' o' p' : Nat), k ≤ 32 ∧ x = .int .u64 x' ∧ y = .int .u64 y' ∧ o = .int .u64 o' ∧ p = .int .u64 p' ∧ i = .int .i64 k ∧ Hid (x' = a / 2 ^ k ∧ y' = b / 2 ^ k ∧ o' = (a ^^^ b) % 2 ^ k ∧ p' = 2 ^ k) ∧ o' < p' ∧ p' ≤ 4294967296 ∧ w = wr) (fun _ _ _ _ i _ => 32 - (intOf i).toNat)
  case atStart => exact ⟨0, a, b, 0, 1, by omega, rfl, rfl, rfl, rfl, rfl, ⟨by simp, by simp, by simp [Nat.mod_one], rfl⟩, by omega, by omega, rfl⟩
  case round =>
    obtain ⟨k, x', y', o', p', hk, rfl, rfl, rfl, rfl, rfl, hE, ho, hp, rfl⟩ := hrel
    by_cases hlt : k < 32
    · have i1 : (k : Int) < 32 := by omega
      have hx : x' < 4294967296 := by rw [hE.out.1]; exact Nat.lt_of_le_of_lt (Nat.div_le_self _ _) HA.out
      have hy : y' < 4294967296 := by rw [hE.out.2.1]; exact Nat.lt_of_le_of_lt (Nat.div_le_self _ _) HB.out
      have hpk : p' ≤ 2147483648 := by
        rw [hE.out.2.2.2]
        exact Nat.pow_le_pow_right (n := 2) (by omega) (show k ≤ 31 by omega)
      have hxb := xor_bits a b k
      rw [← hE.out.1, ← hE.out.2.1, ← hE.out.2.2.1, ← hE.out.2.2.2] at hxb
      have hE2 : ∀ o2, o2 = (a ^^^ b) % 2 ^ (k + 1) → Hid (x' / 2 = a / 2 ^ (k + 1) ∧ y' / 2 = b / 2 ^ (k + 1) ∧ o2 = (a ^^^ b) % 2 ^ (k + 1) ∧ p' * 2 = 2 ^ (k + 1)) := fun o2 h => by
        refine ⟨?_, ?_, h, ?_⟩
        · rw [hE.out.1, Nat.div_div_eq_div_mul, Nat.pow_succ]
        · rw [hE.out.2.1, Nat.div_div_eq_div_mul, Nat.pow_succ]
        · rw [hE.out.2.2.2, Nat.pow_succ]
      have HE2 := Lib.hid hE2
      have E1 : Hid (((x' : Int) / 2) = ((x' / 2 : Nat) : Int)) := by show _ = _; omega
      have E2 : Hid (((y' : Int) / 2) = ((y' / 2 : Nat) : Int)) := by show _ = _; omega
      have E3 : Hid (((p' : Int) * 2) = ((p' * 2 : Nat) : Int)) := by show _ = _; omega
      have E4 : Hid (((o' : Int) + (p' : Int)) = ((o' + p' : Nat) : Int)) := by show _ = _; omega
      clear hE hE2
      obtain ⟨bx, hbx⟩ : ∃ q, (x' % 2 == 1) = q := ⟨_, rfl⟩
      obtain ⟨by', hby⟩ : ∃ q, (y' % 2 == 1) = q := ⟨_, rfl⟩
      rw [hbx, hby] at hxb
      have FX := Lib.hid (fun w => bit_is x' bx hbx w)
      have FY := Lib.hid (fun w => bit_is y' by' hby w)
      clear hbx hby
      go_wp2_with fail
      refine (FX.out _).mono ?_
      rintro e w2 ⟨rfl, rfl⟩
      go_wp2_with fail
      refine (FY.out _).mono ?_
      rintro e w3 ⟨rfl, rfl⟩
      cases bx with
      | true => cases by' with
        | true =>
          rw [if_neg (by decide), Nat.add_zero] at hxb
          have HE3 := HE2.out _ hxb.symm
          clear HE2 hxb FX FY
          go_wp2_with fail
          go_roundw
          case rel => exact ⟨k + 1, x' / 2, y' / 2, o', p' * 2, by omega, by rw [E1.out], by rw [E2.out], by first | rfl | rw [E4.out], by rw [E3.out], by go_num, HE3, by omega, by omega, by first | rfl | trivial⟩
          case measure => simp [intOf]; omega
        | false =>
          rw [if_pos (by decide)] at hxb
          have HE3 := HE2.out _ hxb.symm
          clear HE2 hxb FX FY
          go_wp2_with fail
          go_roundw
          case rel => exact ⟨k + 1, x' / 2, y' / 2, o' + p', p' * 2, by omega, by rw [E1.out], by rw [E2.out], by first | rfl | rw [E4.out], by rw [E3.out], by go_num, HE3, by omega, by omega, by first | rfl | trivial⟩
          case measure => simp [intOf]; omega
      | false => cases by' with
        | true =>
          rw [if_pos (by decide)] at hxb
          have HE3 := HE2.out _ hxb.symm
          clear HE2 hxb FX FY
          go_wp2_with fail
          go_roundw
          case rel => exact ⟨k + 1, x' / 2, y' / 2, o' + p', p' * 2, by omega, by rw [E1.out], by rw [E2.out], by first | rfl | rw [E4.out], by rw [E3.out], by go_num, HE3, by omega, by omega, by first | rfl | trivial⟩
          case measure => simp [intOf]; omega
        | false =>
          rw [if_neg (by decide), Nat.add_zero] at hxb
          have HE3 := HE2.out _ hxb.symm
          clear HE2 hxb FX FY
          go_wp2_with fail
          go_roundw
          case rel => exact ⟨k + 1, x' / 2, y' / 2, o', p' * 2, by omega, by rw [E1.out], by rw [E2.out], by first | rfl | rw [E4.out], by rw [E3.out], by go_num, HE3, by omega, by omega, by first | rfl | trivial⟩
          case measure => simp [intOf]; omega
    · have hq : ¬ (k : Int) < 32 := by omega
      have e : k = 32 := by omega
      subst e
      have R : Hid ((o' : Int) = ((a ^^^ b : Nat) : Int)) := by
        show _ = _
        rw [hE.out.2.2.1, Nat.mod_eq_of_lt (xor_lt HA.out HB.out)]
      clear hE
      go_wp2_with fail
      go_ret
      exact ⟨by rw [R.out]; rfl, by first | rfl | trivial⟩

theorem turned_is (a b r : Nat) (hr : a ^^^ b = r) (ha : a < 4294967296) (hb : b < 4294967296) (w : World) :
    Calls Tryz.prog 114 #[.int .u64 a, .int .u64 b] w fun e w' => e = .returned (.int .u64 (r : Nat)) ∧ w = w' := by
  subst hr
  exact turned_any a b ha hb w
set_option maxRecDepth 100000 in
set_option maxHeartbeats 4000000 in
theorem refSum_any {B : Nat} (A : Option Addr) (n c : Nat) (l : List UInt8) (w : World) (hn : l.length = n) (hr : RdB B w A l) (hm : n ≤ 1000000000) :
    Calls Tryz.prog 60 #[.slice A n c] w fun e w' => e = .returned (.int .u32 (crcL l : Nat)) ∧ w = w' := by
  have HN := Lib.hid hn
  clear hn
  go_enter Tryz.func60, Tryz.ntmps60
  go_wp2_with fail
  go_loopw [3, 9] (fun x i wr => ∃ (k s : Nat), k ≤ n ∧ x = .int .u64 s ∧ i = .int .i64 k ∧ Hid (s = crcTo 4294967295 (l.take k)) ∧ s < 4294967296 ∧ w = wr) (fun _ i _ => n - (intOf i).toNat)
  case atStart => exact ⟨0, 4294967295, Nat.zero_le _, rfl, rfl, rfl, by omega, rfl⟩
  case round =>
    obtain ⟨k, s, hk, rfl, rfl, hS, hs, rfl⟩ := hrel
    by_cases hlt : k < n
    · obtain ⟨ad, rfl, _, hc⟩ := hr.at_ (show k < l.length by have := HN.out; omega)
      have i1 : (0 : Int) ≤ (k : Int) := by omega
      have i2 : (k : Int) < (n : Int) := by omega
      have hlk : k < l.length := by have := HN.out; omega
      have HX : Hid (l.take (k + 1) = l.take k ++ [l[k]]) := List.take_succ_eq_append_getElem hlk
      generalize l[k] = x at hc HX
      have hx := byte_lt x
      have hx2 := xor_lt hs hx
      have HS2 : Hid (crcSteps 8 (s ^^^ x.toNat) = crcTo 4294967295 (l.take (k + 1))) := by
        show _ = _
        rw [HX.out, crcTo_snoc, ← hS.out]
        rfl
      have hbx := x.toNat_lt
      have FT := Lib.hid (fun w => turned_is s x.toNat (s ^^^ x.toNat) rfl hs hx w)
      generalize s ^^^ x.toNat = s0 at hx2 HS2 FT
      clear hS HX hx
      go_wp2_with fail
      refine (FT.out _).mono ?_
      rintro e w2 ⟨rfl, rfl⟩
      clear FT
      go_wp2_with fail
      go_loopw [3, 5] (fun y i wr => ∃ (j r : Nat), j ≤ 8 ∧ y = .int .u64 r ∧ i = .int .i64 j ∧ Hid (r = crcSteps j s0) ∧ r < 4294967296 ∧ w = wr) (fun _ i _ => 8 - (intOf i).toNat)
      case atStart => exact ⟨0, s0, by omega, rfl, rfl, rfl, hx2, rfl⟩
      case round =>
        obtain ⟨j, r, hj, rfl, rfl, hR, hrl, rfl⟩ := hrel
        by_cases hjt : j < 8
        · have j1 : (j : Int) < 8 := by omega
          have hst := crcSteps_succ j s0
          rw [← hR.out] at hst
          have E1 : Hid (((r : Int) / 2) = ((r / 2 : Nat) : Int)) := by show _ = _; omega
          by_cases hp : r % 2 = 1
          · have t1 : ((r : Int) % 2 == 1) = true := by rw [beq_iff_eq]; omega
            have HST : Hid (crcSteps (j + 1) s0 = (r / 2) ^^^ 2197175160) := by
              show _ = _
              rw [hst]
              unfold crcStep
              rw [if_pos hp]
            have hl2 : (r / 2) ^^^ 2197175160 < 4294967296 := xor_lt (by omega) (by omega)
            have FT := Lib.hid (fun w => turned_is (r / 2) 2197175160 ((r / 2) ^^^ 2197175160) rfl (by omega) (by omega) w)
            generalize (r / 2) ^^^ 2197175160 = r2 at HST hl2 FT
            rw [← E1.out] at FT
            clear hst hR hp
            go_wp2_with fail
            refine (FT.out _).mono ?_
            rintro e w3 ⟨rfl, rfl⟩
            clear FT
            go_wp2_with fail
            go_roundw
            case rel => exact ⟨j + 1, r2, by omega, rfl, by go_num, HST.out.symm, hl2, by first | rfl | trivial⟩
            case measure => simp [intOf]; omega
          · have t1 : ((r : Int) % 2 == 1) = false := by rw [beq_eq_false_iff_ne]; omega
            have HST : Hid (crcSteps (j + 1) s0 = r / 2) := by
              show _ = _
              rw [hst]
              unfold crcStep
              rw [if_neg hp]
            clear hst hR hp
            go_wp2_with fail
            go_roundw
            case rel => exact ⟨j + 1, r / 2, by omega, by rw [E1.out], by go_num, HST.out.symm, by omega, by first | rfl | trivial⟩
            case measure => simp [intOf]; omega
        · have hq : ¬ (j : Int) < 8 := by omega
          have e8 : j = 8 := by omega
          subst e8
          have HR : Hid (r = crcTo 4294967295 (l.take (k + 1))) := hR.out.trans HS2.out
          clear hR HS2
          go_wp2_with fail
          go_roundw
          case rel => exact ⟨k + 1, r, by omega, rfl, by go_num, HR, hrl, by first | rfl | trivial⟩
          case measure => simp [intOf]; omega
    · have hq : ¬ (k : Int) < (n : Int) := by omega
      have R : Hid (((4294967295 : Int) - (s : Int)) = ((crcL l : Nat) : Int)) := by
        show _ = _
        unfold crcL
        rw [hS.out, List.take_of_length_le (by have := HN.out; omega)]
        have := crcTo_lt l (c := 4294967295) (by omega)
        omega
      clear hS
      go_wp2_with fail
      go_ret
      exact ⟨by rw [← R.out]; rfl, by first | rfl | trivial⟩
end Go.Proofs.YtfpfalgbkbmkeaaGreatDoor

namespace Go.Proofs.YtfpfalgbkbmkeaaGreatDoor
open Go.RowKit

/-- Four bytes of a number, the highest first. -/
def fourB (c : Nat) : List UInt8 := [UInt8.ofNat (c / 16777216), UInt8.ofNat (c / 65536 % 256), UInt8.ofNat (c / 256 % 256), UInt8.ofNat (c % 256)]
/-- A frame ahead of its sum. -/
def bodyL (k : UInt8) (l : List UInt8) : List UInt8 := [229, k, UInt8.ofNat (l.length / 65536), UInt8.ofNat (l.length / 256 % 256), UInt8.ofNat (l.length % 256)] ++ l
/-- A frame. -/
def sealL (k : UInt8) (l : List UInt8) : List UInt8 := bodyL k l ++ fourB (crcL (bodyL k l))
theorem bodyL_len (k : UInt8) (l : List UInt8) : (bodyL k l).length = 5 + l.length := by simp [bodyL]; omega
theorem sealL_len (k : UInt8) (l : List UInt8) : (sealL k l).length = 9 + l.length := by simp [sealL, bodyL_len, fourB]; omega
theorem of_small {x : Nat} (h : x < 256) : ((UInt8.ofNat x).toNat : Int) = (x : Int) := by
  rw [UInt8.toNat_ofNat']
  omega

set_option maxRecDepth 100000 in
set_option maxHeartbeats 4000000 in
theorem refSeal_any {B : Nat} (k : UInt8) (A : Option Addr) (n c : Nat) (l : List UInt8) (w : World) (hn : l.length = n) (hr : RdB B w A l) (hB : B ≤ w.heap.size) (hm : n ≤ 100000) :
    Calls Tryz.prog 20 #[.int .u8 (k.toNat : Int), .slice A n c] w fun e w' => (∃ (A' : Option Addr) (c' : Nat), e = .returned (.tuple #[.slice A' (n + 9) c', .bool true]) ∧ OwnB w.heap.size w' A' (n + 9) c' (sealL k l)) ∧ Below w.heap.size w w' := by
  obtain ⟨i0, hi0, hz0, hz1, hz2⟩ := info_parts byt_info
  have HN := Lib.hid hn
  have g1 : (n : Int) ≤ 100000 := by omega
  have hk := k.toNat_lt
  clear hn
  go_enter Tryz.func20, Tryz.ntmps20
  have hl5 : #[Value.int .u8 229, .int .u8 (k.toNat : Int), .int .u8 ((n : Int) / 65536), .int .u8 ((n : Int) / 256 % 256), .int .u8 ((n : Int) % 256)].toList = bytV [229, k, UInt8.ofNat (n / 65536), UInt8.ofNat (n / 256 % 256), UInt8.ofNat (n % 256)] := by
    dsimp only [bytV, List.map]
    rw [of_small (x := n / 65536) (by omega), of_small (x := n / 256 % 256) (by omega), of_small (x := n % 256) (by omega)]
    rfl
  have hown := OwnB.lit w (base := w.heap.size) _ _ hl5 (n := 5) rfl (Nat.le_refl _) (by unfold maxLen; omega)
  have hrd := hr.keep (b0 w (.cells #[.int .u8 229, .int .u8 (k.toNat : Int), .int .u8 ((n : Int) / 65536), .int .u8 ((n : Int) / 256 % 256), .int .u8 ((n : Int) % 256)] 5)) hB
  have hB0 := b0 w (.cells #[.int .u8 229, .int .u8 (k.toNat : Int), .int .u8 ((n : Int) / 65536), .int .u8 ((n : Int) / 256 % 256), .int .u8 ((n : Int) % 256)] 5)
  have HBY : Hid ([229, k, UInt8.ofNat (n / 65536), UInt8.ofNat (n / 256 % 256), UInt8.ofNat (n % 256)] ++ l = bodyL k l) := by show _ = _; unfold bodyL; rw [HN.out]
  clear hl5
  go_wp2_with (at_builtin; refine wpList_apB (base := w.heap.size) (n := 5) (m := n) (l := [229, k, UInt8.ofNat (n / 65536), UInt8.ofNat (n / 256 % 256), UInt8.ofNat (n % 256)]) (l2 := l) (by rfl) _ _ (by rfl) Tryz.underlying33 Tryz.underlying33 hi0 hz0 hz1 hz2 (by rfl) (by rfl) hown hrd HN.out (n + 5) (by omega) (by omega) (by simp) ?_; intro A5 c5 w5 hO5 hb5 hg5)
  rw [HBY.out] at hO5
  have hB5 := hB0.trans hb5
  clear hown hrd hg5 HBY hb5
  refine (refSum_any A5 (n + 5) c5 (bodyL k l) w5 hO5.len hO5.rd (by omega)).mono ?_
  rintro e w6 ⟨rfl, rfl⟩
  have hcs := crcL_lt (bodyL k l)
  generalize hcc : crcL (bodyL k l) = cs at hcs ⊢
  have HCC := Lib.hid hcc
  clear hcc
  have hcs' : (cs : Int) < 4294967296 := by omega
  have hl4 : #[Value.int .u8 ((cs : Int) / 16777216), .int .u8 ((cs : Int) / 65536 % 256), .int .u8 ((cs : Int) / 256 % 256), .int .u8 ((cs : Int) % 256)].toList = bytV (fourB cs) := by
    dsimp only [fourB, bytV, List.map]
    rw [of_small (x := cs / 16777216) (by omega), of_small (x := cs / 65536 % 256) (by omega), of_small (x := cs / 256 % 256) (by omega), of_small (x := cs % 256) (by omega)]
    rfl
  have hown4 := OwnB.lit w5 (base := w5.heap.size) _ _ hl4 (n := 4) rfl (Nat.le_refl _) (by unfold maxLen; omega)
  have hO6 := hO5.keep (b0 w5 (.cells #[.int .u8 ((cs : Int) / 16777216), .int .u8 ((cs : Int) / 65536 % 256), .int .u8 ((cs : Int) / 256 % 256), .int .u8 ((cs : Int) % 256)] 5))
  have hz5 := hB5.size
  have hB6 := hB5.alloc hz5 (.cells #[.int .u8 ((cs : Int) / 16777216), .int .u8 ((cs : Int) / 65536 % 256), .int .u8 ((cs : Int) / 256 % 256), .int .u8 ((cs : Int) % 256)] 5)
  clear hl4 hO5
  go_wp2_with (at_builtin; refine wpList_apB (base := w.heap.size) (n := n + 5) (m := 4) (l := bodyL k l) (l2 := fourB cs) (by rfl) _ _ (by rfl) Tryz.underlying33 Tryz.underlying33 hi0 hz0 hz1 hz2 (by rfl) (by rfl) hO6 hown4.rd rfl (n + 9) (by omega) (by omega) (by simp; omega) ?_; intro A7 c7 w7 hO7 hb7 hg7)
  go_ret2
  refine ⟨⟨A7, c7, rfl, ?_⟩, hB6.trans hb7⟩
  unfold sealL
  rw [HCC.out]
  exact hO7
end Go.Proofs.YtfpfalgbkbmkeaaGreatDoor

namespace Go.Proofs.YtfpfalgbkbmkeaaGreatDoor
open Go.RowKit

def byteAt (b : List UInt8) (i : Nat) : UInt8 := b.getD i 0
/-- How many bytes are inside, by the beginning. -/
def lenF (b : List UInt8) : Nat := 65536 * (byteAt b 2).toNat + 256 * (byteAt b 3).toNat + (byteAt b 4).toNat
/-- The kind, the inside, how long, the error. -/
def takeF (b : List UInt8) : UInt8 × List UInt8 × Nat × Nat :=
  if b.length < 9 ∨ byteAt b 0 ≠ 229 then (0, [], 0, 2)
  else if 100000 < lenF b ∨ b.length < lenF b + 9 then (0, [], 0, 2)
  else if sealL (byteAt b 1) ((b.drop 5).take (lenF b)) ≠ b.take (lenF b + 9) then (0, [], lenF b + 9, 4)
  else (byteAt b 1, (b.drop 5).take (lenF b), lenF b + 9, 0)
/-- What Take answers. -/
def TakeFP (B : Nat) (r : UInt8 × List UInt8 × Nat × Nat) (w : World) (e : Ending) (w' : World) : Prop :=
  (∃ (A : Option Addr) (c : Nat), e = .returned (.tuple #[.int .u8 (r.1.toNat : Int), .slice A r.2.1.length c, .int .i64 (r.2.2.1 : Nat), .int .i64 (r.2.2.2 : Nat)]) ∧ RdB B w' A r.2.1) ∧ Below w.heap.size w w'
theorem byteAt_get {b : List UInt8} {i : Nat} (h : i < b.length) : b[i]? = some (byteAt b i) := by
  unfold byteAt
  rw [List.getD_eq_getElem?_getD, List.getElem?_eq_getElem h]
  rfl
theorem five {B : Nat} {w : World} {A : Option Addr} {b : List UInt8} (hr : RdB B w A b) (h : 5 ≤ b.length) : ∃ ad, A = some ad ∧ ad.block < B ∧ w.cell? ad = some (.int .u8 ((byteAt b 0).toNat : Int)) ∧ w.cell? ⟨ad.block, ad.off + 1, none⟩ = some (.int .u8 ((byteAt b 1).toNat : Int)) ∧
    w.cell? ⟨ad.block, ad.off + 2, none⟩ = some (.int .u8 ((byteAt b 2).toNat : Int)) ∧ w.cell? ⟨ad.block, ad.off + 3, none⟩ = some (.int .u8 ((byteAt b 3).toNat : Int)) ∧ w.cell? ⟨ad.block, ad.off + 4, none⟩ = some (.int .u8 ((byteAt b 4).toNat : Int)) := by
  obtain ⟨ad, rfl, hbl, c0⟩ := hr 0 _ (byteAt_get (by omega))
  have g : ∀ i, i < 5 → w.cell? (ad.add i) = some (.int .u8 ((byteAt b i).toNat : Int)) := fun i hi => by
    obtain ⟨a2, e, _, c⟩ := hr i _ (byteAt_get (by omega))
    injection e with e
    subst e
    exact c
  refine ⟨ad, rfl, hbl, ?_, g 1 (by omega), g 2 (by omega), g 3 (by omega), g 4 (by omega)⟩
  have := g 0 (by omega)
  simpa [Addr.add] using this

theorem results_tmp4 {fn : Func} {t u v x : Tmp} (h : fn.results = #[.tmp t, .tmp u, .tmp v, .tmp x]) (tmps : Array Value) (P : Program) (w : World) :
    (results fn tmps).run P w = .ok (.tuple #[tmps.getD t undef, tmps.getD u undef, tmps.getD v undef, tmps.getD x undef]) w := by
  simp [results, h]
theorem sealF_is {B : Nat} (k : UInt8) (A : Option Addr) (n c : Nat) (l : List UInt8) (w : World) (hn : l.length = n) (hr : RdB B w A l) (hB : B ≤ w.heap.size) (hm : n ≤ 100000) :
    Calls Tryz.prog 20 #[.int .u8 (k.toNat : Int), .slice A n c] w fun e w' => (∃ (A' : Option Addr) (c' : Nat), e = .returned (.tuple #[.slice A' (n + 9) c', .bool true]) ∧ RdB w'.heap.size w' A' (sealL k l) ∧ (sealL k l).length = n + 9) ∧ Below w.heap.size w w' :=
  (refSeal_any k A n c l w hn hr hB hm).mono fun _ _ ⟨⟨A', c', he, hO⟩, hb⟩ => ⟨⟨A', c', he, hO.rd, hO.len⟩, hb⟩

set_option maxRecDepth 100000 in
set_option maxHeartbeats 8000000 in
theorem refTakeF_any {B : Nat} (A : Option Addr) (n c : Nat) (b : List UInt8) (w : World) (hn : b.length = n) (hr : RdB B w A b) (hB : B ≤ w.heap.size) (hc : n ≤ c) (hm : n ≤ 1000000000) :
    Calls Tryz.prog 93 #[.slice A n c] w fun e w' => TakeFP B (takeF b) w e w' := by
  have HN := Lib.hid hn
  have gm : (n : Int) ≤ 1000000000 := by omega
  by_cases h9 : n < 9
  · have g9 : (n : Int) < 9 := by omega
    have R : Hid (takeF b = (0, [], 0, 2)) := by show _ = _; unfold takeF; rw [if_pos (Or.inl (by omega))]
    clear hn
    go_enter Tryz.func93, Tryz.ntmps93
    go_wp2_with fail
    (try simp only [Exit.inBlock, Exit.then])
    refine bodyPost_ret (results_tmp4 rfl _ _ _) rfl ?_
    rw [R.out]
    exact ⟨⟨none, 0, rfl, RdB.nil _ _ _⟩, Below.refl _ _⟩
  · have g9 : ¬ (n : Int) < 9 := by omega
    obtain ⟨ad, rfl, hbl, c0, c1, c2, c3, c4⟩ := five hr (by omega)
    have b0' := (byteAt b 0).toNat_lt
    have b1' := (byteAt b 1).toNat_lt
    have b2' := (byteAt b 2).toNat_lt
    have b3' := (byteAt b 3).toNat_lt
    have b4' := (byteAt b 4).toNat_lt
    by_cases h0 : byteAt b 0 = 229
    · have e0 : (((byteAt b 0).toNat : Int) != 229) = false := by rw [h0]; rfl
      have e0' : (((byteAt b 0).toNat : Int) == 229) = true := by rw [h0]; rfl
      have HL : Hid (lenF b = 65536 * (byteAt b 2).toNat + 256 * (byteAt b 3).toNat + (byteAt b 4).toNat) := rfl
      have hs : (65536 * ((byteAt b 2).toNat : Int) + 256 * ((byteAt b 3).toNat : Int) + ((byteAt b 4).toNat : Int)) = (lenF b : Nat) := by rw [HL.out]; omega
      have HS := Lib.hid hs
      have H0 := Lib.hid h0
      clear hs h0 hn
      go_enter Tryz.func93, Tryz.ntmps93
      go_wp2_with fail
      go_region
      rw [HS.out]
      have hdw : ∀ A' l', RdB B w A' l' → RdB B w.drew A' l' := fun _ _ h => h
      generalize hLL : lenF b = N
      have HLL := Lib.hid hLL
      clear HS HL hLL
      by_cases hbig : 100000 < N
      · have g1 : (100000 : Int) < (N : Int) := by omega
        have R : Hid (takeF b = (0, [], 0, 2)) := by
          show _ = _
          unfold takeF
          rw [if_neg (by rw [H0.out, HN.out]; simp; omega), if_pos (Or.inl (by rw [HLL.out]; exact hbig))]
        go_wp2_with fail
        (try simp only [Exit.inBlock, Exit.then])
        refine bodyPost_ret (results_tmp4 rfl _ _ _) rfl ?_
        rw [R.out]
        exact ⟨⟨none, 0, rfl, RdB.nil _ _ _⟩, (Below.refl _ _).drew⟩
      · have g1 : ¬ (100000 : Int) < (N : Int) := by omega
        have g1' : (N : Int) ≤ 100000 := by omega
        by_cases hlong : n < N + 9
        · have g2 : (n : Int) < (N : Int) + 9 := by omega
          have R : Hid (takeF b = (0, [], 0, 2)) := by
            show _ = _
            unfold takeF
            rw [if_neg (by rw [H0.out, HN.out]; simp; omega), if_pos (Or.inr (by rw [HLL.out, HN.out]; exact hlong))]
          go_wp2_with fail
          (try simp only [Exit.inBlock, Exit.then])
          refine bodyPost_ret (results_tmp4 rfl _ _ _) rfl ?_
          rw [R.out]
          exact ⟨⟨none, 0, rfl, RdB.nil _ _ _⟩, (Below.refl _ _).drew⟩
        · have g2 : ¬ (n : Int) < (N : Int) + 9 := by omega
          have g3 : (N : Int) + 9 ≤ (n : Int) := by omega
          have q2 : ∀ W : World, (Instr.sliceAt 33 (.slice (some ad) n c) (some (.int .i64 5)) (some (.int .i64 ((N : Int) + 5))) none).run Tryz.prog W = .ok (.slice (cutA (some ad) c 5) N (c - 5)) W := fun W => by
            have h := run_cut2 W (some ad) n c 5 (N + 5) 5 ((N : Int) + 5) rfl (by omega) (by omega) (by omega) hc
            rwa [Nat.add_sub_cancel] at h
          have q0 : ∀ W : World, (Instr.sliceAt 33 (.slice (some ad) n c) none (some (.int .i64 ((N : Int) + 9))) none).run Tryz.prog W = .ok (.slice (some ad) (N + 9) c) W := fun W => run_cut0 W (some ad) n c (N + 9) _ (by omega) (by omega) hc
          have HSUB : Hid (((b.drop 5).take N).length = N) := by show _ = _; rw [List.length_take, List.length_drop, HN.out]; omega
          have hsub : RdB B w (cutA (some ad) c 5) ((b.drop 5).take N) := hr.sub (by rw [HN.out]; exact hc) N
          have FS : Hid (∀ W' : World, Below w.heap.size w W' → Calls Tryz.prog 20 #[.int .u8 ((byteAt b 1).toNat : Int), .slice (cutA (some ad) c 5) N (c - 5)] W' fun e w' => (∃ (A' : Option Addr) (c' : Nat), e = .returned (.tuple #[.slice A' (N + 9) c', .bool true]) ∧ RdB w'.heap.size w' A' (sealL (byteAt b 1) ((b.drop 5).take N)) ∧ (sealL (byteAt b 1) ((b.drop 5).take N)).length = N + 9) ∧ Below W'.heap.size W' w') :=
            fun W' h => sealF_is (byteAt b 1) _ N (c - 5) _ W' HSUB.out (hsub.keep h hB) (Nat.le_trans hB h.size) (by omega)
          have hlt := Nat.lt_of_lt_of_le hbl hB
          have n1 : (1 : Int) < (n : Int) := by omega
          have wr5 : IntKind.i64.wrap ((N : Int) + 5) = (N : Int) + 5 := IntWalk.i64_in _ (by omega)
          have wr9 : IntKind.i64.wrap ((N : Int) + 9) = (N : Int) + 9 := IntWalk.i64_in _ (by omega)
          have hS0 : w.drew.drew.cell? ⟨ad.block, ad.off + 1, none⟩ = some (.int .u8 ((byteAt b 1).toNat : Int)) ∧ Below w.heap.size w w.drew.drew := ⟨c1, (Below.refl w.heap.size w).drew.drew⟩
          go_wp2_with fail
          go_region_held3 (fun w' => w'.cell? ⟨ad.block, ad.off + 1, none⟩ = some (.int .u8 ((byteAt b 1).toNat : Int)) ∧ Below w.heap.size w w')
            (first | assumption | exact hS0 | exact ⟨((by assumption : Below w.heap.size w _).cell (p := ⟨ad.block, ad.off + 1, none⟩) hlt).trans c1, by assumption⟩)
            ((go_at_call 20; ((with_reducible refine (FS.out _ (And.right (by assumption))).mono ?_); rintro e w7 ⟨⟨A7, c7, rfl, hr7, hn7⟩, hb7⟩; have B7 : Below w.heap.size w w7 := bt (Below.refl w.heap.size w).drew.drew hb7)))
          have hrb := hr.keep B7 hB
          have cv1 := conv_rd w7.drew A7 (N + 9) c7 _ hn7 hr7.drew_
          have cv2 := conv_rd w7.drew (some ad) (N + 9) c (b.take (N + 9)) (by rw [List.length_take, HN.out]; omega) (hrb.take (N + 9)).drew_
          have c1' : w7.cell? ⟨ad.block, ad.off + 1, none⟩ = some (.int .u8 ((byteAt b 1).toNat : Int)) := (B7.cell (p := ⟨ad.block, ad.off + 1, none⟩) hlt).trans c1
          have hsub7 := hsub.keep B7 hB
          have es1 : (⟨(sealL (byteAt b 1) ((b.drop 5).take N)).toArray⟩ : ByteArray).data.toList = sealL (byteAt b 1) ((b.drop 5).take N) := rfl
          have es2 : (⟨(b.take (N + 9)).toArray⟩ : ByteArray).data.toList = b.take (N + 9) := rfl
          generalize (⟨(sealL (byteAt b 1) ((b.drop 5).take N)).toArray⟩ : ByteArray) = s1 at cv1 es1
          generalize (⟨(b.take (N + 9)).toArray⟩ : ByteArray) = s2 at cv2 es2
          clear FS hS0
          by_cases hsame : sealL (byteAt b 1) ((b.drop 5).take N) = b.take (N + 9)
          · have e1 : (s1.toList == s2.toList) = true := by rw [ByteArray.toList_eq, ByteArray.toList_eq, es1, es2, hsame]; simp
            have R : Hid (takeF b = (byteAt b 1, (b.drop 5).take N, N + 9, 0)) := by
              show _ = _
              unfold takeF
              rw [if_neg (by rw [H0.out, HN.out]; simp; omega), HLL.out, if_neg (by rw [HN.out]; omega), if_neg (fun h => h hsame)]
            clear es1 es2 hsame
            go_wp2_with fail
            go_region
            go_wp2_with fail
            go_region
            go_wp2_with fail
            (try simp only [Exit.inBlock, Exit.then])
            refine bodyPost_ret (results_tmp4 rfl _ _ _) rfl ?_
            rw [R.out]
            refine ⟨⟨cutA (some ad) c 5, c - 5, ?_, hsub7⟩, B7.drew.drew⟩
            show _ = Ending.returned (.tuple #[_, .slice _ ((b.drop 5).take N).length _, _, _])
            rw [HSUB.out]
            rfl
          · have e1 : (s1.toList == s2.toList) = false := by rw [ByteArray.toList_eq, ByteArray.toList_eq, es1, es2]; simpa using hsame
            have R : Hid (takeF b = (0, [], N + 9, 4)) := by
              show _ = _
              unfold takeF
              rw [if_neg (by rw [H0.out, HN.out]; simp; omega), HLL.out, if_neg (by rw [HN.out]; omega), if_pos hsame]
            clear es1 es2 hsame
            go_wp2_with fail
            go_region
            go_wp2_with fail
            (try simp only [Exit.inBlock, Exit.then])
            refine bodyPost_ret (results_tmp4 rfl _ _ _) rfl ?_
            rw [R.out]
            exact ⟨⟨none, 0, rfl, RdB.nil _ _ _⟩, B7.drew⟩
    · have e0 : (((byteAt b 0).toNat : Int) != 229) = true := by
        rw [bne_iff_ne]
        intro e
        exact h0 (UInt8.toNat_inj.1 (by show _ = 229; omega))
      have e0' : (((byteAt b 0).toNat : Int) == 229) = false := by
        rw [beq_eq_false_iff_ne]
        intro e
        exact h0 (UInt8.toNat_inj.1 (by show _ = 229; omega))
      have R : Hid (takeF b = (0, [], 0, 2)) := by show _ = _; unfold takeF; rw [if_pos (Or.inr h0)]
      clear hn h0
      go_enter Tryz.func93, Tryz.ntmps93
      go_wp2_with fail
      (try simp only [Exit.inBlock, Exit.then])
      refine bodyPost_ret (results_tmp4 rfl _ _ _) rfl ?_
      rw [R.out]
      exact ⟨⟨none, 0, rfl, RdB.nil _ _ _⟩, Below.refl _ _⟩
end Go.Proofs.YtfpfalgbkbmkeaaGreatDoor

namespace Go.Proofs.YtfpfalgbkbmkeaaGreatDoor

theorem crcStep_xor (a b : Nat) : crcStep (a ^^^ b) = crcStep a ^^^ crcStep b := by
  unfold crcStep
  have h := @Nat.xor_mod_two_eq_one a b
  rw [Nat.xor_div_two]
  by_cases ha : a % 2 = 1
  · by_cases hb : b % 2 = 1
    · rw [if_pos ha, if_pos hb, if_neg (by simp [h, ha, hb])]
      rw [Nat.xor_assoc, ← Nat.xor_assoc 2197175160, Nat.xor_comm 2197175160 (b / 2), Nat.xor_assoc (b / 2), Nat.xor_self, Nat.xor_zero]
    · rw [if_pos ha, if_neg hb, if_pos (by rw [h]; simp [ha, hb])]
      rw [Nat.xor_assoc, Nat.xor_comm (b / 2), ← Nat.xor_assoc]
  · by_cases hb : b % 2 = 1
    · rw [if_neg ha, if_pos hb, if_pos (by rw [h]; simp [ha, hb])]
      rw [Nat.xor_assoc]
    · rw [if_neg ha, if_neg hb, if_neg (by simp [h, ha, hb])]
theorem crcSteps_xor : ∀ (k a b : Nat), crcSteps k (a ^^^ b) = crcSteps k a ^^^ crcSteps k b
  | 0, _, _ => rfl
  | k + 1, a, b => by
    show crcSteps k (crcStep (a ^^^ b)) = crcSteps k (crcStep a) ^^^ crcSteps k (crcStep b)
    rw [crcStep_xor, crcSteps_xor k]
/-- So many bits at once. -/
theorem crcSteps_low : ∀ (k c : Nat), crcSteps k c = (c / 2 ^ k) ^^^ crcSteps k (c % 2 ^ k)
  | 0, c => by
    show c = (c / 1) ^^^ (c % 1)
    rw [Nat.div_one, Nat.mod_one, Nat.xor_zero]
  | k + 1, c => by
    have e1 : c % (2 * 2 ^ k) % 2 = c % 2 := Nat.mod_mul_right_mod c 2 (2 ^ k)
    have e2 : c % (2 * 2 ^ k) / 2 = c / 2 % 2 ^ k := Nat.mod_mul_right_div_self c 2 (2 ^ k)
    have e3 : c / 2 / 2 ^ k = c / (2 * 2 ^ k) := Nat.div_div_eq_div_mul c 2 (2 ^ k)
    show crcSteps k (crcStep c) = (c / 2 ^ (k + 1)) ^^^ crcSteps k (crcStep (c % 2 ^ (k + 1)))
    rw [Nat.pow_succ, Nat.mul_comm (2 ^ k) 2]
    unfold crcStep
    rw [e1, e2]
    by_cases h : c % 2 = 1
    · rw [if_pos h, if_pos h, crcSteps_xor, crcSteps_xor, crcSteps_low k (c / 2), e3, Nat.xor_assoc]
    · rw [if_neg h, if_neg h, crcSteps_low k (c / 2), e3]
theorem crcSteps_add : ∀ (j k c : Nat), crcSteps (j + k) c = crcSteps k (crcSteps j c)
  | 0, k, c => by rw [Nat.zero_add]; rfl
  | j + 1, k, c => by
    rw [show j + 1 + k = (j + k) + 1 by omega]
    exact crcSteps_add j k (crcStep c)
/-- Four bits. -/
theorem nib (c : Nat) : crcSteps 4 c = (c / 16) ^^^ crcSteps 4 (c % 16) := crcSteps_low 4 c
theorem crcByte_nib (c : Nat) (b : UInt8) : crcByte c b = crcSteps 4 (crcSteps 4 (c ^^^ b.toNat)) := crcSteps_add 4 4 _
/-- The table. -/
def nibT : Array Nat := #[0, 274646895, 549293790, 820201905, 1098587580, 1361435347, 1640403810, 1905808397, 2197175160, 2460548119, 2722870694, 2987750089, 3280807620, 3553878443, 3811616794, 4084100981]
theorem nibT_is : ∀ i : Fin 16, nibT[i.val]? = some (crcSteps 4 i.val) := by decide +kernel
theorem nibT_at {i : Nat} (h : i < 16) : nibT[i]? = some (crcSteps 4 i) := nibT_is ⟨i, h⟩
end Go.Proofs.YtfpfalgbkbmkeaaGreatDoor

namespace Go.Proofs.YtfpfalgbkbmkeaaGreatDoor

/-- A kind, and bytes. -/
abbrev Pc := UInt8 × List UInt8
/-- Bytes, what the frames at their beginning are of, how many bytes these have, what is wrong with the first that is none. -/
inductive ScanR : List UInt8 → List Pc → Nat → Nat → Prop
  | done : ScanR [] [] 0 0
  | stop {b : List UInt8} (hb : b ≠ []) (h : (takeF b).2.2.2 ≠ 0) : ScanR b [] 0 (takeF b).2.2.2
  | more {b : List UInt8} {l : List Pc} {m code : Nat} (hb : b ≠ []) (h : (takeF b).2.2.2 = 0) (k : ScanR (b.drop (takeF b).2.2.1) l m code) : ScanR b (((takeF b).1, (takeF b).2.1) :: l) ((takeF b).2.2.1 + m) code
theorem ScanR.det {b : List UInt8} {l : List Pc} {m code : Nat} (h : ScanR b l m code) : ∀ {l' : List Pc} {m' code' : Nat}, ScanR b l' m' code' → l = l' ∧ m = m' ∧ code = code' := by
  induction h with
  | done =>
    intro l' m' code' k
    cases k with
    | done => exact ⟨rfl, rfl, rfl⟩
    | stop hb _ => exact absurd rfl hb
    | more hb _ _ => exact absurd rfl hb
  | stop hb h =>
    intro l' m' code' k
    cases k with
    | done => exact absurd rfl hb
    | stop _ _ => exact ⟨rfl, rfl, rfl⟩
    | more _ h2 _ => exact absurd h2 h
  | more hb h _ ih =>
    intro l' m' code' k
    cases k with
    | done => exact absurd rfl hb
    | stop _ h2 => exact absurd h h2
    | more _ _ k2 =>
      obtain ⟨e1, e2, e3⟩ := ih k2
      exact ⟨by rw [e1], by rw [e2], e3⟩
/-- One step. -/
theorem ScanR.step {b : List UInt8} {l : List Pc} {m code : Nat} (h : ScanR b l m code) : (b = [] ∧ l = [] ∧ m = 0 ∧ code = 0) ∨ (b ≠ [] ∧ (takeF b).2.2.2 ≠ 0 ∧ l = [] ∧ m = 0 ∧ code = (takeF b).2.2.2) ∨
    (b ≠ [] ∧ (takeF b).2.2.2 = 0 ∧ ∃ l' m', l = ((takeF b).1, (takeF b).2.1) :: l' ∧ m = (takeF b).2.2.1 + m' ∧ ScanR (b.drop (takeF b).2.2.1) l' m' code) := by
  cases h with
  | done => exact .inl ⟨rfl, rfl, rfl, rfl⟩
  | stop hb h => exact .inr (.inl ⟨hb, h, rfl, rfl, rfl⟩)
  | more hb h k => exact .inr (.inr ⟨hb, h, _, _, rfl, rfl, k⟩)
/-- What is taken is in the bytes. -/
theorem takeF_fits {b : List UInt8} (h : (takeF b).2.2.2 = 0) : 9 ≤ (takeF b).2.2.1 ∧ (takeF b).2.2.1 ≤ b.length ∧ (takeF b).2.1.length + 9 = (takeF b).2.2.1 := by
  unfold takeF at h ⊢
  by_cases h1 : b.length < 9 ∨ byteAt b 0 ≠ 229
  · rw [if_pos h1] at h
    simp at h
  · rw [if_neg h1] at h ⊢
    by_cases h2 : 100000 < lenF b ∨ b.length < lenF b + 9
    · rw [if_pos h2] at h
      simp at h
    · rw [if_neg h2] at h ⊢
      split at h
      · simp at h
      · rename_i h3
        rw [if_neg h3]
        simp only [List.length_take, List.length_drop]
        omega
theorem ScanR.le {b : List UInt8} {l : List Pc} {m code : Nat} (h : ScanR b l m code) : m ≤ b.length ∧ l.length * 9 ≤ b.length ∧ code ≤ 4 := by
  induction h with
  | done => exact ⟨by simp, by simp, by omega⟩
  | @stop b hb h =>
    refine ⟨by simp, by simp, ?_⟩
    unfold takeF
    split
    · show 2 ≤ 4; omega
    · split
      · show 2 ≤ 4; omega
      · split
        · show 4 ≤ 4; omega
        · show 0 ≤ 4; omega
  | more hb h _ ih =>
    have := takeF_fits h
    rw [List.length_drop] at ih
    simp only [List.length_cons]
    omega
end Go.Proofs.YtfpfalgbkbmkeaaGreatDoor

namespace Go.Proofs.YtfpfalgbkbmkeaaGreatDoor
open Go.RowKit

/-- The slice at A reads as the pieces l, in blocks below B. -/
def RdPc (B : Nat) (W : World) (A : Option Addr) (l : List Pc) : Prop :=
  ∀ k p, l[k]? = some p → ∃ ad A' c, A = some ad ∧ ad.block < B ∧ W.cell? (ad.add (k * 2)) = some (.int .u8 (p.1.toNat : Int)) ∧ W.cell? ⟨(ad.add (k * 2)).block, (ad.add (k * 2)).off + 1, none⟩ = some (.slice A' p.2.length c) ∧ RdB B W A' p.2
theorem RdPc.nil (B : Nat) (W : World) (A : Option Addr) : RdPc B W A [] := fun k p h => by simp at h
theorem RdPc.keep {B C : Nat} {W W' : World} {A : Option Addr} {l : List Pc} (h : RdPc B W A l) (hb : Below C W W') (hBC : B ≤ C) : RdPc B W' A l := by
  intro k p hp
  obtain ⟨ad, A', c, hA, hl, h1, h2, h3⟩ := h k p hp
  exact ⟨ad, A', c, hA, hl, (hb.cell (by rw [add_block]; omega)).trans h1, (hb.cell (by show (ad.add (k * 2)).block < C; rw [add_block]; omega)).trans h2, h3.keep hb hBC⟩
theorem RdPc.more {B C : Nat} {W : World} {A : Option Addr} {l : List Pc} (h : RdPc B W A l) (hBC : B ≤ C) : RdPc C W A l := by
  intro k p hp
  obtain ⟨ad, A', c, hA, hl, h1, h2, h3⟩ := h k p hp
  exact ⟨ad, A', c, hA, by omega, h1, h2, h3.more hBC⟩
theorem RdPc.drew_ {B : Nat} {W : World} {A : Option Addr} {l : List Pc} (h : RdPc B W A l) : RdPc B W.drew A l := h
/-- A piece, as it lies. -/
structure PcV where
  k : UInt8
  A : Option Addr
  n : Nat
  c : Nat
abbrev PcV.cells (x : PcV) : Array Value := #[.int .u8 (x.k.toNat : Int), .slice x.A x.n x.c]
/-- The cells of pieces. -/
abbrev pcV (l : List PcV) : List Value := l.flatMap fun x => x.cells.toList
theorem pcV_len (l : List PcV) : (pcV l).length = l.length * 2 := by
  induction l with
  | nil => rfl
  | cons x t ih =>
    show (x.cells.toList ++ pcV t).length = _
    rw [List.length_append, ih]
    show 2 + t.length * 2 = (t.length + 1) * 2
    omega
theorem pcV_get : ∀ (l : List PcV) (k j : Nat) (x : PcV) (v : Value), l[k]? = some x → x.cells[j]? = some v → (pcV l)[k * 2 + j]? = some v
  | [], k, j, x, v, h, _ => by simp at h
  | y :: t, 0, j, x, v, h, hv => by
    have e : y = x := by simpa using h
    subst e
    have hj : j < 2 := by
      have := (Array.getElem?_eq_some_iff.1 hv).1
      simpa using this
    show (y.cells.toList ++ pcV t)[0 * 2 + j]? = _
    rw [List.getElem?_append_left (by show _ < 2; omega), Nat.zero_mul, Nat.zero_add, Array.getElem?_toList]
    exact hv
  | y :: t, k + 1, j, x, v, h, hv => by
    have h2 : t[k]? = some x := by simpa using h
    have ih := pcV_get t k j x v h2 hv
    show (y.cells.toList ++ pcV t)[(k + 1) * 2 + j]? = _
    rw [List.getElem?_append_right (by show 2 ≤ _; omega)]
    show (pcV t)[(k + 1) * 2 + j - 2]? = _
    rw [show (k + 1) * 2 + j - 2 = k * 2 + j by omega]
    exact ih
/-- A row of pieces that the call owns, in blocks from base on. -/
def OwnPc (base : Nat) (W : World) (A : Option Addr) (n c : Nat) (l : List PcV) : Prop := W.ownsRow base 60 2 (.slice A n c) n (pcV l)
theorem OwnPc.nil (base : Nat) (W : World) : OwnPc base W none 0 0 [] := World.ownsRow_nil W base 60 2
theorem OwnPc.len {base : Nat} {W : World} {A : Option Addr} {n c : Nat} {l : List PcV} (h : OwnPc base W A n c l) : l.length = n := by
  have h1 := h.1
  have h2 := pcV_len l
  omega
theorem OwnPc.keep {base : Nat} {W W' : World} {A : Option Addr} {n c : Nat} {l : List PcV} (h : OwnPc base W A n c l) (hb : Below W.heap.size W W') : OwnPc base W' A n c l :=
  World.ownsRow.kept h (row := none) ⟨hb.os, hb.tape, hb.output, hb.size, fun k hk _ => hb.block k hk⟩ (by cases A <;> simp [Value.ownBlock])
/-- The rows that pieces name are the call's own, and read as their bytes. -/
def InPc (base : Nat) (W : World) (l : List PcV) (p : List Pc) : Prop := l.length = p.length ∧ ∀ (i : Nat) (x : PcV) (q : Pc), l[i]? = some x → p[i]? = some q → x.k = q.1 ∧ OwnB base W x.A x.n x.c q.2
theorem InPc.nil (base : Nat) (W : World) : InPc base W [] [] := ⟨rfl, fun i x q h => by simp at h⟩
theorem InPc.keep {base : Nat} {W W' : World} {l : List PcV} {p : List Pc} (h : InPc base W l p) (hb : Below W.heap.size W W') : InPc base W' l p :=
  ⟨h.1, fun i x q hx hq => ⟨(h.2 i x q hx hq).1, (h.2 i x q hx hq).2.keep hb⟩⟩
theorem InPc.snoc {base : Nat} {W : World} {l : List PcV} {p : List Pc} {x : PcV} {q : Pc} (h : InPc base W l p) (h1 : x.k = q.1) (h2 : OwnB base W x.A x.n x.c q.2) : InPc base W (l ++ [x]) (p ++ [q]) := by
  refine ⟨by simp [h.1], fun i y r hy hr => ?_⟩
  by_cases hi : i < l.length
  · rw [List.getElem?_append_left hi] at hy
    rw [List.getElem?_append_left (by rw [← h.1]; exact hi)] at hr
    exact h.2 i y r hy hr
  · rw [List.getElem?_append_right (by omega)] at hy
    rw [List.getElem?_append_right (by rw [← h.1]; omega), ← h.1] at hr
    have e : i - l.length = 0 := by
      have := (List.getElem?_eq_some_iff.1 hy).1
      simp at this
      omega
    rw [e] at hy hr
    injection hy with hy
    injection hr with hr
    subst hy
    subst hr
    exact ⟨h1, h2⟩
/-- A row of bytes stays where a row of pieces grows. -/
theorem OwnB.keepPc {base : Nat} {W W' : World} {A A2 : Option Addr} {n c m d : Nat} {l : List PcV} {l2 : List UInt8} (h : OwnB base W A2 m d l2) (hp : OwnPc base W A n c l) (hg : W.grownBy W' (A.map (·.block))) : OwnB base W' A2 m d l2 := by
  refine World.ownsRow.kept h hg ?_
  rcases h.2 with ⟨e, _⟩ | ⟨g2, cap2, cur2, e2, _, hb2, _⟩
  · injection e with e _ _
    subst e
    simp [Value.ownBlock]
  · injection e2 with e2 _ _
    subst e2
    right
    rcases hp.2 with ⟨e, _⟩ | ⟨g, cap, cur, e, _, hb, _⟩
    · injection e with e _ _
      subst e
      simp [Value.ownBlock]
    · injection e with e _ _
      subst e
      intro k
      simp only [Value.ownBlock, Option.map_some, Option.some.injEq] at k
      subst k
      rw [hb] at hb2
      injection hb2 with hb2
      injection hb2 with _ hb2 _
      exact absurd hb2 (by decide)
theorem InPc.grown {base : Nat} {W W' : World} {A : Option Addr} {n c : Nat} {l l2 : List PcV} {p : List Pc} (h : InPc base W l2 p) (hp : OwnPc base W A n c l) (hg : W.grownBy W' (A.map (·.block))) : InPc base W' l2 p :=
  ⟨h.1, fun i x q hx hq => ⟨(h.2 i x q hx hq).1, (h.2 i x q hx hq).2.keepPc hp hg⟩⟩
theorem OwnPc.rd {base : Nat} {W : World} {A : Option Addr} {n c : Nat} {l : List PcV} {p : List Pc} (h : OwnPc base W A n c l) (hp : InPc base W l p) : RdPc W.heap.size W A p := by
  intro k q hq
  have hk := (List.getElem?_eq_some_iff.1 hq).1
  have hl := h.len
  have hkl : k < l.length := by rw [hp.1]; exact hk
  obtain ⟨x, hx⟩ : ∃ x, l[k]? = some x := ⟨_, List.getElem?_eq_getElem hkl⟩
  obtain ⟨e1, e4⟩ := hp.2 k x q hx hq
  have e2 := e4.len
  have e3 := e4.rd
  obtain ⟨g, cap, hv, _, hlt⟩ := World.ownsRow.form h (by omega)
  injection hv with hv
  subst hv
  have hc : ∀ j v, x.cells[j]? = some v → W.cell? ((⟨g, 0, none⟩ : Addr).add (k * 2 + j)) = some v := fun j v hj => h.cells (g := g) rfl _ _ (pcV_get l k j x v hx hj)
  refine ⟨_, x.A, x.c, rfl, hlt, ?_, ?_, e3⟩
  · have := hc 0 _ rfl
    rw [← e1]
    exact this
  · have := hc 1 _ rfl
    rw [← add_add', Addr.add, if_neg (by omega)] at this
    rw [e2]
    exact this
theorem pc_info : (Tryz.prog.info? 60).map (fun i => (i.zero, i.size, i.bytes)) = some (some (.agg #[.int .u8 0, .slice none 0 0]), 2, 32) := by kernel_rfl
theorem pc_one (x : PcV) : ∀ u ∈ x.cells.toList, u.oneCell' = true := by
  intro u hu
  simp only [List.mem_cons, List.not_mem_nil, or_false] at hu
  rcases hu with rfl | rfl <;> rfl
/-- Append of one piece onto a row of the call's own. -/
theorem run_apPc {P : Program} (w : World) {t t' e' ty : TypeId} {i : TypeInfo} (ht : P.underlying t = some (.slice 60)) (ht' : P.underlying t' = some (.slice e')) (hi : P.info? 60 = some i) (hz : i.zero = some (.agg #[.int .u8 0, .slice none 0 0])) (hs : i.size = 2) (hy : i.bytes = 32)
    {base : Nat} {A : Option Addr} {ad : Addr} {n c d : Nat} {l : List PcV} {x : PcV} (hown : OwnPc base w A n c l) (hr : ∀ j v, x.cells[j]? = some v → w.cell? (ad.add j) = some v) (hsz : n ≤ 1000000) (hbase : base ≤ w.heap.size) :
    ∃ A' c' w', (Builtin.append_ #[t, t'] ty #[.slice A n c, .slice (some ad) 1 d]).run P w = .ok (.slice A' (n + 1) c') w' ∧ OwnPc base w' A' (n + 1) c' (l ++ [x]) ∧ Below base w w' ∧ w.grownBy w' (A.map (·.block)) := by
  obtain ⟨v', w', hrun, h2, h3, _, _⟩ := run_append_own_at (P := P) w base t ty 60 i (.agg #[.int .u8 0, .slice none 0 0]) 2 32 ht hi hz hs hy rfl (by omega) (.slice A n c) n (pcV l) hown ad 1 d x.cells.toList rfl (fun j u hu => hr j u (by rw [← Array.getElem?_toList]; exact hu)) (pc_one x)
    (by unfold maxLen; omega) (by omega) hbase
  have hb : Below base w w' := (Below.refl base w).grown h3 hbase (fun k hk => (World.ownsRow.lt hown k hk).1)
  have hv : ∃ A' c', v' = .slice A' (n + 1) c' := by
    rcases h2.2 with ⟨_, e2⟩ | ⟨g, cap, cur, e1, _⟩
    · omega
    · exact ⟨_, _, e1⟩
  obtain ⟨A', c', rfl⟩ := hv
  refine ⟨A', c', w', by rw [run_append_tt w ht ht']; exact hrun, ?_, hb, by cases A <;> exact h3⟩
  unfold OwnPc
  rw [show pcV (l ++ [x]) = pcV l ++ x.cells.toList by simp [pcV]]
  exact h2
section
variable {P : Program} {w : World} {t t' e' : TypeId} {i : TypeInfo} {base : Nat} {A : Option Addr} {ad : Addr} {n c d : Nat} {l : List PcV} {xx : PcV} {o : Oper} {a : Act} {Q : Exit → Act → World → Prop} {ops : Array Oper}
/-- .. in a plain region. -/
theorem wpList_apPc {rest : List Oper} (hgd : o.guard = none) (s x : Operand) (ho : o.op = .call { callee := .builtin .append, args := #[s, x], argTypes := #[t, t'] })
    (ht : P.underlying t = some (.slice 60)) (ht' : P.underlying t' = some (.slice e')) (hi : P.info? 60 = some i) (hz : i.zero = some (.agg #[.int .u8 0, .slice none 0 0])) (hs : i.size = 2) (hy : i.bytes = 32)
    (h1 : a.eval s = .slice A n c) (h2 : a.eval x = .slice (some ad) 1 d) (hown : OwnPc base w A n c l) (hr : ∀ j v, xx.cells[j]? = some v → w.cell? (ad.add j) = some v) (hsz : n ≤ 1000000) (hbase : base ≤ w.heap.size)
    (h : ∀ A' c' w', OwnPc base w' A' (n + 1) c' (l ++ [xx]) → Below base w w' → w.grownBy w' (A.map (·.block)) → wpList P ops Q rest (a.put o.dst (.slice A' (n + 1) c')) w') : wpList P ops Q (o :: rest) a w := by
  refine wpList_plain hgd fun _ hK => ?_
  obtain ⟨A', c', w', hrun, k1, k2, k3⟩ := run_apPc (P := P) (ty := o.type) (d := d) w ht ht' hi hz hs hy hown hr hsz hbase
  unfold Oper.wp execOp
  simp only [ho, resolve, invoke, builtin, Sem.run_bind, Sem.run_pure, Result.andThen_ok, List.map_toArray, List.map_cons, List.map_nil, h1, h2, hrun]
  exact hK _ _ (h A' c' w' k1 k2 k3)
end
end Go.Proofs.YtfpfalgbkbmkeaaGreatDoor

namespace Go.Proofs.YtfpfalgbkbmkeaaGreatDoor
open Go.RowKit

/-- The kind, the inside, the error. -/
def openF (b : List UInt8) : UInt8 × List UInt8 × Nat :=
  if (takeF b).2.2.1 ≠ b.length ∨ (takeF b).2.2.1 = 0 then (0, [], 2) else ((takeF b).1, (takeF b).2.1, (takeF b).2.2.2)
theorem takeF_code (b : List UInt8) : (takeF b).2.2.2 ≤ 4 ∧ (takeF b).2.2.1 ≤ b.length + 100009 ∧ (takeF b).2.1.length ≤ b.length := by
  unfold takeF
  split
  · exact ⟨by decide, by simp, by simp⟩
  · split
    · exact ⟨by decide, by simp, by simp⟩
    · rename_i h
      split
      · exact ⟨by simp, by simp only; omega, by simp⟩
      · exact ⟨by simp, by simp only; omega, by simp only [List.length_take, List.length_drop]; omega⟩
set_option maxRecDepth 100000 in
set_option maxHeartbeats 2000000 in
theorem refOpenF_any {B : Nat} (A : Option Addr) (n c : Nat) (b : List UInt8) (w : World) (hn : b.length = n) (hr : RdB B w A b) (hB : B ≤ w.heap.size) (hc : n ≤ c) (hm : n ≤ 1000000000) :
    Calls Tryz.prog 42 #[.slice A n c] w fun e w' => (∃ (A' : Option Addr) (c' : Nat), e = .returned (.tuple #[.int .u8 ((openF b).1.toNat : Int), .slice A' (openF b).2.1.length c', .int .i64 ((openF b).2.2 : Nat)]) ∧ RdB B w' A' (openF b).2.1) ∧ Below w.heap.size w w' := by
  have HF := Lib.hid (refTakeF_any A n c b w hn hr hB hc hm)
  have hl := takeF_code b
  have HO : Hid (openF b = if (takeF b).2.2.1 ≠ n ∨ (takeF b).2.2.1 = 0 then (0, [], 2) else ((takeF b).1, (takeF b).2.1, (takeF b).2.2.2)) := by show _ = _; unfold openF; rw [hn]
  unfold TakeFP at HF
  generalize takeF b = r at HF hl HO
  obtain ⟨k, ins, sz, code⟩ := r
  simp only at HF hl HO
  go_enter Tryz.func42, Tryz.ntmps42
  go_wp2_with fail
  refine HF.out.mono ?_
  rintro e w1 ⟨⟨A1, c1, rfl, hr1⟩, hb1⟩
  clear HF
  by_cases h1 : sz = n
  · by_cases h0 : sz = 0
    · have R : Hid (openF b = (0, [], 2)) := by show _ = _; rw [HO.out, if_pos (Or.inr h0)]
      have e1 : ((sz : Int) != (n : Int)) = false := by rw [h1]; simp
      have e2 : ((sz : Int) == 0) = true := by rw [h0]; rfl
      have e5 : (0 : Int) = (n : Int) := by omega
      subst h0
      clear h1
      go_wp2_with fail
      go_ret3
      rw [R.out]
      exact ⟨⟨none, 0, rfl, RdB.nil _ _ _⟩, hb1⟩
    · have R : Hid (openF b = (k, ins, code)) := by show _ = _; rw [HO.out, if_neg (by rintro (h | h); exact h h1; exact h0 h)]
      have e1 : ((sz : Int) == (n : Int)) = true := by rw [h1]; simp
      have e2 : ((sz : Int) == 0) = false := by rw [beq_eq_false_iff_ne]; omega
      have e3 : ¬ (sz : Int) = 0 := by omega
      have e4 : (sz : Int) = (n : Int) := by omega
      clear h1
      go_wp2_with fail
      go_ret3
      rw [R.out]
      exact ⟨⟨A1, c1, rfl, hr1⟩, hb1⟩
  · have R : Hid (openF b = (0, [], 2)) := by show _ = _; rw [HO.out, if_pos (Or.inl h1)]
    have e1 : ((sz : Int) == (n : Int)) = false := by rw [beq_eq_false_iff_ne]; omega
    have e4 : ¬ (sz : Int) = (n : Int) := by omega
    go_wp2_with fail
    go_ret3
    rw [R.out]
    exact ⟨⟨none, 0, rfl, RdB.nil _ _ _⟩, hb1⟩

/-- What the code reads of the package variables: its table of sixteen numbers, and errors.errorType. -/
def LaidF (W : World) : Prop :=
  (∀ i : Nat, i < 16 → W.cell? ⟨0, i, none⟩ = some (.int .u32 (crcSteps 4 i : Nat))) ∧ W.cell? ⟨1, 0, none⟩ = some (.iface 261 (.agg #[.pointer (some ⟨3, 115, none⟩)]))
theorem LaidF.keep {W W' : World} (h : LaidF W) (hb : Below W.heap.size W W') : LaidF W' :=
  ⟨fun i hi => (hb.cell (World.block_lt_of_cell? W _ (h.1 i hi))).trans (h.1 i hi), (hb.cell (World.block_lt_of_cell? W _ h.2)).trans h.2⟩
/-- The bytes of a constant, as they lie. -/
theorem rd_const (w : World) (l : List UInt8) (fr : Nat × Nat) : RdB (w.alloc (.cells (bytV l).toArray 5 fr)).heap.size (w.alloc (.cells (bytV l).toArray 5 fr)) (some ⟨w.heap.size, 0, none⟩) l := by
  intro k x hx
  refine ⟨_, rfl, by simp, ?_⟩
  have e : (⟨w.heap.size, 0, none⟩ : Addr).add k = ⟨w.heap.size, k, none⟩ := by unfold Addr.add; split <;> simp_all
  rw [e, Joins.cell_alloc_mark_at w _ _ fr _ k rfl, List.getElem?_toArray, List.getElem?_map, hx]
  rfl
end Go.Proofs.YtfpfalgbkbmkeaaGreatDoor
