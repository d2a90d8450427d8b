/-
  WHAT IS PROVED: package frame's Sum is crcL, for every slice of bytes; sumAt is what four bytes say. Conditions: those typed in each theorem.
-/
import Derived.Test.YtggoinjjdogmaaaDoorFrameIface
import Derived.Laws.BitsLemmas
import Derived.Lib.EndianBits
namespace Go.Proofs.YtggoinjjdogmaaaDoor
open Go.RowKit

theorem xor_u32 (a b : Nat) (ha : a < 4294967296) (hb : b < 4294967296) : bits .xor .u32 (a : Int) (b : Int) = ((a ^^^ b : Nat) : Int) := by
  have hx : a ^^^ b < 2 ^ 32 := Nat.xor_lt_two_pow (by omega) (by omega)
  have h1 : (BitVec.ofInt 32 (a : Int)).toNat = a := by
    rw [BitVec.ofInt_natCast, BitVec.toNat_ofNat]
    exact Nat.mod_eq_of_lt (by omega)
  have h2 : (BitVec.ofInt 32 (b : Int)).toNat = b := by
    rw [BitVec.ofInt_natCast, BitVec.toNat_ofNat]
    exact Nat.mod_eq_of_lt (by omega)
  show IntKind.u32.wrap ((BitVec.ofInt 32 (a : Int) ^^^ BitVec.ofInt 32 (b : Int)).toNat : Int) = _
  rw [BitVec.toNat_xor, h1, h2, IntKind.wrap_u32]
  omega
theorem and15_u32 (a : Nat) (ha : a < 4294967296) : bits .and .u32 (a : Int) 15 = ((a % 16 : Nat) : Int) := by
  have h := bits_mask .u32 32 (by decide) wraps_u32 4 (by decide) (a : Int) (by omega) (by omega)
  rw [show ((2 : Int) ^ 4 - 1) = 15 by decide, show ((2 : Int) ^ 4) = 16 by decide] at h
  rw [h]
  omega
theorem not_u32 (a : Nat) (ha : a < 4294967296) : bits .xor .u32 IntKind.u32.max (a : Int) = ((4294967295 - a : Nat) : Int) := by
  have h2 : (BitVec.ofInt 32 (a : Int)).toNat = a := by
    rw [BitVec.ofInt_natCast, BitVec.toNat_ofNat]
    exact Nat.mod_eq_of_lt (by omega)
  have h1 : BitVec.ofInt 32 IntKind.u32.max = BitVec.allOnes 32 := by decide
  show IntKind.u32.wrap ((BitVec.ofInt 32 IntKind.u32.max ^^^ BitVec.ofInt 32 (a : Int)).toNat : Int) = _
  rw [h1, BitVec.allOnes_xor, BitVec.toNat_not, h2, IntKind.wrap_u32]
  omega

set_option maxRecDepth 100000 in
set_option maxHeartbeats 4000000 in
theorem sum_any {B : Nat} (A : Option Addr) (n c : Nat) (l : List UInt8) (w : World) (hL : LaidF w) (hn : l.length = n) (hr : RdB B w A l) (hm : n ≤ 1000000000) :
    Calls Tryd.prog 11 #[.slice A n c] w fun e w' => e = .returned (.int .u32 (crcL l : Nat)) ∧ w = w' := by
  have HN := Lib.hid hn
  have HL := Lib.hid hL.1
  clear hn hL
  go_enter Tryd.func11, Tryd.ntmps11
  go_wp2_with fail
  go_loopw [3, 8] (fun x i wr => ∃ (k s : Nat), k ≤ n ∧ x = .int .u32 s ∧ i = .int .i64 k ∧ Hid (s = crcTo 4294967295 (l.take k)) ∧ s < 4294967296 ∧ w = wr) (fun _ i _ => n - (intOf i).toNat)
  case atStart => exact ⟨0, 4294967295, Nat.zero_le _, rfl, rfl, rfl, by omega, rfl⟩
  case round =>
    obtain ⟨k, s, hk, rfl, rfl, hS, hs, rfl⟩ := hrel
    by_cases hlt : k < n
    · obtain ⟨ad, rfl, _, hc⟩ := hr.at_ (show k < l.length by have := HN.out; omega)
      have i1 : (0 : Int) ≤ (k : Int) := by omega
      have i2 : (k : Int) < (n : Int) := by omega
      have hlk : k < l.length := by have := HN.out; omega
      have HX : Hid (l.take (k + 1) = l.take k ++ [l[k]]) := List.take_succ_eq_append_getElem hlk
      generalize l[k] = x at hc HX
      have hx := byte_lt x
      have hx2 := xor_lt hs hx
      have HS2 : Hid (crcSteps 4 (crcSteps 4 (s ^^^ x.toNat)) = crcTo 4294967295 (l.take (k + 1))) := by
        show _ = _
        rw [HX.out, crcTo_snoc, ← hS.out, crcByte_nib]
      have E0 := xor_u32 s x.toNat hs hx
      generalize s ^^^ x.toNat = s0 at hx2 HS2 E0
      have E1 := and15_u32 s0 hx2
      have m1 : s0 % 16 < 16 := Nat.mod_lt _ (by omega)
      have c1 := HL.out (s0 % 16) m1
      have l1 : crcSteps 4 s0 < 4294967296 := crcSteps_lt 4 hx2
      have t1 : crcSteps 4 (s0 % 16) < 4294967296 := crcSteps_lt 4 (by omega)
      have D1 : ((s0 : Int) / 16) = ((s0 / 16 : Nat) : Int) := by omega
      have F1 : bits .xor .u32 ((s0 / 16 : Nat) : Int) (crcSteps 4 (s0 % 16) : Nat) = (crcSteps 4 s0 : Nat) := by
        rw [xor_u32 _ _ (by omega) t1, ← nib]
      generalize crcSteps 4 s0 = s1 at l1 F1 HS2
      have E2 := and15_u32 s1 l1
      have m2 : s1 % 16 < 16 := Nat.mod_lt _ (by omega)
      have c2 := HL.out (s1 % 16) m2
      have l2 : crcSteps 4 s1 < 4294967296 := crcSteps_lt 4 l1
      have t2 : crcSteps 4 (s1 % 16) < 4294967296 := crcSteps_lt 4 (by omega)
      have D2 : ((s1 : Int) / 16) = ((s1 / 16 : Nat) : Int) := by omega
      have F2 : bits .xor .u32 ((s1 / 16 : Nat) : Int) (crcSteps 4 (s1 % 16) : Nat) = (crcSteps 4 s1 : Nat) := by
        rw [xor_u32 _ _ (by omega) t2, ← nib]
      rw [← D1] at F1
      rw [← D2] at F2
      generalize crcSteps 4 s1 = s2 at l2 F2 HS2
      generalize crcSteps 4 (s0 % 16) = y1 at c1 F1
      generalize crcSteps 4 (s1 % 16) = y2 at c2 F2
      generalize s0 % 16 = q1 at E1 m1 c1
      generalize s1 % 16 = q2 at E2 m2 c2
      clear D1 D2 t1 t2 HX
      go_wp2_with fail
      go_roundw
      case rel => exact ⟨k + 1, s2, by omega, rfl, by go_num, HS2, l2, by first | rfl | trivial⟩
      case measure => simp [intOf]; omega
    · have i2 : ¬ (k : Int) < (n : Int) := by omega
      have e : k = n := by omega
      subst e
      have R : Hid (crcL l = 4294967295 - s) := by
        show _ = _
        unfold crcL
        rw [hS.out, List.take_of_length_le (by rw [HN.out]; exact Nat.le_refl _)]
      go_wp2_with fail
      go_ret
      rw [R.out]
      refine ⟨?_, rfl⟩
      rw [not_u32 s hs]
      rfl
end Go.Proofs.YtggoinjjdogmaaaDoor
