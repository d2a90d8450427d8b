/-
  WHAT IS PROVED: the document's sum (spinneyref06.bit, turned, Sum) is crcL, for every slice of bytes. Conditions: those typed in each theorem.
-/
import Derived.Test.YtggoinjjdogmaaaDoorCrcMath
import Derived.Test.YtggoinjjdogmaaaDoorBytes
namespace Go.Proofs.YtggoinjjdogmaaaDoor
open Go.RowKit

set_option maxHeartbeats 1000000 in
theorem bit_is (n : Nat) (b : Bool) (hb : (n % 2 == 1) = b) (w : World) :
    Calls Tryd.prog 23 #[.int .u64 n, .int .i64 0] w fun e w' => e = .returned (.bool b) ∧ w = w' := by
  go_enter Tryd.func23, Tryd.ntmps23
  go_wp2_with fail
  go_loopw [0, 1] (fun x p wr => x = .int .u64 n ∧ p = .int .i64 0 ∧ w = wr) (fun _ _ _ => 0)
  case atStart => exact ⟨rfl, rfl, rfl⟩
  case round =>
    obtain ⟨rfl, rfl, rfl⟩ := hrel
    go_wp2_with fail
    go_ret
    exact ⟨ret_bool (by rw [← hb, Bool.eq_iff_iff, beq_iff_eq, beq_iff_eq]; omega), by first | rfl | trivial⟩
set_option maxRecDepth 100000 in
set_option maxHeartbeats 4000000 in
theorem turned_any (a b : Nat) (ha : a < 4294967296) (hb : b < 4294967296) (w : World) :
    Calls Tryd.prog 19 #[.int .u64 a, .int .u64 b] w fun e w' => e = .returned (.int .u64 ((a ^^^ b : Nat) : Int)) ∧ w = w' := by
  have HA := Lib.hid ha
  have HB := Lib.hid hb
  clear ha hb
  go_enter Tryd.func19, Tryd.ntmps19
  go_wp2_with fail
  go_loopw [0, 1, 5, 6, 7] (fun x y o p i wr => ∃ (k x' y' o' p' : Nat), k ≤ 32 ∧ x = .int .u64 x' ∧ y = .int .u64 y' ∧ o = .int .u64 o' ∧ p = .int .u64 p' ∧ i = .int .i64 k ∧ Hid (x' = a / 2 ^ k ∧ y' = b / 2 ^ k ∧ o' = (a ^^^ b) % 2 ^ k ∧ p' = 2 ^ k) ∧ o' < p' ∧ p' ≤ 4294967296 ∧ w = wr) (fun _ _ _ _ i _ => 32 - (intOf i).toNat)
  case atStart => exact ⟨0, a, b, 0, 1, by omega, rfl, rfl, rfl, rfl, rfl, ⟨by simp, by simp, by simp [Nat.mod_one], rfl⟩, by omega, by omega, rfl⟩
  case round =>
    obtain ⟨k, x', y', o', p', hk, rfl, rfl, rfl, rfl, rfl, hE, ho, hp, rfl⟩ := hrel
    by_cases hlt : k < 32
    · have i1 : (k : Int) < 32 := by omega
      have hx : x' < 4294967296 := by rw [hE.out.1]; exact Nat.lt_of_le_of_lt (Nat.div_le_self _ _) HA.out
      have hy : y' < 4294967296 := by rw [hE.out.2.1]; exact Nat.lt_of_le_of_lt (Nat.div_le_self _ _) HB.out
      have hpk : p' ≤ 2147483648 := by
        rw [hE.out.2.2.2]
        exact Nat.pow_le_pow_right (n := 2) (by omega) (show k ≤ 31 by omega)
      have hxb := xor_bits a b k
      rw [← hE.out.1, ← hE.out.2.1, ← hE.out.2.2.1, ← hE.out.2.2.2] at hxb
      have hE2 : ∀ o2, o2 = (a ^^^ b) % 2 ^ (k + 1) → Hid (x' / 2 = a / 2 ^ (k + 1) ∧ y' / 2 = b / 2 ^ (k + 1) ∧ o2 = (a ^^^ b) % 2 ^ (k + 1) ∧ p' * 2 = 2 ^ (k + 1)) := fun o2 h => by
        refine ⟨?_, ?_, h, ?_⟩
        · rw [hE.out.1, Nat.div_div_eq_div_mul, Nat.pow_succ]
        · rw [hE.out.2.1, Nat.div_div_eq_div_mul, Nat.pow_succ]
        · rw [hE.out.2.2.2, Nat.pow_succ]
      have HE2 := Lib.hid hE2
      have E1 : Hid (((x' : Int) / 2) = ((x' / 2 : Nat) : Int)) := by show _ = _; omega
      have E2 : Hid (((y' : Int) / 2) = ((y' / 2 : Nat) : Int)) := by show _ = _; omega
      have E3 : Hid (((p' : Int) * 2) = ((p' * 2 : Nat) : Int)) := by show _ = _; omega
      have E4 : Hid (((o' : Int) + (p' : Int)) = ((o' + p' : Nat) : Int)) := by show _ = _; omega
      clear hE hE2
      obtain ⟨bx, hbx⟩ : ∃ q, (x' % 2 == 1) = q := ⟨_, rfl⟩
      obtain ⟨by', hby⟩ : ∃ q, (y' % 2 == 1) = q := ⟨_, rfl⟩
      rw [hbx, hby] at hxb
      have FX := Lib.hid (fun w => bit_is x' bx hbx w)
      have FY := Lib.hid (fun w => bit_is y' by' hby w)
      clear hbx hby
      go_wp2_with fail
      refine (FX.out _).mono ?_
      rintro e w2 ⟨rfl, rfl⟩
      go_wp2_with fail
      refine (FY.out _).mono ?_
      rintro e w3 ⟨rfl, rfl⟩
      cases bx with
      | true => cases by' with
        | true =>
          rw [if_neg (by decide), Nat.add_zero] at hxb
          have HE3 := HE2.out _ hxb.symm
          clear HE2 hxb FX FY
          go_wp2_with fail
          go_roundw
          case rel => exact ⟨k + 1, x' / 2, y' / 2, o', p' * 2, by omega, by rw [E1.out], by rw [E2.out], by first | rfl | rw [E4.out], by rw [E3.out], by go_num, HE3, by omega, by omega, by first | rfl | trivial⟩
          case measure => simp [intOf]; omega
        | false =>
          rw [if_pos (by decide)] at hxb
          have HE3 := HE2.out _ hxb.symm
          clear HE2 hxb FX FY
          go_wp2_with fail
          go_roundw
          case rel => exact ⟨k + 1, x' / 2, y' / 2, o' + p', p' * 2, by omega, by rw [E1.out], by rw [E2.out], by first | rfl | rw [E4.out], by rw [E3.out], by go_num, HE3, by omega, by omega, by first | rfl | trivial⟩
          case measure => simp [intOf]; omega
      | false => cases by' with
        | true =>
          rw [if_pos (by decide)] at hxb
          have HE3 := HE2.out _ hxb.symm
          clear HE2 hxb FX FY
          go_wp2_with fail
          go_roundw
          case rel => exact ⟨k + 1, x' / 2, y' / 2, o' + p', p' * 2, by omega, by rw [E1.out], by rw [E2.out], by first | rfl | rw [E4.out], by rw [E3.out], by go_num, HE3, by omega, by omega, by first | rfl | trivial⟩
          case measure => simp [intOf]; omega
        | false =>
          rw [if_neg (by decide), Nat.add_zero] at hxb
          have HE3 := HE2.out _ hxb.symm
          clear HE2 hxb FX FY
          go_wp2_with fail
          go_roundw
          case rel => exact ⟨k + 1, x' / 2, y' / 2, o', p' * 2, by omega, by rw [E1.out], by rw [E2.out], by first | rfl | rw [E4.out], by rw [E3.out], by go_num, HE3, by omega, by omega, by first | rfl | trivial⟩
          case measure => simp [intOf]; omega
    · have hq : ¬ (k : Int) < 32 := by omega
      have e : k = 32 := by omega
      subst e
      have R : Hid ((o' : Int) = ((a ^^^ b : Nat) : Int)) := by
        show _ = _
        rw [hE.out.2.2.1, Nat.mod_eq_of_lt (xor_lt HA.out HB.out)]
      clear hE
      go_wp2_with fail
      go_ret
      exact ⟨by rw [R.out]; rfl, by first | rfl | trivial⟩

theorem turned_is (a b r : Nat) (hr : a ^^^ b = r) (ha : a < 4294967296) (hb : b < 4294967296) (w : World) :
    Calls Tryd.prog 19 #[.int .u64 a, .int .u64 b] w fun e w' => e = .returned (.int .u64 (r : Nat)) ∧ w = w' := by
  subst hr
  exact turned_any a b ha hb w
set_option maxRecDepth 100000 in
set_option maxHeartbeats 4000000 in
theorem refSum_any {B : Nat} (A : Option Addr) (n c : Nat) (l : List UInt8) (w : World) (hn : l.length = n) (hr : RdB B w A l) (hm : n ≤ 1000000000) :
    Calls Tryd.prog 12 #[.slice A n c] w fun e w' => e = .returned (.int .u32 (crcL l : Nat)) ∧ w = w' := by
  have HN := Lib.hid hn
  clear hn
  go_enter Tryd.func12, Tryd.ntmps12
  go_wp2_with fail
  go_loopw [3, 9] (fun x i wr => ∃ (k s : Nat), k ≤ n ∧ x = .int .u64 s ∧ i = .int .i64 k ∧ Hid (s = crcTo 4294967295 (l.take k)) ∧ s < 4294967296 ∧ w = wr) (fun _ i _ => n - (intOf i).toNat)
  case atStart => exact ⟨0, 4294967295, Nat.zero_le _, rfl, rfl, rfl, by omega, rfl⟩
  case round =>
    obtain ⟨k, s, hk, rfl, rfl, hS, hs, rfl⟩ := hrel
    by_cases hlt : k < n
    · obtain ⟨ad, rfl, _, hc⟩ := hr.at_ (show k < l.length by have := HN.out; omega)
      have i1 : (0 : Int) ≤ (k : Int) := by omega
      have i2 : (k : Int) < (n : Int) := by omega
      have hlk : k < l.length := by have := HN.out; omega
      have HX : Hid (l.take (k + 1) = l.take k ++ [l[k]]) := List.take_succ_eq_append_getElem hlk
      generalize l[k] = x at hc HX
      have hx := byte_lt x
      have hx2 := xor_lt hs hx
      have HS2 : Hid (crcSteps 8 (s ^^^ x.toNat) = crcTo 4294967295 (l.take (k + 1))) := by
        show _ = _
        rw [HX.out, crcTo_snoc, ← hS.out]
        rfl
      have hbx := x.toNat_lt
      have FT := Lib.hid (fun w => turned_is s x.toNat (s ^^^ x.toNat) rfl hs hx w)
      generalize s ^^^ x.toNat = s0 at hx2 HS2 FT
      clear hS HX hx
      go_wp2_with fail
      refine (FT.out _).mono ?_
      rintro e w2 ⟨rfl, rfl⟩
      clear FT
      go_wp2_with fail
      go_loopw [3, 5] (fun y i wr => ∃ (j r : Nat), j ≤ 8 ∧ y = .int .u64 r ∧ i = .int .i64 j ∧ Hid (r = crcSteps j s0) ∧ r < 4294967296 ∧ w = wr) (fun _ i _ => 8 - (intOf i).toNat)
      case atStart => exact ⟨0, s0, by omega, rfl, rfl, rfl, hx2, rfl⟩
      case round =>
        obtain ⟨j, r, hj, rfl, rfl, hR, hrl, rfl⟩ := hrel
        by_cases hjt : j < 8
        · have j1 : (j : Int) < 8 := by omega
          have hst := crcSteps_succ j s0
          rw [← hR.out] at hst
          have E1 : Hid (((r : Int) / 2) = ((r / 2 : Nat) : Int)) := by show _ = _; omega
          by_cases hp : r % 2 = 1
          · have t1 : ((r : Int) % 2 == 1) = true := by rw [beq_iff_eq]; omega
            have HST : Hid (crcSteps (j + 1) s0 = (r / 2) ^^^ 2197175160) := by
              show _ = _
              rw [hst]
              unfold crcStep
              rw [if_pos hp]
            have hl2 : (r / 2) ^^^ 2197175160 < 4294967296 := xor_lt (by omega) (by omega)
            have FT := Lib.hid (fun w => turned_is (r / 2) 2197175160 ((r / 2) ^^^ 2197175160) rfl (by omega) (by omega) w)
            generalize (r / 2) ^^^ 2197175160 = r2 at HST hl2 FT
            rw [← E1.out] at FT
            clear hst hR hp
            go_wp2_with fail
            refine (FT.out _).mono ?_
            rintro e w3 ⟨rfl, rfl⟩
            clear FT
            go_wp2_with fail
            go_roundw
            case rel => exact ⟨j + 1, r2, by omega, rfl, by go_num, HST.out.symm, hl2, by first | rfl | trivial⟩
            case measure => simp [intOf]; omega
          · have t1 : ((r : Int) % 2 == 1) = false := by rw [beq_eq_false_iff_ne]; omega
            have HST : Hid (crcSteps (j + 1) s0 = r / 2) := by
              show _ = _
              rw [hst]
              unfold crcStep
              rw [if_neg hp]
            clear hst hR hp
            go_wp2_with fail
            go_roundw
            case rel => exact ⟨j + 1, r / 2, by omega, by rw [E1.out], by go_num, HST.out.symm, by omega, by first | rfl | trivial⟩
            case measure => simp [intOf]; omega
        · have hq : ¬ (j : Int) < 8 := by omega
          have e8 : j = 8 := by omega
          subst e8
          have HR : Hid (r = crcTo 4294967295 (l.take (k + 1))) := hR.out.trans HS2.out
          clear hR HS2
          go_wp2_with fail
          go_roundw
          case rel => exact ⟨k + 1, r, by omega, rfl, by go_num, HR, hrl, by first | rfl | trivial⟩
          case measure => simp [intOf]; omega
    · have hq : ¬ (k : Int) < (n : Int) := by omega
      have R : Hid (((4294967295 : Int) - (s : Int)) = ((crcL l : Nat) : Int)) := by
        show _ = _
        unfold crcL
        rw [hS.out, List.take_of_length_le (by have := HN.out; omega)]
        have := crcTo_lt l (c := 4294967295) (by omega)
        omega
      clear hS
      go_wp2_with fail
      go_ret
      exact ⟨by rw [← R.out]; rfl, by first | rfl | trivial⟩
end Go.Proofs.YtggoinjjdogmaaaDoor
