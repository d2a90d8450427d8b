/-
  WHAT IS PROVED: digests of bytes: the code's, the document's; a closed fact on two of them. Conditions: those typed in each theorem.
-/
import Derived.Test.YtokkmofcijfmiabGQ9
import Derived.Test.YtokkmofcijfmiabGQ11
import Derived.Test.YtokkmofcijfmiabGQ0
namespace Go.Proofs.Ytokkmofcijfmiab
open Go.RowKit

theorem en_spinney_burl_Digest : ∀ args w, (callFunc 21 args).run Try.prog w = .ok (.enter 21 args) w := enters_of Try.func21 (by kernel_rfl) rfl
theorem en_spinney_spinneyref28_Digest : ∀ args w, (callFunc 48 args).run Try.prog w = .ok (.enter 48 args) w := enters_of Try.func48 (by kernel_rfl) rfl
theorem en_spinney_spinneyref28_turned : ∀ args w, (callFunc 71 args).run Try.prog w = .ok (.enter 71 args) w := enters_of Try.func71 (by kernel_rfl) rfl
theorem en_spinney_spinneylaw28_awake : ∀ args w, (callFunc 6 args).run Try.prog w = .ok (.enter 6 args) w := enters_of Try.func6 (by kernel_rfl) rfl

set_option maxRecDepth 100000 in
set_option maxHeartbeats 1000000 in
set_option maxRecDepth 100000 in
theorem cv_b8 (W : World) (x : UInt8) : (convert 5 36 (.int .u8 (x.toNat : Int))).run Try.prog W = .ok (.int .u64 (x.toNat : Int)) W := by
  have h2 : (convert 5 36 (.int .u8 (x.toNat : Int))).run Try.prog W = .ok (.int .u64 (IntKind.u64.wrap (x.toNat : Int))) W := run_convert_int (P := Try.prog) (w := W) 5 36 .u8 (x.toNat : Int) (by kernel_rfl) (by kernel_rfl)
  rw [wrapN, Nat.mod_eq_of_lt (Nat.lt_trans (UInt8.toNat_lt x) (by decide))] at h2
  exact h2
set_option maxRecDepth 100000 in
set_option maxHeartbeats 1000000 in
theorem dig_any {C : Nat} (A : Option Addr) (n c : Nat) (l : List UInt8) (w : World) (hn0 : l.length = n) (hr : RdB C w A l) (hm : n ≤ 1000000000) : Calls Try.prog 21 #[.slice A n c] w fun e w' => e = .returned (.int .u64 (digL l : Nat)) ∧ w = w' := by
  have HN := Lib.hid hn0
  clear hn0
  go_enter Try.func21, Try.ntmps21
  go_wp2_with fail
  go_loopw [3, 5, 8] (fun x _ i wr => ∃ (k s : Nat), k ≤ n ∧ x = .int .u64 s ∧ i = .int .i64 k ∧ Hid (s = digTo 14695981039346656037 (l.take k)) ∧ s < 18446744073709551616 ∧ w = wr) (fun _ _ i _ => n - (intOf i).toNat)
  case atStart => exact ⟨0, 14695981039346656037, Nat.zero_le _, rfl, rfl, rfl, by omega, rfl⟩
  case round =>
    obtain ⟨k, s, hk, rfl, rfl, hS, hs, rfl⟩ := hrel
    by_cases hlt : k < n
    · obtain ⟨ad, rfl, _, hc⟩ := hr.at_ (show k < l.length by have := HN.out; omega)
      have i1 : (0 : Int) ≤ (k : Int) := by omega
      have i2 : (k : Int) < (n : Int) := by omega
      have hlk : k < l.length := by have := HN.out; omega
      have HX : Hid (digTo 14695981039346656037 (l.take (k + 1)) = digS (digTo 14695981039346656037 (l.take k)) l[k]) := digTo_next (List.getElem?_eq_getElem hlk)
      generalize l[k] = x at hc HX
      have hx : x.toNat < 18446744073709551616 := Nat.lt_trans (UInt8.toNat_lt x) (by decide)
      have E0 := xor_u64 s x.toNat hs hx
      have E1 : IntKind.u64.wrap (((s ^^^ x.toNat : Nat) : Int) * 1099511628211) = (digS s x : Nat) := by
        unfold digS
        rw [← wrapN]
        congr 1
      have cv := fun W => cv_b8 W x
      rw [← hS.out] at HX
      have hl := digS_lt s x
      clear hS
      generalize s ^^^ x.toNat = s0 at *
      generalize digS s x = s1 at *
      go_wp2_with fail
      go_roundw
      case rel => exact ⟨k + 1, s1, by omega, by first | rfl | rw [E1], by go_num, HX.out.symm, hl, by first | rfl | trivial⟩
      case measure => simp [intOf]; omega
    · have i2 : ¬ (k : Int) < (n : Int) := by omega
      have e : k = n := by omega
      subst e
      have R : Hid (s = digL l) := by
        show _ = _
        rw [hS.out, List.take_of_length_le (by rw [HN.out]; exact Nat.le_refl _)]
        rfl
      clear hS
      go_wp2_with fail
      go_ret
      rw [← R.out]
      exact ⟨rfl, rfl⟩
set_option maxRecDepth 100000 in
set_option maxHeartbeats 1000000 in
set_option maxRecDepth 100000 in
theorem cv_u8n (W : World) {x : Nat} (h : x < 256) : (convert 5 36 (.int .u8 (x : Int))).run Try.prog W = .ok (.int .u64 (x : Int)) W := by
  have h2 : (convert 5 36 (.int .u8 (x : Int))).run Try.prog W = .ok (.int .u64 (IntKind.u64.wrap (x : Int))) W := run_convert_int (P := Try.prog) (w := W) 5 36 .u8 (x : Int) (by kernel_rfl) (by kernel_rfl)
  rw [wrapN, Nat.mod_eq_of_lt (by omega)] at h2
  exact h2
set_option maxRecDepth 100000 in
set_option maxHeartbeats 1000000 in
theorem turned28_any (a q : Nat) (ha : a < 18446744073709551616) (hb : q < 256) (w : World) :
    Calls Try.prog 71 #[.int .u64 a, .int .u8 q] w fun e w' => e = .returned (.int .u64 ((a ^^^ q : Nat) : Int)) ∧ w = w' := by
  have HA := Lib.hid ha
  have HB := Lib.hid hb
  have hm := Nat.mod_lt a (show 0 < 256 by decide)
  have m1 : ((a : Int) % 256) = ((a % 256 : Nat) : Int) := by omega
  have R0 : Hid (a - a % 256 + ((a % 256) ^^^ q) = a ^^^ q) := low_xor a q hb
  have ha2 := Nat.mod_le a 256
  have R1 : Hid ((a : Int) - ((a % 256 : Nat) : Int) = ((a - a % 256 : Nat) : Int)) := by show _ = _; omega
  have HM := Lib.hid (show a - a % 256 + 256 ≤ 18446744073709551616 by omega)
  have hcv := fun W => cv_u8n W hb
  clear ha hb
  generalize hlow : a % 256 = a8 at *
  go_enter Try.func71, Try.ntmps71
  go_wp2_with fail
  go_loopw [5, 6, 7, 8, 9] (fun x p o y i wr => ∃ (k x' y' o' p' : Nat), k ≤ 8 ∧ x = .int .u64 x' ∧ y = .int .u64 y' ∧ o = .int .u64 o' ∧ p = .int .u64 p' ∧ i = .int .i64 k ∧ Hid (x' = a8 / 2 ^ k ∧ y' = q / 2 ^ k ∧ o' = (a8 ^^^ q) % 2 ^ k ∧ p' = 2 ^ k) ∧ o' < 256 ∧ p' ≤ 256 ∧ w = wr) (fun _ _ _ _ i _ => 8 - (intOf i).toNat)
  case atStart => exact ⟨0, a8, q, 0, 1, by omega, by first | rfl | rw [m1], rfl, rfl, rfl, rfl, ⟨by simp, by simp, by simp [Nat.mod_one], rfl⟩, by omega, by omega, rfl⟩
  case round =>
    obtain ⟨k, x', y', o', p', hk, rfl, rfl, rfl, rfl, rfl, hE, ho, hp, rfl⟩ := hrel
    by_cases hlt : k < 8
    · have i1 : (k : Int) < 8 := by omega
      have hx : x' < 256 := by rw [hE.out.1]; exact Nat.lt_of_le_of_lt (Nat.div_le_self _ _) hm
      have hy : y' < 256 := by rw [hE.out.2.1]; exact Nat.lt_of_le_of_lt (Nat.div_le_self _ _) HB.out
      have hpk : p' ≤ 128 := by
        rw [hE.out.2.2.2]
        exact Nat.pow_le_pow_right (n := 2) (by omega) (show k ≤ 7 by omega)
      have hxb := xor_bits a8 q k
      rw [← hE.out.1, ← hE.out.2.1, ← hE.out.2.2.1, ← hE.out.2.2.2] at hxb
      have hlo : (a8 ^^^ q) % 2 ^ (k + 1) < 256 := Nat.lt_of_lt_of_le (Nat.mod_lt _ (Nat.pow_pos (by decide))) (Nat.pow_le_pow_right (n := 2) (by omega) (show k + 1 ≤ 8 by omega))
      have hE2 : ∀ o2, o2 = (a8 ^^^ q) % 2 ^ (k + 1) → Hid (x' / 2 = a8 / 2 ^ (k + 1) ∧ y' / 2 = q / 2 ^ (k + 1) ∧ o2 = (a8 ^^^ q) % 2 ^ (k + 1) ∧ p' * 2 = 2 ^ (k + 1)) := fun o2 h => by
        refine ⟨?_, ?_, h, ?_⟩
        · rw [hE.out.1, Nat.div_div_eq_div_mul, Nat.pow_succ]
        · rw [hE.out.2.1, Nat.div_div_eq_div_mul, Nat.pow_succ]
        · rw [hE.out.2.2.2, Nat.pow_succ]
      have HE2 := Lib.hid hE2
      have E1 : Hid (((x' : Int) / 2) = ((x' / 2 : Nat) : Int)) := by show _ = _; omega
      have E2 : Hid (((y' : Int) / 2) = ((y' / 2 : Nat) : Int)) := by show _ = _; omega
      have E3 : Hid (((p' : Int) * 2) = ((p' * 2 : Nat) : Int)) := by show _ = _; omega
      have E4 : Hid (((o' : Int) + (p' : Int)) = ((o' + p' : Nat) : Int)) := by show _ = _; omega
      clear hE hE2
      by_cases hq : x' % 2 = y' % 2
      · have hqi : ((x' : Int) % 2) = ((y' : Int) % 2) := by omega
        have e : ((x' % 2 == 1) != (y' % 2 == 1)) = false := by rw [hq]; simp
        rw [e, if_neg (by decide), Nat.add_zero] at hxb
        have HE3 := HE2.out _ hxb.symm
        clear HE2 hxb e hlo
        go_wp2_with fail
        refine ⟨?_, ?_⟩
        · first
          | exact ⟨k + 1, x' / 2, y' / 2, o', p' * 2, by omega, by rw [E1.out], by rw [E2.out], by first | rfl | rw [E4.out], by first | rfl | rw [E3.out], by go_num, HE3, by omega, by omega, by first | rfl | trivial⟩
          | repeat apply Exists.intro
            refine ⟨?_, rfl⟩
            exact ⟨k + 1, x' / 2, y' / 2, o', p' * 2, by omega, by rw [E1.out], by rw [E2.out], by first | rfl | rw [E4.out], by first | rfl | rw [E3.out], by go_num, HE3, by omega, by omega, by first | rfl | trivial⟩
        · simp [intOf]; omega
      · have hqi : ¬ ((x' : Int) % 2) = ((y' : Int) % 2) := by omega
        have e : ((x' % 2 == 1) != (y' % 2 == 1)) = true := by
          rcases Nat.mod_two_eq_zero_or_one x' with h | h <;> rcases Nat.mod_two_eq_zero_or_one y' with h2 | h2 <;> simp_all
        rw [e, if_pos rfl] at hxb
        have HE3 := HE2.out _ hxb.symm
        have hop : o' + p' < 256 := by rw [← hxb]; exact hlo
        clear HE2 hxb e hlo
        go_wp2_with fail
        refine ⟨?_, ?_⟩
        · first
          | exact ⟨k + 1, x' / 2, y' / 2, o' + p', p' * 2, by omega, by rw [E1.out], by rw [E2.out], by first | rfl | rw [E4.out], by first | rfl | rw [E3.out], by go_num, HE3, by omega, by omega, by first | rfl | trivial⟩
          | repeat apply Exists.intro
            refine ⟨?_, rfl⟩
            exact ⟨k + 1, x' / 2, y' / 2, o' + p', p' * 2, by omega, by rw [E1.out], by rw [E2.out], by first | rfl | rw [E4.out], by first | rfl | rw [E3.out], by go_num, HE3, by omega, by omega, by first | rfl | trivial⟩
        · simp [intOf]; omega
    · have hq : ¬ (k : Int) < 8 := by omega
      have e : k = 8 := by omega
      subst e
      have R : Hid ((((a - a8 : Nat) : Int) + (o' : Int)) = ((a ^^^ q : Nat) : Int)) := by
        show _ = _
        rw [← R0.out, hE.out.2.2.1, Nat.mod_eq_of_lt (Nat.xor_lt_two_pow (n := 8) hm HB.out)]
        rfl
      have hz := HM.out
      clear hE
      go_wp2_with fail
      go_ret
      exact ⟨by first | (rw [R1.out, R.out]; rfl) | (rw [← R.out, ← R1.out]; rfl), by first | rfl | trivial⟩
theorem turned28_is (a q r : Nat) (hr : a ^^^ q = r) (ha : a < 18446744073709551616) (hb : q < 256) (w : World) :
    Calls Try.prog 71 #[.int .u64 a, .int .u8 q] w fun e w' => e = .returned (.int .u64 (r : Nat)) ∧ w = w' := by
  subst hr
  exact turned28_any a q ha hb w
set_option maxRecDepth 100000 in
set_option maxHeartbeats 1000000 in
theorem refDig_any {C : Nat} (A : Option Addr) (n c : Nat) (l : List UInt8) (w : World) (hn0 : l.length = n) (hr : RdB C w A l) (hm : n ≤ 1000000000) : Calls Try.prog 48 #[.slice A n c] w fun e w' => e = .returned (.int .u64 (digL l : Nat)) ∧ w = w' := by
  have HN := Lib.hid hn0
  clear hn0
  go_enter Try.func48, Try.ntmps48
  go_wp2_with fail
  go_loopw [3, 4, 7] (fun x _ i wr => ∃ (k s : Nat), k ≤ n ∧ x = .int .u64 s ∧ i = .int .i64 k ∧ Hid (s = digTo 14695981039346656037 (l.take k)) ∧ s < 18446744073709551616 ∧ w = wr) (fun _ _ i _ => n - (intOf i).toNat)
  case atStart => exact ⟨0, 14695981039346656037, Nat.zero_le _, rfl, rfl, rfl, by omega, rfl⟩
  case round =>
    obtain ⟨k, s, hk, rfl, rfl, hS, hs, rfl⟩ := hrel
    by_cases hlt : k < n
    · obtain ⟨ad, rfl, _, hc⟩ := hr.at_ (show k < l.length by have := HN.out; omega)
      have i1 : (0 : Int) ≤ (k : Int) := by omega
      have i2 : (k : Int) < (n : Int) := by omega
      have hlk : k < l.length := by have := HN.out; omega
      have HX : Hid (digTo 14695981039346656037 (l.take (k + 1)) = digS (digTo 14695981039346656037 (l.take k)) l[k]) := digTo_next (List.getElem?_eq_getElem hlk)
      generalize l[k] = x at hc HX
      have hx : x.toNat < 256 := UInt8.toNat_lt x
      have E1 : IntKind.u64.wrap (((s ^^^ x.toNat : Nat) : Int) * 1099511628211) = (digS s x : Nat) := by
        unfold digS
        rw [← wrapN]
        congr 1
      have F := Lib.hid (turned28_is s x.toNat _ rfl hs hx w)
      rw [← hS.out] at HX
      have hl := digS_lt s x
      clear hS
      generalize s ^^^ x.toNat = s0 at *
      generalize digS s x = s1 at *
      go_wp2_with fail
      refine F.out.mono ?_
      rintro e w2 ⟨rfl, rfl⟩
      go_wp2_with fail
      go_roundw
      case rel => exact ⟨k + 1, s1, by omega, by first | rfl | rw [E1], by go_num, HX.out.symm, hl, by first | rfl | trivial⟩
      case measure => simp [intOf]; omega
    · have i2 : ¬ (k : Int) < (n : Int) := by omega
      have e : k = n := by omega
      subst e
      have R : Hid (s = digL l) := by
        show _ = _
        rw [hS.out, List.take_of_length_le (by rw [HN.out]; exact Nat.le_refl _)]
        rfl
      clear hS
      go_wp2_with fail
      go_ret
      rw [← R.out]
      exact ⟨rfl, rfl⟩
theorem dig_a : digL [97] = 12638187200555641996 := by decide +kernel
theorem dig_0 : digL [] = 14695981039346656037 := rfl
set_option maxRecDepth 100000 in
set_option maxHeartbeats 1000000 in
theorem awake28_any (w : World) : Calls Try.prog 6 #[] w fun e w' => e = .returned (.bool true) ∧ Below w.heap.size w w' := by
  have c1 := dig_any none 0 0 [] w rfl (RdB.nil w.heap.size w none) (by omega)
  have c2 := dig_any (some ⟨w.heap.size, 0, none⟩) 1 1 [97] (w.alloc (.cells #[.int .u8 97] 5)) rfl (rdOneB w 97 w.heap.size rfl) (by omega)
  rw [dig_0] at c1
  rw [dig_a] at c2
  have hB := b0 w (.cells #[.int .u8 97] 5)
  go_enter Try.func6, Try.ntmps6
  go_wp2_with fail
  refine c1.mono ?_
  rintro e w2 ⟨rfl, rfl⟩
  go_wp2_with fail
  refine c2.mono ?_
  rintro e w2 ⟨rfl, rfl⟩
  go_wp2_with fail
  go_ret
  exact ⟨rfl, hB⟩
end Go.Proofs.Ytokkmofcijfmiab
