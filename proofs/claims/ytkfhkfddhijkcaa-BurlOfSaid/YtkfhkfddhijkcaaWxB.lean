/-
  WHAT IS PROVED: skies: Below; the document's half, Next, Below. Conditions: those typed in each theorem.
-/
import Derived.Test.YtkfhkfddhijkcaaGQ14
namespace Go.Proofs.Ytkfhkfddhijkcaa
open Go.RowKit

set_option maxRecDepth 100000 in
set_option maxHeartbeats 4000000 in
theorem half_any (a b : Nat) (ha : a < 18446744073709551616) (hb : b < 18446744073709551616) (w : World) :
    Calls Try.prog 78 #[.int .u64 a, .int .u64 b] w fun e w' => e = .returned (.int .u64 ((a ^^^ b : Nat) : Int)) ∧ w = w' := by
  have HA := Lib.hid ha
  have HB := Lib.hid hb
  clear ha hb
  go_enter Try.func78, Try.ntmps78
  go_wp2_with fail
  go_loopw [0, 1, 5, 6, 7] (fun x y o p i wr => ∃ (k x' y' o' p' : Nat), k ≤ 64 ∧ x = .int .u64 x' ∧ y = .int .u64 y' ∧ o = .int .u64 o' ∧ p = .int .u64 p' ∧ i = .int .i64 k ∧ Hid (x' = a / 2 ^ k ∧ y' = b / 2 ^ k ∧ o' = (a ^^^ b) % 2 ^ k ∧ p' = 2 ^ k % 18446744073709551616) ∧ o' < 18446744073709551616 ∧ p' < 18446744073709551616 ∧ w = wr) (fun _ _ _ _ i _ => 64 - (intOf i).toNat)
  case atStart => exact ⟨0, a, b, 0, 1, by omega, rfl, rfl, rfl, rfl, rfl, ⟨by simp, by simp, by simp [Nat.mod_one], rfl⟩, by omega, by omega, rfl⟩
  case round =>
    obtain ⟨k, x', y', o', p', hk, rfl, rfl, rfl, rfl, rfl, hE, ho, hp, rfl⟩ := hrel
    by_cases hlt : k < 64
    · have i1 : (k : Int) < 64 := by omega
      have hx : x' < 18446744073709551616 := by rw [hE.out.1]; exact Nat.lt_of_le_of_lt (Nat.div_le_self _ _) HA.out
      have hy : y' < 18446744073709551616 := by rw [hE.out.2.1]; exact Nat.lt_of_le_of_lt (Nat.div_le_self _ _) HB.out
      have hpk : p' = 2 ^ k := by
        rw [hE.out.2.2.2]
        exact Nat.mod_eq_of_lt (Nat.lt_of_le_of_lt (Nat.pow_le_pow_right (n := 2) (by omega) (show k ≤ 63 by omega)) (by decide))
      have hxb := xor_bits a b k
      rw [← hE.out.1, ← hE.out.2.1, ← hE.out.2.2.1, ← hpk] at hxb
      have hlo : (a ^^^ b) % 2 ^ (k + 1) < 18446744073709551616 := Nat.lt_of_lt_of_le (Nat.mod_lt _ (Nat.pow_pos (by decide))) (Nat.pow_le_pow_right (n := 2) (by omega) (show k + 1 ≤ 64 by omega))
      have hE2 : ∀ o2, o2 = (a ^^^ b) % 2 ^ (k + 1) → Hid (x' / 2 = a / 2 ^ (k + 1) ∧ y' / 2 = b / 2 ^ (k + 1) ∧ o2 = (a ^^^ b) % 2 ^ (k + 1) ∧ p' * 2 % 18446744073709551616 = 2 ^ (k + 1) % 18446744073709551616) := fun o2 h => by
        refine ⟨?_, ?_, h, ?_⟩
        · rw [hE.out.1, Nat.div_div_eq_div_mul, Nat.pow_succ]
        · rw [hE.out.2.1, Nat.div_div_eq_div_mul, Nat.pow_succ]
        · rw [hpk, Nat.pow_succ]
      have HE2 := Lib.hid hE2
      have E1 : Hid (((x' : Int) / 2) = ((x' / 2 : Nat) : Int)) := by show _ = _; omega
      have E2 : Hid (((y' : Int) / 2) = ((y' / 2 : Nat) : Int)) := by show _ = _; omega
      have E3 : IntKind.u64.wrap ((p' : Int) * 2) = ((p' * 2 % 18446744073709551616 : Nat) : Int) := by rw [← wrapN]; rfl
      have E4 : Hid (((o' : Int) + (p' : Int)) = ((o' + p' : Nat) : Int)) := by show _ = _; omega
      have hp2 : p' * 2 % 18446744073709551616 < 18446744073709551616 := Nat.mod_lt _ (by decide)
      clear hE hE2 hpk
      generalize p' * 2 % 18446744073709551616 = p2 at E3 hp2 HE2
      by_cases hq : x' % 2 = y' % 2
      · have hqi : ((x' : Int) % 2) = ((y' : Int) % 2) := by omega
        have e : ((x' % 2 == 1) != (y' % 2 == 1)) = false := by rw [hq]; simp
        rw [e, if_neg (by decide), Nat.add_zero] at hxb
        have HE3 := HE2.out _ hxb.symm
        clear HE2 hxb e hlo
        go_wp2_with fail
        go_roundw
        case rel => exact ⟨k + 1, x' / 2, y' / 2, o', p2, by omega, by rw [E1.out], by rw [E2.out], by first | rfl | rw [E4.out], by first | rfl | rw [E3], by go_num, HE3, by omega, by omega, by first | rfl | trivial⟩
        case measure => simp [intOf]; omega
      · have hqi : ¬ ((x' : Int) % 2) = ((y' : Int) % 2) := by omega
        have e : ((x' % 2 == 1) != (y' % 2 == 1)) = true := by
          rcases Nat.mod_two_eq_zero_or_one x' with h | h <;> rcases Nat.mod_two_eq_zero_or_one y' with h2 | h2 <;> simp_all
        rw [e, if_pos rfl] at hxb
        have HE3 := HE2.out _ hxb.symm
        have hop : o' + p' < 18446744073709551616 := by rw [← hxb]; exact hlo
        clear HE2 hxb e hlo
        go_wp2_with fail
        go_roundw
        case rel => exact ⟨k + 1, x' / 2, y' / 2, o' + p', p2, by omega, by rw [E1.out], by rw [E2.out], by first | rfl | rw [E4.out], by first | rfl | rw [E3], by go_num, HE3, by omega, by omega, by first | rfl | trivial⟩
        case measure => simp [intOf]; omega
    · have hq : ¬ (k : Int) < 64 := by omega
      have e : k = 64 := by omega
      subst e
      have R : Hid ((o' : Int) = ((a ^^^ b : Nat) : Int)) := by
        show _ = _
        rw [hE.out.2.2.1, Nat.mod_eq_of_lt (xor64_lt HA.out HB.out)]
      clear hE
      go_wp2_with fail
      go_ret
      exact ⟨by rw [R.out]; rfl, by first | rfl | trivial⟩
theorem half_is (a q r : Nat) (hr : a ^^^ q = r) (ha : a < 18446744073709551616) (hb : q < 18446744073709551616) (w : World) :
    Calls Try.prog 78 #[.int .u64 a, .int .u64 q] w fun e w' => e = .returned (.int .u64 (r : Nat)) ∧ w = w' := by
  subst hr
  exact half_any a q ha hb w
theorem wrapD {x : Int} {k n : Nat} (h : x = (k : Int)) (hn : n < 18446744073709551616) (hk : k ≤ n) : IntKind.u64.wrap x = (k : Int) := by
  rw [h, wrapN, Nat.mod_eq_of_lt (by omega)]
set_option maxRecDepth 100000 in
set_option maxHeartbeats 4000000 in
theorem refNext_any (s : Nat) (w : World) (hs : s < 18446744073709551616) : Calls Try.prog 28 #[.int .u64 (s : Int)] w fun e w' => e = .returned (.tuple #[.int .u64 (nxS s : Nat), .int .u64 (nxV s : Nat)]) ∧ w = w' := by
  have h1 : IntKind.u64.wrap ((s : Int) + 11400714819323198485) = (nxS s : Nat) := by
    unfold nxS
    rw [← wrapN]
    rfl
  have HS := Lib.hid (nxS_lt s)
  have HR : Hid (nxV s = lastW (mixW 134217728 10723151780598845931 (mixW 1073741824 13787848793156543929 (nxS s)))) := by show _ = _; rfl
  generalize nxS s = z at *
  have a2 : IntKind.u64.wrap (((z ^^^ (z / 1073741824) : Nat) : Int) * 13787848793156543929) = (mixW 1073741824 13787848793156543929 z : Nat) := by
    unfold mixW
    rw [← wrapN]
    congr 1
  have l2 := mixW_lt 1073741824 13787848793156543929 z
  have F1 := Lib.hid (fun w => half_is z (z / 1073741824) _ rfl HS.out (Nat.lt_of_le_of_lt (Nat.div_le_self _ _) HS.out) w)
  generalize mixW 1073741824 13787848793156543929 z = y at a2 l2 HR
  have a4 : IntKind.u64.wrap (((y ^^^ (y / 134217728) : Nat) : Int) * 10723151780598845931) = (mixW 134217728 10723151780598845931 y : Nat) := by
    unfold mixW
    rw [← wrapN]
    congr 1
  have l3 := mixW_lt 134217728 10723151780598845931 y
  have F2 := Lib.hid (fun w => half_is y (y / 134217728) _ rfl l2 (Nat.lt_of_le_of_lt (Nat.div_le_self _ _) l2) w)
  generalize mixW 134217728 10723151780598845931 y = x at a4 l3 HR
  have F3 := Lib.hid (fun w => half_is x (x / 2147483648) _ rfl l3 (Nat.lt_of_le_of_lt (Nat.div_le_self _ _) l3) w)
  have d1 : IntKind.u64.wrap ((z : Int) / 1073741824) = ((z / 1073741824 : Nat) : Int) := wrapD (by omega) HS.out (by omega)
  have d2 : IntKind.u64.wrap ((y : Int) / 134217728) = ((y / 134217728 : Nat) : Int) := wrapD (by omega) l2 (by omega)
  have d3 : IntKind.u64.wrap ((x : Int) / 2147483648) = ((x / 2147483648 : Nat) : Int) := wrapD (by omega) l3 (by omega)
  clear l2 l3
  generalize z ^^^ (z / 1073741824) = q1 at *
  generalize y ^^^ (y / 134217728) = q2 at *
  unfold lastW at HR
  generalize x ^^^ (x / 2147483648) = q3 at *
  go_enter Try.func28, Try.ntmps28
  go_wp2_with fail
  refine (F1.out _).mono ?_
  rintro e w2 ⟨rfl, rfl⟩
  go_wp2_with fail
  refine (F2.out _).mono ?_
  rintro e w3 ⟨rfl, rfl⟩
  go_wp2_with fail
  refine (F3.out _).mono ?_
  rintro e w4 ⟨rfl, rfl⟩
  go_wp2_with fail
  refine bodyPost_ret (results_tmp2 (by rfl) _ _ _) rfl ?_
  rw [HR.out]
  exact ⟨rfl, by first | rfl | trivial⟩
theorem wrapI {y : Nat} (h : y ≤ 9223372036854775807) : IntKind.i64.wrap (y : Int) = (y : Int) := by
  unfold IntKind.wrap
  simp [IntKind.bits, IntKind.signed]
  omega
set_option maxRecDepth 100000 in
theorem cv_ui (W : World) {y : Nat} (h : y ≤ 9223372036854775807) : (convert 54 3 (.int .u64 (y : Int))).run Try.prog W = .ok (.int .i64 (y : Int)) W := by
  have h2 : (convert 54 3 (.int .u64 (y : Int))).run Try.prog W = .ok (.int .i64 (IntKind.i64.wrap (y : Int))) W := run_convert_int (P := Try.prog) (w := W) 54 3 .u64 (y : Int) (by kernel_rfl) (by kernel_rfl)
  rw [wrapI h] at h2
  exact h2
theorem rem_uu (i j : Nat) (W : World) (z m : Nat) (hm : 0 < m) (hz : z < 18446744073709551616) : ((do eqGuard .rem 54 (.tmp i) (.tmp j) (.int .u64 (z : Int)) (.int .u64 (m : Int)); binOp .rem 54 (.int .u64 (z : Int)) (.int .u64 (m : Int))) : Sem Value).run Try.prog W = .ok (.int .u64 ((z % m : Nat) : Int)) W := by
  have m0 : ¬ m = 0 := by omega
  have m1 : Int.tmod (z : Int) (m : Int) = ((z % m : Nat) : Int) := rfl
  rw [← m1]
  clear m1 hz hm
  unfold binOp
  simp only [eqGuard, go_sem]
  simp [m0]
/-- A sky that was asked. -/
def SkyR (p s : Nat) (v : Value) (w : World) (e : Ending) (w' : World) : Prop := e = .returned v ∧ SkyB w' p s ∧ Exc p w w'
theorem conv_iu (n : Int) (h : 1 ≤ n) (h2 : n ≤ 9223372036854775807) : IntKind.u64.wrap n = n := by
  unfold IntKind.wrap
  simp [IntKind.bits, IntKind.signed]
  omega
set_option maxRecDepth 100000 in
set_option maxHeartbeats 4000000 in
theorem skyBelow_any (s p : Nat) (n : Int) (w : World) (hs : s < 18446744073709551616) (hn : n ≤ 9223372036854775807) (hX : SkyB w p s) : Calls Try.prog 31 #[.pointer (some ⟨p, 0, none⟩), .int .i64 n] w fun e w' => e = .returned (.int .i64 (blV s n)) ∧ SkyB w' p (blS s n) ∧ Only1 p w w' := by
  by_cases h1 : n < 1
  · rw [blV_0 s h1]
    have e : blS s n = s := by unfold blS; rw [if_pos h1]
    rw [e]
    go_enter Try.func31, Try.ntmps31
    go_wp2_with fail
    go_ret
    exact ⟨rfl, hX, Only1.refl _ _⟩
  · have e : blS s n = nxS s := by unfold blS; rw [if_neg h1]
    obtain ⟨m, rfl⟩ : ∃ m : Nat, n = (m : Int) := ⟨n.toNat, by omega⟩
    have e2 : blV s (m : Int) = ((nxV s % m : Nat) : Int) := by unfold blV; rw [if_neg h1, Int.toNat_natCast]
    rw [e, e2]
    have F := Lib.hid (skyNext_any s p w hs hX)
    have hm : 0 < m := by omega
    have cv := conv_iu (m : Int) (by omega) hn
    have hlt := nxV_lt s
    have hml := Nat.mod_lt (nxV s) hm
    generalize nxV s = z at *
    have m1 : ((z : Int) % (m : Int)) = ((z % m : Nat) : Int) := by omega
    have m0 : ¬ (m : Int) = 0 := by omega
    have cvA : ∀ W, (convert 3 54 (.int .i64 (m : Int))).run Try.prog W = .ok (.int .u64 (m : Int)) W := fun W => by go_simp
    have cvB : ∀ W, ((do eqGuard .rem 54 (.tmp 8) (.tmp 10) (.int .u64 (z : Int)) (.int .u64 (m : Int)); binOp .rem 54 (.int .u64 (z : Int)) (.int .u64 (m : Int))) : Sem Value).run Try.prog W = .ok (.int .u64 ((z % m : Nat) : Int)) W := fun W => rem_uu 8 10 W z m hm hlt
    have cvC : ∀ W, (convert 54 3 (.int .u64 ((z % m : Nat) : Int))).run Try.prog W = .ok (.int .i64 ((z % m : Nat) : Int)) W := fun W => cv_ui W (by omega)
    clear e e2 hs hX m1 cv
    go_enter Try.func31, Try.ntmps31
    have m2 : ¬ (m : Int) < 1 := h1
    go_upto_region 3 with fail
    refine wp_region_lit ?_
    refine fl_start ?_
    generalize ha : Act.mk _ _ = a0
    have hn : a0.tmps.size = 13 := by rw [← ha]; kernel_rfl
    have h0 : (fr a0 []).eval (.tmp 0) = .pointer (some ⟨p, 0, none⟩) := by rw [← ha]; kernel_rfl
    refine fl_know hn rfl h0 ?_
    clear h0
    have h1 : (fr a0 [(0, true, .pointer (some ⟨p, 0, none⟩))]).eval (.tmp 1) = .int .i64 (m : Int) := by rw [← ha]; kernel_rfl
    refine fl_know hn rfl h1 ?_
    clear h1
    refine g_mv hn ?_
    refine g_c1x en_spinney_weather_Sky_Next hn (R := fun v w2 => v = .int .u64 (z : Int) ∧ SkyB w2 p (nxS s) ∧ Only1 p w w2) (F.out.mono fun _ _ ⟨he, hb2⟩ => ⟨_, he, rfl, hb2⟩) ?_
    rintro v w2 ⟨rfl, hX2, ho⟩
    have cvA := cvA w2
    have cvB := cvB w2
    have cvC := cvC w2
    refine g_mv hn ?_
    refine g_cv hn ?_
    refine g_bn hn ?_
    refine g_cv hn ?_
    refine g_as hn ?_
    refine fl_end ?_
    clear hn
    subst ha
    dsimp only [fr, cnd, Act.put, cond_true]
    simp only [List.setIfInBounds_toArray, List.set_cons_zero, List.set_cons_succ]
    go_wp2_with fail
    go_ret
    exact ⟨rfl, hX2, ho⟩
end Go.Proofs.Ytkfhkfddhijkcaa
