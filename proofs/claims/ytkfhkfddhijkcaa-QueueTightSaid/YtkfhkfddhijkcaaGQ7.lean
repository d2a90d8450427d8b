/-
  WHAT IS PROVED: skies: Below; the document's half, Next, Below. Conditions: those typed in each theorem. · skies: By; the document's Below, By. Conditions: those typed in each theorem.
-/
import Derived.Test.YtkfhkfddhijkcaaGQ6
import Derived.Test.YtkfhkfddhijkcaaStrs
namespace Go.Proofs.Ytkfhkfddhijkcaa
open Go.RowKit

set_option maxRecDepth 100000 in
set_option maxHeartbeats 4000000 in
theorem half_any (a b : Nat) (ha : a < 18446744073709551616) (hb : b < 18446744073709551616) (w : World) :
    Calls Try.prog 78 #[.int .u64 a, .int .u64 b] w fun e w' => e = .returned (.int .u64 ((a ^^^ b : Nat) : Int)) ∧ w = w' := by
  have HA := Lib.hid ha
  have HB := Lib.hid hb
  clear ha hb
  go_enter Try.func78, Try.ntmps78
  go_wp2_with fail
  go_loopw [0, 1, 5, 6, 7] (fun x y o p i wr => ∃ (k x' y' o' p' : Nat), k ≤ 64 ∧ x = .int .u64 x' ∧ y = .int .u64 y' ∧ o = .int .u64 o' ∧ p = .int .u64 p' ∧ i = .int .i64 k ∧ Hid (x' = a / 2 ^ k ∧ y' = b / 2 ^ k ∧ o' = (a ^^^ b) % 2 ^ k ∧ p' = 2 ^ k % 18446744073709551616) ∧ o' < 18446744073709551616 ∧ p' < 18446744073709551616 ∧ w = wr) (fun _ _ _ _ i _ => 64 - (intOf i).toNat)
  case atStart => exact ⟨0, a, b, 0, 1, by omega, rfl, rfl, rfl, rfl, rfl, ⟨by simp, by simp, by simp [Nat.mod_one], rfl⟩, by omega, by omega, rfl⟩
  case round =>
    obtain ⟨k, x', y', o', p', hk, rfl, rfl, rfl, rfl, rfl, hE, ho, hp, rfl⟩ := hrel
    by_cases hlt : k < 64
    · have i1 : (k : Int) < 64 := by omega
      have hx : x' < 18446744073709551616 := by rw [hE.out.1]; exact Nat.lt_of_le_of_lt (Nat.div_le_self _ _) HA.out
      have hy : y' < 18446744073709551616 := by rw [hE.out.2.1]; exact Nat.lt_of_le_of_lt (Nat.div_le_self _ _) HB.out
      have hpk : p' = 2 ^ k := by
        rw [hE.out.2.2.2]
        exact Nat.mod_eq_of_lt (Nat.lt_of_le_of_lt (Nat.pow_le_pow_right (n := 2) (by omega) (show k ≤ 63 by omega)) (by decide))
      have hxb := xor_bits a b k
      rw [← hE.out.1, ← hE.out.2.1, ← hE.out.2.2.1, ← hpk] at hxb
      have hlo : (a ^^^ b) % 2 ^ (k + 1) < 18446744073709551616 := Nat.lt_of_lt_of_le (Nat.mod_lt _ (Nat.pow_pos (by decide))) (Nat.pow_le_pow_right (n := 2) (by omega) (show k + 1 ≤ 64 by omega))
      have hE2 : ∀ o2, o2 = (a ^^^ b) % 2 ^ (k + 1) → Hid (x' / 2 = a / 2 ^ (k + 1) ∧ y' / 2 = b / 2 ^ (k + 1) ∧ o2 = (a ^^^ b) % 2 ^ (k + 1) ∧ p' * 2 % 18446744073709551616 = 2 ^ (k + 1) % 18446744073709551616) := fun o2 h => by
        refine ⟨?_, ?_, h, ?_⟩
        · rw [hE.out.1, Nat.div_div_eq_div_mul, Nat.pow_succ]
        · rw [hE.out.2.1, Nat.div_div_eq_div_mul, Nat.pow_succ]
        · rw [hpk, Nat.pow_succ]
      have HE2 := Lib.hid hE2
      have E1 : Hid (((x' : Int) / 2) = ((x' / 2 : Nat) : Int)) := by show _ = _; omega
      have E2 : Hid (((y' : Int) / 2) = ((y' / 2 : Nat) : Int)) := by show _ = _; omega
      have E3 : IntKind.u64.wrap ((p' : Int) * 2) = ((p' * 2 % 18446744073709551616 : Nat) : Int) := by rw [← wrapN]; rfl
      have E4 : Hid (((o' : Int) + (p' : Int)) = ((o' + p' : Nat) : Int)) := by show _ = _; omega
      have hp2 : p' * 2 % 18446744073709551616 < 18446744073709551616 := Nat.mod_lt _ (by decide)
      clear hE hE2 hpk
      generalize p' * 2 % 18446744073709551616 = p2 at E3 hp2 HE2
      by_cases hq : x' % 2 = y' % 2
      · have hqi : ((x' : Int) % 2) = ((y' : Int) % 2) := by omega
        have e : ((x' % 2 == 1) != (y' % 2 == 1)) = false := by rw [hq]; simp
        rw [e, if_neg (by decide), Nat.add_zero] at hxb
        have HE3 := HE2.out _ hxb.symm
        clear HE2 hxb e hlo
        go_wp2_with fail
        go_roundw
        case rel => exact ⟨k + 1, x' / 2, y' / 2, o', p2, by omega, by rw [E1.out], by rw [E2.out], by first | rfl | rw [E4.out], by first | rfl | rw [E3], by go_num, HE3, by omega, by omega, by first | rfl | trivial⟩
        case measure => simp [intOf]; omega
      · have hqi : ¬ ((x' : Int) % 2) = ((y' : Int) % 2) := by omega
        have e : ((x' % 2 == 1) != (y' % 2 == 1)) = true := by
          rcases Nat.mod_two_eq_zero_or_one x' with h | h <;> rcases Nat.mod_two_eq_zero_or_one y' with h2 | h2 <;> simp_all
        rw [e, if_pos rfl] at hxb
        have HE3 := HE2.out _ hxb.symm
        have hop : o' + p' < 18446744073709551616 := by rw [← hxb]; exact hlo
        clear HE2 hxb e hlo
        go_wp2_with fail
        go_roundw
        case rel => exact ⟨k + 1, x' / 2, y' / 2, o' + p', p2, by omega, by rw [E1.out], by rw [E2.out], by first | rfl | rw [E4.out], by first | rfl | rw [E3], by go_num, HE3, by omega, by omega, by first | rfl | trivial⟩
        case measure => simp [intOf]; omega
    · have hq : ¬ (k : Int) < 64 := by omega
      have e : k = 64 := by omega
      subst e
      have R : Hid ((o' : Int) = ((a ^^^ b : Nat) : Int)) := by
        show _ = _
        rw [hE.out.2.2.1, Nat.mod_eq_of_lt (xor64_lt HA.out HB.out)]
      clear hE
      go_wp2_with fail
      go_ret
      exact ⟨by rw [R.out]; rfl, by first | rfl | trivial⟩
theorem half_is (a q r : Nat) (hr : a ^^^ q = r) (ha : a < 18446744073709551616) (hb : q < 18446744073709551616) (w : World) :
    Calls Try.prog 78 #[.int .u64 a, .int .u64 q] w fun e w' => e = .returned (.int .u64 (r : Nat)) ∧ w = w' := by
  subst hr
  exact half_any a q ha hb w
theorem wrapD {x : Int} {k n : Nat} (h : x = (k : Int)) (hn : n < 18446744073709551616) (hk : k ≤ n) : IntKind.u64.wrap x = (k : Int) := by
  rw [h, wrapN, Nat.mod_eq_of_lt (by omega)]
set_option maxRecDepth 100000 in
set_option maxHeartbeats 4000000 in
theorem refNext_any (s : Nat) (w : World) (hs : s < 18446744073709551616) : Calls Try.prog 28 #[.int .u64 (s : Int)] w fun e w' => e = .returned (.tuple #[.int .u64 (nxS s : Nat), .int .u64 (nxV s : Nat)]) ∧ w = w' := by
  have h1 : IntKind.u64.wrap ((s : Int) + 11400714819323198485) = (nxS s : Nat) := by
    unfold nxS
    rw [← wrapN]
    rfl
  have HS := Lib.hid (nxS_lt s)
  have HR : Hid (nxV s = lastW (mixW 134217728 10723151780598845931 (mixW 1073741824 13787848793156543929 (nxS s)))) := by show _ = _; rfl
  generalize nxS s = z at *
  have a2 : IntKind.u64.wrap (((z ^^^ (z / 1073741824) : Nat) : Int) * 13787848793156543929) = (mixW 1073741824 13787848793156543929 z : Nat) := by
    unfold mixW
    rw [← wrapN]
    congr 1
  have l2 := mixW_lt 1073741824 13787848793156543929 z
  have F1 := Lib.hid (fun w => half_is z (z / 1073741824) _ rfl HS.out (Nat.lt_of_le_of_lt (Nat.div_le_self _ _) HS.out) w)
  generalize mixW 1073741824 13787848793156543929 z = y at a2 l2 HR
  have a4 : IntKind.u64.wrap (((y ^^^ (y / 134217728) : Nat) : Int) * 10723151780598845931) = (mixW 134217728 10723151780598845931 y : Nat) := by
    unfold mixW
    rw [← wrapN]
    congr 1
  have l3 := mixW_lt 134217728 10723151780598845931 y
  have F2 := Lib.hid (fun w => half_is y (y / 134217728) _ rfl l2 (Nat.lt_of_le_of_lt (Nat.div_le_self _ _) l2) w)
  generalize mixW 134217728 10723151780598845931 y = x at a4 l3 HR
  have F3 := Lib.hid (fun w => half_is x (x / 2147483648) _ rfl l3 (Nat.lt_of_le_of_lt (Nat.div_le_self _ _) l3) w)
  have d1 : IntKind.u64.wrap ((z : Int) / 1073741824) = ((z / 1073741824 : Nat) : Int) := wrapD (by omega) HS.out (by omega)
  have d2 : IntKind.u64.wrap ((y : Int) / 134217728) = ((y / 134217728 : Nat) : Int) := wrapD (by omega) l2 (by omega)
  have d3 : IntKind.u64.wrap ((x : Int) / 2147483648) = ((x / 2147483648 : Nat) : Int) := wrapD (by omega) l3 (by omega)
  clear l2 l3
  generalize z ^^^ (z / 1073741824) = q1 at *
  generalize y ^^^ (y / 134217728) = q2 at *
  unfold lastW at HR
  generalize x ^^^ (x / 2147483648) = q3 at *
  go_enter Try.func28, Try.ntmps28
  go_wp2_with fail
  refine (F1.out _).mono ?_
  rintro e w2 ⟨rfl, rfl⟩
  go_wp2_with fail
  refine (F2.out _).mono ?_
  rintro e w3 ⟨rfl, rfl⟩
  go_wp2_with fail
  refine (F3.out _).mono ?_
  rintro e w4 ⟨rfl, rfl⟩
  go_wp2_with fail
  refine bodyPost_ret (results_tmp2 (by rfl) _ _ _) rfl ?_
  rw [HR.out]
  exact ⟨rfl, by first | rfl | trivial⟩
theorem wrapI {y : Nat} (h : y ≤ 9223372036854775807) : IntKind.i64.wrap (y : Int) = (y : Int) := by
  unfold IntKind.wrap
  simp [IntKind.bits, IntKind.signed]
  omega
set_option maxRecDepth 100000 in
theorem cv_ui (W : World) {y : Nat} (h : y ≤ 9223372036854775807) : (convert 54 3 (.int .u64 (y : Int))).run Try.prog W = .ok (.int .i64 (y : Int)) W := by
  have h2 : (convert 54 3 (.int .u64 (y : Int))).run Try.prog W = .ok (.int .i64 (IntKind.i64.wrap (y : Int))) W := run_convert_int (P := Try.prog) (w := W) 54 3 .u64 (y : Int) (by kernel_rfl) (by kernel_rfl)
  rw [wrapI h] at h2
  exact h2
theorem rem_uu (i j : Nat) (W : World) (z m : Nat) (hm : 0 < m) (hz : z < 18446744073709551616) : ((do eqGuard .rem 54 (.tmp i) (.tmp j) (.int .u64 (z : Int)) (.int .u64 (m : Int)); binOp .rem 54 (.int .u64 (z : Int)) (.int .u64 (m : Int))) : Sem Value).run Try.prog W = .ok (.int .u64 ((z % m : Nat) : Int)) W := by
  have m0 : ¬ m = 0 := by omega
  have m1 : Int.tmod (z : Int) (m : Int) = ((z % m : Nat) : Int) := rfl
  rw [← m1]
  clear m1 hz hm
  unfold binOp
  simp only [eqGuard, go_sem]
  simp [m0]
/-- A sky that was asked. -/
def SkyR (p s : Nat) (v : Value) (w : World) (e : Ending) (w' : World) : Prop := e = .returned v ∧ SkyB w' p s ∧ Exc p w w'
theorem conv_iu (n : Int) (h : 1 ≤ n) (h2 : n ≤ 9223372036854775807) : IntKind.u64.wrap n = n := by
  unfold IntKind.wrap
  simp [IntKind.bits, IntKind.signed]
  omega
set_option maxRecDepth 100000 in
set_option maxHeartbeats 4000000 in
theorem skyBelow_any (s p : Nat) (n : Int) (w : World) (hs : s < 18446744073709551616) (hn : n ≤ 9223372036854775807) (hX : SkyB w p s) : Calls Try.prog 31 #[.pointer (some ⟨p, 0, none⟩), .int .i64 n] w fun e w' => e = .returned (.int .i64 (blV s n)) ∧ SkyB w' p (blS s n) ∧ Only1 p w w' := by
  by_cases h1 : n < 1
  · rw [blV_0 s h1]
    have e : blS s n = s := by unfold blS; rw [if_pos h1]
    rw [e]
    go_enter Try.func31, Try.ntmps31
    go_wp2_with fail
    go_ret
    exact ⟨rfl, hX, Only1.refl _ _⟩
  · have e : blS s n = nxS s := by unfold blS; rw [if_neg h1]
    obtain ⟨m, rfl⟩ : ∃ m : Nat, n = (m : Int) := ⟨n.toNat, by omega⟩
    have e2 : blV s (m : Int) = ((nxV s % m : Nat) : Int) := by unfold blV; rw [if_neg h1, Int.toNat_natCast]
    rw [e, e2]
    have F := Lib.hid (skyNext_any s p w hs hX)
    have hm : 0 < m := by omega
    have cv := conv_iu (m : Int) (by omega) hn
    have hlt := nxV_lt s
    have hml := Nat.mod_lt (nxV s) hm
    generalize nxV s = z at *
    have m1 : ((z : Int) % (m : Int)) = ((z % m : Nat) : Int) := by omega
    have m0 : ¬ (m : Int) = 0 := by omega
    have cvA : ∀ W, (convert 3 54 (.int .i64 (m : Int))).run Try.prog W = .ok (.int .u64 (m : Int)) W := fun W => by go_simp
    have cvB : ∀ W, ((do eqGuard .rem 54 (.tmp 8) (.tmp 10) (.int .u64 (z : Int)) (.int .u64 (m : Int)); binOp .rem 54 (.int .u64 (z : Int)) (.int .u64 (m : Int))) : Sem Value).run Try.prog W = .ok (.int .u64 ((z % m : Nat) : Int)) W := fun W => rem_uu 8 10 W z m hm hlt
    have cvC : ∀ W, (convert 54 3 (.int .u64 ((z % m : Nat) : Int))).run Try.prog W = .ok (.int .i64 ((z % m : Nat) : Int)) W := fun W => cv_ui W (by omega)
    clear e e2 hs hX m1 cv
    go_enter Try.func31, Try.ntmps31
    have m2 : ¬ (m : Int) < 1 := h1
    go_upto_region 3 with fail
    refine wp_region_lit ?_
    refine fl_start ?_
    generalize ha : Act.mk _ _ = a0
    have hn : a0.tmps.size = 13 := by rw [← ha]; kernel_rfl
    have h0 : (fr a0 []).eval (.tmp 0) = .pointer (some ⟨p, 0, none⟩) := by rw [← ha]; kernel_rfl
    refine fl_know hn rfl h0 ?_
    clear h0
    have h1 : (fr a0 [(0, true, .pointer (some ⟨p, 0, none⟩))]).eval (.tmp 1) = .int .i64 (m : Int) := by rw [← ha]; kernel_rfl
    refine fl_know hn rfl h1 ?_
    clear h1
    refine g_mv hn ?_
    refine g_c1x en_spinney_weather_Sky_Next hn (R := fun v w2 => v = .int .u64 (z : Int) ∧ SkyB w2 p (nxS s) ∧ Only1 p w w2) (F.out.mono fun _ _ ⟨he, hb2⟩ => ⟨_, he, rfl, hb2⟩) ?_
    rintro v w2 ⟨rfl, hX2, ho⟩
    have cvA := cvA w2
    have cvB := cvB w2
    have cvC := cvC w2
    refine g_mv hn ?_
    refine g_cv hn ?_
    refine g_bn hn ?_
    refine g_cv hn ?_
    refine g_as hn ?_
    refine fl_end ?_
    clear hn
    subst ha
    dsimp only [fr, cnd, Act.put, cond_true]
    simp only [List.setIfInBounds_toArray, List.set_cons_zero, List.set_cons_succ]
    go_wp2_with fail
    go_ret
    exact ⟨rfl, hX2, ho⟩
end Go.Proofs.Ytkfhkfddhijkcaa

namespace Go.Proofs.Ytkfhkfddhijkcaa
open Go.RowKit

theorem en_spinney_weather_Sky_By_1 : ∀ args w, (callFunc 80 args).run Try.prog w = .ok (.enter 80 args) w := enters_of Try.func80 (by kernel_rfl) rfl
theorem en_slices_IndexFunc_int_int : ∀ args w, (callFunc 79 args).run Try.prog w = .ok (.enter 79 args) w := enters_of Try.func79 (by kernel_rfl) rfl
theorem en_spinney_weather_Sky_By : ∀ args w, (callFunc 33 args).run Try.prog w = .ok (.enter 33 args) w := enters_of Try.func33 (by kernel_rfl) rfl
theorem en_spinney_spinneyref29_By : ∀ args w, (callFunc 32 args).run Try.prog w = .ok (.enter 32 args) w := enters_of Try.func32 (by kernel_rfl) rfl

theorem callf_isC {w : World} {f : FuncId} (he : ∀ args w, (callFunc f args).run Try.prog w = .ok (.enter f args) w) (d : Option Tmp) (x y : Operand) (ts : Array TypeId) (ty : TypeId) (p : String) (af : Array Edge) (gd : Option (Nat × Bool)) (ρ : Operand → Value) (v : Value) (lb : Array Value) (h0 : ρ x = .func (.func f) #[] lb) (h1 : ρ y = v) : (execOp ρ ⟨d, .call { callee := .value x, args := #[y], argTypes := ts }, ty, p, af, gd⟩).run Try.prog w = .ok (.enter f (#[v] ++ lb)) w := by
  unfold execOp
  dsimp only
  go_simp
theorem g_cfC {l : List Oper} {Q : Exit → Act → World → Prop} {rest : List Oper} {a0 : Act} {L : List (Nat × Bool × Value)} {w : World} {f : FuncId} {i j d n : Nat} {v : Value} {lb : Array Value} {R : Value → World → Prop} {ts : Array TypeId} {ty : TypeId} {p : String} {af : Array Edge} {gd : Option (Nat × Bool)} (he : ∀ args w, (callFunc f args).run Try.prog w = .ok (.enter f args) w) (hn : a0.tmps.size = n) (hc : Calls Try.prog f (#[v] ++ lb) w fun e w' => ∃ v, e = .returned v ∧ R v w') (h : ∀ v w2, R v w2 → FL Try.prog l Q rest a0 ((d, true, v) :: L) w2) (hd : Nat.blt d n = true := by rfl) (hw : wtG l L gd = some true := by rfl) (hl : lk L i = some (true, .func (.func f) #[] lb) := by rfl) (hl2 : lk L j = some (true, v) := by rfl) : FL Try.prog l Q (⟨some d, .call { callee := .value (.tmp i), args := #[.tmp j], argTypes := ts }, ty, p, af, gd⟩ :: rest) a0 L w :=
  fl_callx hn rfl hd hw (fun hk => callf_isC he _ _ _ _ _ _ _ _ _ v lb (lk_at hk hl (fun _ => rfl) rfl) (lk_at hk hl2 (fun _ => rfl) rfl)) hc h

/-- Reads as these whole numbers. -/
def RdI (B : Nat) (W : World) (A : Option Addr) (l : List Int) : Prop := ∀ k x, l[k]? = some x → ∃ ad, A = some ad ∧ ad.block < B ∧ W.cell? (ad.add k) = some (.int .i64 x)
theorem RdI.nil (B : Nat) (W : World) (A : Option Addr) : RdI B W A [] := fun k x h => by simp at h
theorem RdI.exc {B g : Nat} {W W' : World} {A : Option Addr} {l : List Int} (h : RdI B W A l) (hb : Exc g W W') (hB : B ≤ W.heap.size) (hg : B ≤ g) : RdI B W' A l := fun k x hx => by
  obtain ⟨ad, e, h1, h2⟩ := h k x hx
  refine ⟨ad, e, h1, ?_⟩
  have hbe : (hb.below (B := B) hg hB) = (hb.below (B := B) hg hB) := rfl
  rw [(hb.below (B := B) hg hB).cell (by rw [add_block]; exact h1)]
  exact h2
theorem RdI.keep {B C : Nat} {W W' : World} {A : Option Addr} {l : List Int} (h : RdI B W A l) (hb : Below C W W') (hBC : B ≤ C) : RdI B W' A l := fun k x hx => by
  obtain ⟨ad, e, h1, h2⟩ := h k x hx
  exact ⟨ad, e, h1, by rw [hb.cell (by rw [add_block]; omega)]; exact h2⟩
theorem iix (W : World) (ad : Addr) (n c k : Nat) (h : k < n) : (Instr.indexAt 55 (.slice (some ad) n c) (.int .i64 (k : Int))).run Try.prog W = .ok (.pointer (some (ad.add k))) W := by
  have h1 : (0 : Int) ≤ (k : Int) := by omega
  have h2 : (k : Int) < (n : Int) := by omega
  go_simp
theorem wrapS {y : Int} (h : -9223372036854775808 ≤ y ∧ y ≤ 9223372036854775807) : IntKind.i64.wrap y = y := by
  unfold IntKind.wrap
  simp [IntKind.bits, IntKind.signed]
  omega
set_option maxRecDepth 100000 in
set_option maxHeartbeats 400000 in
theorem by1_any (k x : Int) (q : Nat) (w : World) (hX : Blk w q #[.int .i64 k] 3) (hk : -1000000 ≤ k ∧ k ≤ 1000000) (hx : 0 ≤ x ∧ x ≤ 1000) : Calls Try.prog 80 #[.int .i64 x, .pointer (some ⟨q, 0, none⟩)] w fun e w' => e = .returned (.bool (decide (k - x < 0))) ∧ Blk w' q #[.int .i64 (k - x)] 3 ∧ Only1 q w w' := by
  have wr : IntKind.i64.wrap (k - x) = k - x := wrapS (by omega)
  have hY := hX.set 0 (.int .i64 (k - x))
  have ho := only_cell w q 0 (.int .i64 (k - x))
  have c0 := hX.cell 0
  have f0 := hX.free 0
  have d0 := hY.cell 0
  have HY := Lib.hid hY
  have HO := Lib.hid ho
  clear hY ho hX hk hx
  go_enter Try.func80, Try.ntmps80
  go_wp2_with fail
  go_ret
  exact ⟨rfl, HY.out, HO.out⟩
/-- Behind how many. -/
def subW (k : Int) (l : List Int) : Int := k - sumW l
theorem findW_next {l : List Int} {k : Int} {j : Nat} {x : Int} (hx : l[j]? = some x) (h : findW k 0 l = findW (k - sumW (l.take j)) j (l.drop j)) :
    (k - sumW (l.take (j + 1)) < 0 → findW k 0 l = (j : Int)) ∧ (¬ k - sumW (l.take (j + 1)) < 0 → findW k 0 l = findW (k - sumW (l.take (j + 1))) (j + 1) (l.drop (j + 1))) ∧ sumW (l.take (j + 1)) = sumW (l.take j) + x := by
  have hs : sumW (l.take (j + 1)) = sumW (l.take j) + x := by
    rw [List.take_add_one, hx]
    exact sumW_snoc _ _
  have hj : j < l.length := (List.getElem?_eq_some_iff.1 hx).1
  have hd : l.drop j = x :: l.drop (j + 1) := by
    rw [List.drop_eq_getElem_cons hj]
    congr 1
    exact (List.getElem?_eq_some_iff.1 hx).2
  rw [hd] at h
  have e : findW (k - sumW (l.take j)) j (x :: l.drop (j + 1)) = if k - sumW (l.take j) - x < 0 then (j : Int) else findW (k - sumW (l.take j) - x) (j + 1) (l.drop (j + 1)) := rfl
  rw [e, show k - sumW (l.take j) - x = k - sumW (l.take (j + 1)) by omega] at h
  refine ⟨fun h1 => by rw [h, if_pos h1], fun h1 => by rw [h, if_neg h1], hs⟩
theorem findW_end {l : List Int} {k : Int} {j : Nat} (hj : l.length ≤ j) (h : findW k 0 l = findW (k - sumW (l.take j)) j (l.drop j)) : findW k 0 l = -1 := by
  rw [h, List.drop_eq_nil_of_le hj]
  rfl
set_option maxRecDepth 100000 in
set_option maxHeartbeats 400000 in
theorem idxI_any {C : Nat} (A : Option Addr) (n c : Nat) (l : List Int) (q : Nat) (k0 : Int) (w : World) (hn0 : l.length = n) (hr : RdI C w A l) (hC : C ≤ w.heap.size) (hCq : C ≤ q) (hm : n ≤ 60) (hw : WOk l) (hk : 0 ≤ k0 ∧ k0 ≤ 100000) (hp : Blk w q #[.int .i64 k0] 3) : Calls Try.prog 79 #[.slice A n c, .func (.func 80) #[] #[.pointer (some ⟨q, 0, none⟩)]] w fun e w' => e = .returned (.int .i64 (findW k0 0 l)) ∧ Exc q w w' := by
  have HN := Lib.hid hn0
  have HR := Lib.hid (fun W (hb : Exc q w W) => hr.exc hb hC hCq)
  have HW := Lib.hid hw
  clear hn0 hr hw
  go_enter Try.func79, Try.ntmps79
  go_wp2_with fail
  go_loopw [5, 8] (fun _ i wr => ∃ k : Nat, k ≤ n ∧ i = .int .i64 k ∧ Exc q w wr ∧ Blk wr q #[.int .i64 (k0 - sumW (l.take k))] 3 ∧ Hid (findW k0 0 l = findW (k0 - sumW (l.take k)) k (l.drop k))) (fun _ i _ => n - (intOf i).toNat)
  case atStart => exact ⟨0, Nat.zero_le _, rfl, Exc.refl _ _, by rw [List.take_zero, show k0 - sumW [] = k0 by simp [sumW]]; exact hp, (by show _ = _; rw [List.take_zero, List.drop_zero, show k0 - sumW [] = k0 by simp [sumW]])⟩
  case round =>
    clear hp
    obtain ⟨k, hkn, rfl, hK, hX, hA⟩ := hrel
    by_cases hlt : k < n
    · obtain ⟨x, hx⟩ : ∃ x, l[k]? = some x := ⟨_, List.getElem?_eq_getElem (show k < l.length by have := HN.out; omega)⟩
      obtain ⟨ad, rfl, hadb, hc⟩ := HR.out wr hK k x hx
      have hx1 := HW.out x (List.mem_of_getElem? hx)
      have hs0 := sumW_le (HW.out.take k)
      obtain ⟨ha1, ha2, hs⟩ := findW_next hx hA.out
      rw [List.length_take] at hs0
      have H1 := Lib.hid ha1
      have H2 := Lib.hid ha2
      clear hx ha1 ha2 hA
      have i2 : (k : Int) < (n : Int) := by omega
      have ix := iix wr ad n c k hlt
      have ld : (Instr.loadAt 3 (.pointer (some (ad.add k)))).run Try.prog wr = .ok (.int .i64 x) wr := load_int hc
      have hzy : k0 - sumW (l.take k) - x = k0 - sumW (l.take (k + 1)) := by omega
      have hzb : -1000000 ≤ k0 - sumW (l.take k) ∧ k0 - sumW (l.take k) ≤ 1000000 := by omega
      clear hs hs0
      generalize hyy : k0 - sumW (l.take (k + 1)) = y at *
      generalize k0 - sumW (l.take k) = z at *
      have c1 := by1_any z x q wr hX hzb hx1
      rw [hzy] at c1
      clear hzy hzb hX
      go_upto_region 4 with fail
      refine wp_region_lit ?_
      refine fl_start ?_
      generalize ha : Act.mk _ _ = a0
      have hn : a0.tmps.size = 19 := by rw [← ha]; kernel_rfl
      have h0 : (fr a0 []).eval (.tmp 0) = .slice (some ad) n c := by rw [← ha]; kernel_rfl
      refine fl_know hn rfl h0 ?_
      clear h0
      have h1 : (fr a0 [(0, true, .slice (some ad) n c)]).eval (.tmp 1) = .func (.func 80) #[] #[.pointer (some ⟨q, 0, none⟩)] := by rw [← ha]; kernel_rfl
      refine fl_know hn rfl h1 ?_
      clear h1
      have h5 : (fr a0 [(1, true, .func (.func 80) #[] #[.pointer (some ⟨q, 0, none⟩)]), (0, true, .slice (some ad) n c)]).eval (.tmp 5) = .int .i64 (k : Int) := by rw [← ha]; kernel_rfl
      refine fl_know hn rfl h5 ?_
      clear h5
      refine g_mv hn ?_
      refine g_mv hn ?_
      refine g_mv hn ?_
      refine g_ix hn ?_
      refine g_ld hn ?_
      refine g_cfC (v := .int .i64 x) (lb := #[.pointer (some ⟨q, 0, none⟩)]) en_spinney_weather_Sky_By_1 hn (R := fun v w2 => v = .bool (decide (y < 0)) ∧ Blk w2 q #[.int .i64 y] 3 ∧ Only1 q wr w2) (c1.mono fun _ _ ⟨he, hb2⟩ => ⟨_, he, rfl, hb2⟩) ?_
      rintro v w2 ⟨rfl, hX2, ho⟩
      refine fl_end ?_
      clear hn
      subst ha
      dsimp only [fr, cnd, Act.put, cond_true]
      simp only [List.setIfInBounds_toArray, List.set_cons_zero, List.set_cons_succ]
      have hK2 := hK.trans ho.exc
      clear ix ld c1 hc ho hK
      by_cases hid : y < 0
      · have R : Hid ((k : Int) = findW k0 0 l) := (H1.out hid).symm
        rw [decide_eq_true hid]
        clear H1 H2 hid
        go_wp2_with fail
        go_ret
        exact ⟨ret_i64 R.out, hK2⟩
      · have HA2 := Lib.hid (H2.out hid)
        rw [decide_eq_false hid]
        clear H1 H2 hid
        go_wp2_with fail
        go_roundw
        case rel => exact ⟨k + 1, by omega, by go_num, hK2, by rw [hyy]; exact hX2, by rw [hyy]; exact HA2⟩
        case measure => simp [intOf]; omega
    · have R : Hid (-1 = findW k0 0 l) := (findW_end (by have := HN.out; omega) hA.out).symm
      have i2 : ¬ (k : Int) < (n : Int) := by omega
      clear hA
      go_wp2_with fail
      go_ret
      exact ⟨ret_i64 R.out, hK⟩
end Go.Proofs.Ytkfhkfddhijkcaa
