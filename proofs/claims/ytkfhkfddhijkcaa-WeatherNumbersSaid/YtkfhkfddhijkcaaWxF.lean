/-
  WHAT IS PROVED: the law WeatherNumbers returns true. Conditions: those typed in each theorem.
-/
import Derived.Test.YtkfhkfddhijkcaaWxE
namespace Go.Proofs.Ytkfhkfddhijkcaa
open Go.RowKit

set_option maxRecDepth 100000 in
set_option maxHeartbeats 1000000 in
theorem cv_iu (W : World) {m : Nat} (h : m < 18446744073709551616) : (convert 3 54 (.int .i64 (m : Int))).run Try.prog W = .ok (.int .u64 (m : Int)) W := by
  have h2 : (convert 3 54 (.int .i64 (m : Int))).run Try.prog W = .ok (.int .u64 (IntKind.u64.wrap (m : Int))) W := run_convert_int (P := Try.prog) (w := W) 3 54 .i64 (m : Int) (by kernel_rfl) (by kernel_rfl)
  rw [wrapN, Nat.mod_eq_of_lt h] at h2
  exact h2
set_option maxRecDepth 100000 in
set_option maxHeartbeats 1000000 in
theorem refBelow_any (s : Nat) (n : Int) (w : World) (hs : s < 18446744073709551616) (hn : n ≤ 9223372036854775807) : Calls Try.prog 30 #[.int .u64 (s : Int), .int .i64 n] w fun e w' => e = .returned (.tuple #[.int .u64 (blS s n : Nat), .int .i64 (blV s n)]) ∧ Below w.heap.size w w' := by
  by_cases h1 : n < 1
  · rw [blV_0 s h1]
    have e : blS s n = s := by unfold blS; rw [if_pos h1]
    rw [e]
    go_enter Try.func30, Try.ntmps30
    go_wp2_with fail
    go_ret2
    exact ⟨rfl, Below.refl _ _⟩
  · have e : blS s n = nxS s := by unfold blS; rw [if_neg h1]
    obtain ⟨m, rfl⟩ : ∃ m : Nat, n = (m : Int) := ⟨n.toNat, by omega⟩
    have e2 : blV s (m : Int) = ((nxV s % m : Nat) : Int) := by unfold blV; rw [if_neg h1, Int.toNat_natCast]
    rw [e, e2]
    have F := Lib.hid (refNext_any s w hs)
    have hm : 0 < m := by omega
    have hlt := nxV_lt s
    have hml := Nat.mod_lt (nxV s) hm
    have cvA : ∀ W, Kp w W → (convert 3 54 (.int .i64 (m : Int))).run Try.prog W = .ok (.int .u64 (m : Int)) W := fun W _ => cv_iu W (by omega)
    have cvB : ∀ W, Kp w W → ((do eqGuard .rem 54 (.tmp 16) (.tmp 18) (.int .u64 (nxV s : Int)) (.int .u64 (m : Int)); binOp .rem 54 (.int .u64 (nxV s : Int)) (.int .u64 (m : Int))) : Sem Value).run Try.prog W = .ok (.int .u64 ((nxV s % m : Nat) : Int)) W := fun W _ => rem_uu 16 18 W (nxV s) m hm hlt
    have cvC : ∀ W, Kp w W → (convert 54 3 (.int .u64 ((nxV s % m : Nat) : Int))).run Try.prog W = .ok (.int .i64 ((nxV s % m : Nat) : Int)) W := fun W _ => cv_ui W (by omega)
    have h1' : ¬ (m : Int) < 1 := h1
    generalize nxV s % m = y at *
    generalize nxV s = z at *
    generalize nxS s = s2 at *
    clear e e2 hs hml hlt hn h1
    go_enter Try.func30, Try.ntmps30
    go_wp2_with (first | (refine F.out.mono ?_; rintro e w2 ⟨rfl, rfl⟩) | fail)
    go_upto_region 4 with fail
    refine fc_start (S := Kp w) (by kernel_rfl) (Kp.drew _) ?_
    generalize ha : Act.mk _ _ = a0
    have hn : a0.tmps.size = 21 := by rw [← ha]; kernel_rfl
    have h0 : (fr a0 []).eval (.tmp 0) = .int .u64 (s2 : Int) := by rw [← ha]; kernel_rfl
    refine fc_know hn rfl h0 ?_
    clear h0
    have h6 : (fr a0 [(0, true, .int .u64 (s2 : Int))]).eval (.tmp 6) = .int .u64 (z : Int) := by rw [← ha]; kernel_rfl
    refine fc_know hn rfl h6 ?_
    clear h6
    have h1 : (fr a0 [(6, true, .int .u64 (z : Int)), (0, true, .int .u64 (s2 : Int))]).eval (.tmp 1) = .int .i64 (m : Int) := by rw [← ha]; kernel_rfl
    refine fc_know hn rfl h1 ?_
    clear h1
    refine c_mv 0 hn ?_
    refine c_mv 1 hn ?_
    refine c_mv 2 hn ?_
    refine c_cv 3 hn ?_
    refine c_bn 4 hn ?_
    refine c_cv 5 hn ?_
    refine c_as 6 hn ?_
    refine c_as 7 hn ?_
    refine fc_end (fun w2 hS => ?_)
    clear hn
    subst ha
    dsimp only [fr, cnd, Act.put, cond_true]
    simp only [List.setIfInBounds_toArray, List.set_cons_zero, List.set_cons_succ]
    go_wp2_with fail
    go_ret2
    exact ⟨rfl, hS.below⟩
/-- The document's index: the first at which the sum is above k. -/
theorem findW_up {l : List Int} {k : Int} {j : Nat} : k - sumW (l.take (j + 1)) < 0 ↔ k < sumW (l.take (j + 1)) := by omega
set_option maxRecDepth 100000 in
set_option maxHeartbeats 1000000 in
theorem refBy_any {C : Nat} (s : Nat) (A : Option Addr) (n c : Nat) (l : List Int) (w : World) (hs : s < 18446744073709551616) (hn0 : l.length = n) (hr : RdI C w A l) (hC : C ≤ w.heap.size) (hm : n ≤ 60) (hw : WOk l) : Calls Try.prog 32 #[.int .u64 (s : Int), .slice A n c] w fun e w' => e = .returned (.tuple #[.int .u64 (byS s l : Nat), .int .i64 (byV s l)]) ∧ Below w.heap.size w w' := by
  have HN := Lib.hid hn0
  have HW := Lib.hid hw
  have HSs := Lib.hid hs
  clear hn0 hw hs
  go_enter Try.func32, Try.ntmps32
  go_wp2_with fail
  go_loopw [6, 7, 13] (fun u6 _ i wr => ∃ k : Nat, k ≤ n ∧ i = .int .i64 k ∧ u6 = .int .i64 (sumW (l.take k)) ∧ wr = w) (fun _ _ i _ => n - (intOf i).toNat)
  case atStart => exact ⟨0, Nat.zero_le _, rfl, rfl, rfl⟩
  case round =>
    obtain ⟨k, hkn, rfl, rfl, rfl⟩ := hrel
    by_cases hlt : k < n
    · obtain ⟨x, hx⟩ : ∃ x, l[k]? = some x := ⟨_, List.getElem?_eq_getElem (show k < l.length by have := HN.out; omega)⟩
      obtain ⟨ad, rfl, hadb, hc⟩ := hr k x hx
      have hx1 := HW.out x (List.mem_of_getElem? hx)
      have hs0 := sumW_le (HW.out.take k)
      rw [List.length_take] at hs0
      have hs : sumW (l.take (k + 1)) = sumW (l.take k) + x := by
        rw [List.take_add_one, hx]
        exact sumW_snoc _ _
      have HS := Lib.hid hs
      have wr2 : IntKind.i64.wrap (sumW (l.take k) + x) = sumW (l.take k) + x := wrapS (by omega)
      clear hx hs hs0 hx1
      generalize sumW (l.take k) = y at *
      have i2 : (k : Int) < (n : Int) := by omega
      have i1 : (0 : Int) ≤ (k : Int) := by omega
      go_wp2_with fail
      go_roundw
      case rel => exact ⟨k + 1, by omega, by go_num, by rw [HS.out], by first | rfl | trivial⟩
      case measure => simp [intOf]; omega
    · have e : k = n := by omega
      subst e
      rw [List.take_of_length_le (by have := HN.out; omega)]
      have i2 : ¬ (k : Int) < (k : Int) := by omega
      have hs0 := sumW_le HW.out
      rw [HN.out] at hs0
      by_cases h1 : sumW l < 1
      · have R : Hid (-1 = byV s l ∧ byS s l = s) := ⟨(byV_no s h1).symm, by unfold byS; rw [if_pos h1]⟩
        have h2 : sumW l = 0 := by omega
        rw [h2]
        clear h1 h2
        go_wp2_with fail
        go_ret2
        rw [← R.out.1, R.out.2]
        exact ⟨rfl, Below.refl _ _⟩
      · have R : Hid (byV s l = findW (blV s (sumW l)) 0 l ∧ byS s l = blS s (sumW l)) := ⟨by unfold byV; rw [if_neg h1], by unfold byS; rw [if_neg h1]⟩
        have hv := blV_in s (show 1 ≤ sumW l by omega)
        have c1 := refBelow_any s (sumW l) wr HSs.out (by omega)
        have h2 : ¬ sumW l = 0 := by omega
        have h3 : (sumW l == 0) = false := by simpa using h2
        generalize hy : sumW l = y at *
        generalize blV s y = v at *
        generalize blS s y = s2 at *
        have R0 := R
        go_wp2_with fail
        refine c1.mono ?_
        rintro e w2 ⟨rfl, hB2⟩
        clear c1
        go_wp2_with fail
        go_loopw [9, 10, 34] (fun u9 _ i wr2 => ∃ j : Nat, j ≤ k ∧ i = .int .i64 j ∧ u9 = .int .i64 (sumW (l.take j)) ∧ wr2 = w2 ∧ Hid (findW v 0 l = findW (v - sumW (l.take j)) j (l.drop j))) (fun _ _ i _ => k - (intOf i).toNat)
        case atStart => exact ⟨0, Nat.zero_le _, rfl, rfl, rfl, (by show _ = _; rw [List.take_zero, List.drop_zero, show v - sumW [] = v by simp [sumW]])⟩
        case round =>
          obtain ⟨j, hjk, rfl, rfl, rfl, hA⟩ := hrel
          have hrr := hr.keep hB2 hC
          by_cases hlj : j < k
          · obtain ⟨x, hx⟩ : ∃ x, l[j]? = some x := ⟨_, List.getElem?_eq_getElem (show j < l.length by have := HN.out; omega)⟩
            obtain ⟨ad, rfl, hadb, hc⟩ := hrr j x hx
            have hx1 := HW.out x (List.mem_of_getElem? hx)
            have hs1 := sumW_le (HW.out.take j)
            obtain ⟨ha1, ha2, hs⟩ := findW_next hx hA.out
            rw [List.length_take] at hs1
            have H1 := Lib.hid ha1
            have H2 := Lib.hid ha2
            have HS := Lib.hid hs
            have wr2 : IntKind.i64.wrap (sumW (l.take j) + x) = sumW (l.take (j + 1)) := by rw [hs]; exact wrapS (by omega)
            clear hx ha1 ha2 hA hs hs1 hx1
            generalize hzz : sumW (l.take j) = z at *
            generalize hyy : sumW (l.take (j + 1)) = y2 at *
            have j2 : (j : Int) < (k : Int) := by omega
            have j1 : (0 : Int) ≤ (j : Int) := by omega
            by_cases hid : v < y2
            · have R : Hid (findW v 0 l = (j : Int)) := H1.out (by omega)
              have R2 : Hid (byV s l = (j : Int)) := R0.out.1.trans R.out
              clear H1 H2 R
              go_wp2_with fail
              go_ret2
              rw [R2.out, R0.out.2]
              exact ⟨rfl, hB2⟩
            · have HA2 := Lib.hid (H2.out (by omega))
              clear H1 H2
              go_wp2_with fail
              refine ⟨?_, ?_⟩
              · first
                | exact ⟨j + 1, by omega, by go_num, by rw [hyy], by first | rfl | trivial, by rw [hyy]; exact HA2⟩
                | repeat apply Exists.intro
                  refine ⟨?_, rfl⟩
                  exact ⟨j + 1, by omega, by go_num, by rw [hyy], by first | rfl | trivial, by rw [hyy]; exact HA2⟩
              · simp [intOf]; omega
          · have j2 : ¬ (j : Int) < (k : Int) := by omega
            have R2 : Hid (byV s l = -1) := R0.out.1.trans (findW_end (by have := HN.out; omega) hA.out)
            clear hA
            go_wp2_with fail
            go_ret2
            rw [R2.out, R0.out.2]
            exact ⟨rfl, hB2⟩
end Go.Proofs.Ytkfhkfddhijkcaa
