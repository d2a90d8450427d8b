/-
  WHAT IS PROVED: what an operation leaves of a value: deed.Do and the document's Do answer as the plain function doV does. Conditions: those typed in each theorem.
-/
import Derived.Test.YtmilcgikncecnaaDoorDeedGood
import Derived.Test.YtmilcgikncecnaaDoorShelf
namespace Go.Proofs.YtmilcgikncecnaaDoor
open Go.RowKit

/-- A pair of a value and an error's number. -/
abbrev pairV (k n : Int) (s : ByteArray) (e : Int) : Value := .tuple #[.agg #[.int .i64 k, .int .i64 n, .string s], .int .i64 e]

/-- What is left: kind, number, text, error. -/
def doV (K ka na kb nb kv nv : Int) (sa sb sv : ByteArray) : Int × Int × ByteArray × Int :=
  if K = 1 then (ka, na, sa, 0)
  else if K = 2 then (if kv = 0 then (kv, nv, sv, 5) else (0, 0, ⟨#[]⟩, 0))
  else if K = 3 then
    (if kv = 1 ∧ ka = 1 then (if -9223372036854775808 ≤ nv + na ∧ nv + na ≤ 9223372036854775807 then (1, nv + na, ⟨#[]⟩, 0) else (kv, nv, sv, 12)) else (kv, nv, sv, 13))
  else if K = 4 then (if kv = ka ∧ nv = na ∧ sv.data.toList = sa.data.toList then (kb, nb, sb, 0) else (kv, nv, sv, 14))
  else (kv, nv, sv, 2)
/-- What stands in outcome's answer: nothing beside an error. -/
def outV (K ka na kb nb kv nv : Int) (sa sb sv : ByteArray) : Int × Int × ByteArray × Int :=
  if (doV K ka na kb nb kv nv sa sb sv).2.2.2 = 0 then doV K ka na kb nb kv nv sa sb sv else (0, 0, ⟨#[]⟩, (doV K ka na kb nb kv nv sa sb sv).2.2.2)

theorem clone_any (s : ByteArray) (w : World) (hlim : s.size ≤ 281474976710656) :
    Calls Tryd.prog 26 #[.string s] w fun e w' => e = .returned (.string s) ∧ Below w.heap.size w w' := by
  go_enter Tryd.func26, Tryd.ntmps26
  go_wp2_with fail
  refine (Tryd.stringslite_Clone s _ hlim).mono ?_
  rintro e w1 ⟨rfl, hb1⟩
  go_wp2_with fail
  go_ret
  exact ⟨rfl, hb1⟩

theorem bytes_eq {a b : ByteArray} (h : a.data.toList = b.data.toList) : a = b := by
  cases a; cases b
  simp only [ByteArray.mk.injEq]
  exact Array.toList_inj.1 h
theorem doV_put (ka na kb nb kv nv : Int) (sa sb sv : ByteArray) : doV 1 ka na kb nb kv nv sa sb sv = (ka, na, sa, 0) := by unfold doV; rw [if_pos rfl]
theorem doV_del0 (ka na kb nb nv : Int) (sa sb sv : ByteArray) : doV 2 ka na kb nb 0 nv sa sb sv = (0, nv, sv, 5) := by unfold doV; rw [if_neg (by decide), if_pos rfl, if_pos rfl]
theorem doV_del1 (ka na kb nb kv nv : Int) (sa sb sv : ByteArray) (z : kv ≠ 0) : doV 2 ka na kb nb kv nv sa sb sv = (0, 0, ⟨#[]⟩, 0) := by unfold doV; rw [if_neg (by decide), if_pos rfl, if_neg z]
theorem doV_sum (na kb nb nv : Int) (sa sb sv : ByteArray) (h : -9223372036854775808 ≤ nv + na ∧ nv + na ≤ 9223372036854775807) : doV 3 1 na kb nb 1 nv sa sb sv = (1, nv + na, ⟨#[]⟩, 0) := by
  unfold doV; rw [if_neg (by decide), if_neg (by decide), if_pos rfl, if_pos ⟨rfl, rfl⟩, if_pos h]
theorem doV_over (na kb nb nv : Int) (sa sb sv : ByteArray) (h : ¬ (-9223372036854775808 ≤ nv + na ∧ nv + na ≤ 9223372036854775807)) : doV 3 1 na kb nb 1 nv sa sb sv = (1, nv, sv, 12) := by
  unfold doV; rw [if_neg (by decide), if_neg (by decide), if_pos rfl, if_pos ⟨rfl, rfl⟩, if_neg h]
theorem doV_kind (ka na kb nb kv nv : Int) (sa sb sv : ByteArray) (h : ¬ (kv = 1 ∧ ka = 1)) : doV 3 ka na kb nb kv nv sa sb sv = (kv, nv, sv, 13) := by
  unfold doV; rw [if_neg (by decide), if_neg (by decide), if_pos rfl, if_neg h]
theorem doV_cas (na kb nb nv kv ka : Int) (sa sb sv : ByteArray) (h : kv = ka ∧ nv = na ∧ sv.data.toList = sa.data.toList) : doV 4 ka na kb nb kv nv sa sb sv = (kb, nb, sb, 0) := by
  unfold doV; rw [if_neg (by decide), if_neg (by decide), if_neg (by decide), if_pos rfl, if_pos h]
theorem doV_case (na kb nb nv kv ka : Int) (sa sb sv : ByteArray) (h : ¬ (kv = ka ∧ nv = na ∧ sv.data.toList = sa.data.toList)) : doV 4 ka na kb nb kv nv sa sb sv = (kv, nv, sv, 14) := by
  unfold doV; rw [if_neg (by decide), if_neg (by decide), if_neg (by decide), if_pos rfl, if_neg h]
theorem doV_none (K na kb nb nv kv ka : Int) (sa sb sv : ByteArray) (h1 : K ≠ 1) (h2 : K ≠ 2) (h3 : K ≠ 3) (h4 : K ≠ 4) : doV K ka na kb nb kv nv sa sb sv = (kv, nv, sv, 2) := by
  unfold doV; rw [if_neg h1, if_neg h2, if_neg h3, if_neg h4]
theorem outV_ok {K ka na kb nb kv nv k n : Int} {sa sb sv s : ByteArray} (h : doV K ka na kb nb kv nv sa sb sv = (k, n, s, 0)) : outV K ka na kb nb kv nv sa sb sv = (k, n, s, 0) := by
  unfold outV
  rw [h]
  exact if_pos rfl
theorem outV_no {K ka na kb nb kv nv k n e : Int} {sa sb sv s : ByteArray} (h : doV K ka na kb nb kv nv sa sb sv = (k, n, s, e)) (he : e ≠ 0) : outV K ka na kb nb kv nv sa sb sv = (0, 0, ⟨#[]⟩, e) := by
  unfold outV
  rw [h]
  exact if_neg he
theorem quad {a b d : Int} {c : ByteArray} {a' b' d' : Int} {c' : ByteArray} (h : (a, b, c, d) = (a', b', c', d')) : a = a' ∧ b = b' ∧ c = c' ∧ d = d' := by simpa using h

set_option maxHeartbeats 4000000 in
theorem outcome_any (K ka na kb nb kv nv : Int) (ky sa sb sv : ByteArray) (w : World) (h0 : -9223372036854775808 ≤ na ∧ na ≤ 9223372036854775807) (h1 : -9223372036854775808 ≤ nv ∧ nv ≤ 9223372036854775807) (k n : Int) (s : ByteArray) (er : Int)
    (hr : Hid (outV K ka na kb nb kv nv sa sb sv = (k, n, s, er))) :
    Calls Tryd.prog 25 #[opV K ky ka na sa kb nb sb, .agg #[.int .i64 kv, .int .i64 nv, .string sv]] w fun e w' => e = .returned (pairV k n s er) ∧ Below w.heap.size w w' := by
  by_cases K1 : K = 1
  · subst K1
    obtain ⟨rfl, rfl, rfl, rfl⟩ := quad ((outV_ok (doV_put ka na kb nb kv nv sa sb sv)).symm.trans hr.out)
    clear hr
    go_enter Tryd.func25, Tryd.ntmps25
    go_wp2_with fail
    exact bodyPost_ret (v := pairV ka na sa 0) (by simp [results, Tryd.results25, go_sem, pairV]) rfl ⟨rfl, by repeat (first | exact Below.refl _ _ | (refine Below.alloc ?_ (by simp <;> omega) _) | (refine Below.setCell ?_ (by simp <;> omega) _))⟩
  · by_cases K2 : K = 2
    · subst K2
      by_cases z : kv = 0
      · subst z
        obtain ⟨rfl, rfl, rfl, rfl⟩ := quad ((outV_no (doV_del0 ka na kb nb nv sa sb sv) (by decide)).symm.trans hr.out)
        clear hr K1
        go_enter Tryd.func25, Tryd.ntmps25
        go_wp2_with fail
        exact bodyPost_ret (v := pairV 0 0 ⟨#[]⟩ 5) (by simp [results, Tryd.results25, go_sem, pairV]) rfl ⟨rfl, by repeat (first | exact Below.refl _ _ | (refine Below.alloc ?_ (by simp <;> omega) _) | (refine Below.setCell ?_ (by simp <;> omega) _))⟩
      · have z1 : (kv == 0) = false := by simpa using z
        obtain ⟨rfl, rfl, rfl, rfl⟩ := quad ((outV_ok (doV_del1 ka na kb nb kv nv sa sb sv z)).symm.trans hr.out)
        clear hr K1 z
        go_enter Tryd.func25, Tryd.ntmps25
        go_wp2_with fail
        exact bodyPost_ret (v := pairV 0 0 ⟨#[]⟩ 0) (by simp [results, Tryd.results25, go_sem, pairV]) rfl ⟨rfl, by repeat (first | exact Below.refl _ _ | (refine Below.alloc ?_ (by simp <;> omega) _) | (refine Below.setCell ?_ (by simp <;> omega) _))⟩
    · by_cases K3 : K = 3
      · subst K3
        clear K1 K2
        by_cases z : kv = 1 ∧ ka = 1
        · obtain ⟨rfl, rfl⟩ := z
          by_cases g : -9223372036854775808 ≤ nv + na ∧ nv + na ≤ 9223372036854775807
          · skip
            obtain ⟨rfl, rfl, rfl, rfl⟩ := quad ((outV_ok (doV_sum na kb nb nv sa sb sv g)).symm.trans hr.out)
            clear hr
            have G := Lib.hid g
            clear g
            go_enter Tryd.func25, Tryd.ntmps25
            go_wp2_with fail
            have hB : Below w.heap.size w (((w.alloc (.cells (opC 3 ky 1 na sa kb nb sb) 28)).alloc (.cells #[.int .i64 1, .int .i64 nv, .string sv] 26)).alloc (.cells #[.int .i64 0, .int .i64 0, .string ⟨#[]⟩] 26)) := ba (ba (b0 _ _) _) _
            have hC2 : Hid (Blk (((w.alloc (.cells (opC 3 ky 1 na sa kb nb sb) 28)).alloc (.cells #[.int .i64 1, .int .i64 nv, .string sv] 26)).alloc (.cells #[.int .i64 0, .int .i64 0, .string ⟨#[]⟩] 26)) (w.heap.size + 1 + 1) #[.int .i64 0, .int .i64 0, .string ⟨#[]⟩] 26) := blk_at (by simp) _ _
            generalize ((w.alloc (.cells (opC 3 ky 1 na sa kb nb sb) 28)).alloc (.cells #[.int .i64 1, .int .i64 nv, .string sv] 26)).alloc (.cells #[.int .i64 0, .int .i64 0, .string ⟨#[]⟩] 26) = W at hC2 hB ⊢
            refine (sum_ok nv na sv sa _ G.out.1 G.out.2).mono ?_
            unfold sumV
            rintro e w1 ⟨rfl, hb1⟩
            replace hB := bt hB hb1
            obtain ⟨q0, q1, q2, q3⟩ := (hC2.out.keep hb1).c3
            obtain ⟨f0, f1, f2⟩ := (hC2.out.keep hb1).f3
            go_wp2_with fail
            exact bodyPost_ret (v := pairV 1 (nv + na) ⟨#[]⟩ 0) (by simp [results, Tryd.results25, go_sem, pairV, q0, q1, q2]) rfl ⟨rfl, by repeat (first | exact hB | (refine Below.setCell ?_ (by simp <;> omega) _))⟩
          · have G := Lib.hid g
            clear g
            obtain ⟨rfl, rfl, rfl, rfl⟩ := quad ((outV_no (doV_over na kb nb nv sa sb sv G.out) (by decide)).symm.trans hr.out)
            clear hr
            go_enter Tryd.func25, Tryd.ntmps25
            go_wp2_with fail
            have hB : Below w.heap.size w (((w.alloc (.cells (opC 3 ky 1 na sa kb nb sb) 28)).alloc (.cells #[.int .i64 1, .int .i64 nv, .string sv] 26)).alloc (.cells #[.int .i64 0, .int .i64 0, .string ⟨#[]⟩] 26)) := ba (ba (b0 _ _) _) _
            have hC2 : Hid (Blk (((w.alloc (.cells (opC 3 ky 1 na sa kb nb sb) 28)).alloc (.cells #[.int .i64 1, .int .i64 nv, .string sv] 26)).alloc (.cells #[.int .i64 0, .int .i64 0, .string ⟨#[]⟩] 26)) (w.heap.size + 1 + 1) #[.int .i64 0, .int .i64 0, .string ⟨#[]⟩] 26) := blk_at (by simp) _ _
            generalize ((w.alloc (.cells (opC 3 ky 1 na sa kb nb sb) 28)).alloc (.cells #[.int .i64 1, .int .i64 nv, .string sv] 26)).alloc (.cells #[.int .i64 0, .int .i64 0, .string ⟨#[]⟩] 26) = W at hC2 hB ⊢
            refine (sum_over nv na sv sa _ h1.1 h1.2 h0.1 h0.2 (by have := G.out; omega)).mono ?_
            unfold sumV
            rintro e w1 ⟨rfl, hb1⟩
            replace hB := bt hB hb1
            obtain ⟨q0, q1, q2, q3⟩ := (hC2.out.keep hb1).c3
            obtain ⟨f0, f1, f2⟩ := (hC2.out.keep hb1).f3
            go_wp2_with fail
            exact bodyPost_ret (v := pairV 0 0 ⟨#[]⟩ 12) (by simp [results, Tryd.results25, go_sem, pairV, q0, q1, q2]) rfl ⟨rfl, by repeat (first | exact hB | (refine Below.setCell ?_ (by simp <;> omega) _))⟩
        · have G := Lib.hid z
          clear z
          obtain ⟨rfl, rfl, rfl, rfl⟩ := quad ((outV_no (doV_kind ka na kb nb kv nv sa sb sv G.out) (by decide)).symm.trans hr.out)
          clear hr
          go_enter Tryd.func25, Tryd.ntmps25
          go_wp2_with fail
          have hB : Below w.heap.size w (((w.alloc (.cells (opC 3 ky ka na sa kb nb sb) 28)).alloc (.cells #[.int .i64 kv, .int .i64 nv, .string sv] 26)).alloc (.cells #[.int .i64 0, .int .i64 0, .string ⟨#[]⟩] 26)) := ba (ba (b0 _ _) _) _
          have hC2 : Hid (Blk (((w.alloc (.cells (opC 3 ky ka na sa kb nb sb) 28)).alloc (.cells #[.int .i64 kv, .int .i64 nv, .string sv] 26)).alloc (.cells #[.int .i64 0, .int .i64 0, .string ⟨#[]⟩] 26)) (w.heap.size + 1 + 1) #[.int .i64 0, .int .i64 0, .string ⟨#[]⟩] 26) := blk_at (by simp) _ _
          generalize ((w.alloc (.cells (opC 3 ky ka na sa kb nb sb) 28)).alloc (.cells #[.int .i64 kv, .int .i64 nv, .string sv] 26)).alloc (.cells #[.int .i64 0, .int .i64 0, .string ⟨#[]⟩] 26) = W at hC2 hB ⊢
          refine (sum_kind kv nv ka na sv sa _ (by have := G.out; omega)).mono ?_
          unfold sumV
          rintro e w1 ⟨rfl, hb1⟩
          replace hB := bt hB hb1
          obtain ⟨q0, q1, q2, q3⟩ := (hC2.out.keep hb1).c3
          obtain ⟨f0, f1, f2⟩ := (hC2.out.keep hb1).f3
          go_wp2_with fail
          exact bodyPost_ret (v := pairV 0 0 ⟨#[]⟩ 13) (by simp [results, Tryd.results25, go_sem, pairV, q0, q1, q2]) rfl ⟨rfl, by repeat (first | exact hB | (refine Below.setCell ?_ (by simp <;> omega) _))⟩
      · by_cases K4 : K = 4
        · subst K4
          clear K1 K2 K3
          by_cases z : kv = ka ∧ nv = na ∧ sv.data.toList = sa.data.toList
          · obtain ⟨rfl, rfl, z3⟩ := z
            obtain rfl : sv = sa := bytes_eq z3
            clear z3
            obtain ⟨rfl, rfl, rfl, rfl⟩ := quad ((outV_ok (doV_cas nv kb nb nv kv kv sv sb sv ⟨rfl, rfl, rfl⟩)).symm.trans hr.out)
            clear hr
            go_enter Tryd.func25, Tryd.ntmps25
            go_wp2_with fail
            exact bodyPost_ret (v := pairV kb nb sb 0) (by simp [results, Tryd.results25, go_sem, pairV]) rfl ⟨rfl, by repeat (first | exact Below.refl _ _ | (refine Below.alloc ?_ (by simp <;> omega) _) | (refine Below.setCell ?_ (by simp <;> omega) _))⟩
          · have G := Lib.hid z
            clear z
            obtain ⟨rfl, rfl, rfl, rfl⟩ := quad ((outV_no (doV_case na kb nb nv kv ka sa sb sv G.out) (by decide)).symm.trans hr.out)
            clear hr
            by_cases z1 : kv = ka
            · subst z1
              by_cases z2 : nv = na
              · subst z2
                have z3 : sv.toList ≠ sa.toList := by
                  rw [ByteArray.toList_eq, ByteArray.toList_eq]
                  exact fun e => G.out ⟨rfl, rfl, e⟩
                go_enter Tryd.func25, Tryd.ntmps25
                go_wp2_with fail
                exact bodyPost_ret (v := pairV 0 0 ⟨#[]⟩ 14) (by simp [results, Tryd.results25, go_sem, pairV]) rfl ⟨rfl, by repeat (first | exact Below.refl _ _ | (refine Below.alloc ?_ (by simp <;> omega) _) | (refine Below.setCell ?_ (by simp <;> omega) _))⟩
              · go_enter Tryd.func25, Tryd.ntmps25
                go_wp2_with fail
                exact bodyPost_ret (v := pairV 0 0 ⟨#[]⟩ 14) (by simp [results, Tryd.results25, go_sem, pairV]) rfl ⟨rfl, by repeat (first | exact Below.refl _ _ | (refine Below.alloc ?_ (by simp <;> omega) _) | (refine Below.setCell ?_ (by simp <;> omega) _))⟩
            · go_enter Tryd.func25, Tryd.ntmps25
              go_wp2_with fail
              exact bodyPost_ret (v := pairV 0 0 ⟨#[]⟩ 14) (by simp [results, Tryd.results25, go_sem, pairV]) rfl ⟨rfl, by repeat (first | exact Below.refl _ _ | (refine Below.alloc ?_ (by simp <;> omega) _) | (refine Below.setCell ?_ (by simp <;> omega) _))⟩
        · have e1 : (K == 1) = false := by simpa using K1
          have e2 : (K == 2) = false := by simpa using K2
          have e3 : (K == 3) = false := by simpa using K3
          have e4 : (K == 4) = false := by simpa using K4
          obtain ⟨rfl, rfl, rfl, rfl⟩ := quad ((outV_no (doV_none K na kb nb nv kv ka sa sb sv K1 K2 K3 K4) (by decide)).symm.trans hr.out)
          clear hr K1 K2 K3 K4
          go_enter Tryd.func25, Tryd.ntmps25
          go_wp2_with fail
          exact bodyPost_ret (v := pairV 0 0 ⟨#[]⟩ 2) (by simp [results, Tryd.results25, go_sem, pairV]) rfl ⟨rfl, by repeat (first | exact Below.refl _ _ | (refine Below.alloc ?_ (by simp <;> omega) _) | (refine Below.setCell ?_ (by simp <;> omega) _))⟩

end Go.Proofs.YtmilcgikncecnaaDoor
