/-
  WHAT IS PROVED: the document's sum of two values and the document's Do answer as the plain function doV does. Conditions: those typed in each theorem.
-/
import Derived.Test.YtokkmofcijfmiabGQ18
namespace Go.Proofs.Ytokkmofcijfmiab
open Go.RowKit

set_option maxHeartbeats 1000000 in
theorem refSum_kind (ka na kb nb : Int) (sa sb : ByteArray) (w : World) (h : ¬ (ka = 1 ∧ kb = 1)) :
    Calls Try.prog 36 #[.agg #[.int .i64 ka, .int .i64 na, .string sa], .agg #[.int .i64 kb, .int .i64 nb, .string sb]] w fun e w' => e = .returned (pairV 0 0 ⟨#[]⟩ 13) ∧ Below w.heap.size w w' := by
  by_cases ha : ka = 1
  · subst ha
    have hb1 : (kb != 1) = true := by rw [bne_iff_ne]; omega
    clear h
    go_enter Try.func36, Try.ntmps36
    go_wp2_with fail
    exact bodyPost_ret (v := pairV 0 0 ⟨#[]⟩ 13) (by simp [results, Try.results36, go_sem, pairV]) rfl ⟨rfl, by repeat (first | exact Below.refl _ _ | (refine Below.alloc ?_ (by simp <;> omega) _) | (refine Below.setCell ?_ (by simp <;> omega) _))⟩
  · have ha1 : (ka != 1) = true := by simpa using ha
    clear h ha
    go_enter Try.func36, Try.ntmps36
    go_wp2_with fail
    exact bodyPost_ret (v := pairV 0 0 ⟨#[]⟩ 13) (by simp [results, Try.results36, go_sem, pairV]) rfl ⟨rfl, by repeat (first | exact Below.refl _ _ | (refine Below.alloc ?_ (by simp <;> omega) _) | (refine Below.setCell ?_ (by simp <;> omega) _))⟩

set_option maxHeartbeats 1000000 in
theorem refSum_over (na nb : Int) (sa sb : ByteArray) (w : World) (ha0 : -9223372036854775808 ≤ na) (ha1 : na ≤ 9223372036854775807) (hb0 : -9223372036854775808 ≤ nb) (hb1 : nb ≤ 9223372036854775807)
    (h : ¬ (-9223372036854775808 ≤ na + nb ∧ na + nb ≤ 9223372036854775807)) :
    Calls Try.prog 36 #[.agg #[.int .i64 1, .int .i64 na, .string sa], .agg #[.int .i64 1, .int .i64 nb, .string sb]] w fun e w' => e = .returned (pairV 0 0 ⟨#[]⟩ 12) ∧ Below w.heap.size w w' := by
  by_cases hp : 0 < nb
  · have g : 9223372036854775807 - nb < na := by omega
    have g2 : ¬ nb < 0 := by omega
    clear h
    go_enter Try.func36, Try.ntmps36
    go_wp2_with fail
    exact bodyPost_ret (v := pairV 0 0 ⟨#[]⟩ 12) (by simp [results, Try.results36, go_sem, pairV]) rfl ⟨rfl, by repeat (first | exact Below.refl _ _ | (refine Below.alloc ?_ (by simp <;> omega) _) | (refine Below.setCell ?_ (by simp <;> omega) _))⟩
  · have hn : nb < 0 := by omega
    have g : na < -9223372036854775808 - nb := by omega
    clear h
    go_enter Try.func36, Try.ntmps36
    go_wp2_with fail
    exact bodyPost_ret (v := pairV 0 0 ⟨#[]⟩ 12) (by simp [results, Try.results36, go_sem, pairV]) rfl ⟨rfl, by repeat (first | exact Below.refl _ _ | (refine Below.alloc ?_ (by simp <;> omega) _) | (refine Below.setCell ?_ (by simp <;> omega) _))⟩

set_option maxHeartbeats 1000000 in
theorem refSum_ok (na nb : Int) (sa sb : ByteArray) (w : World) (_ha0 : -9223372036854775808 ≤ na) (_ha1 : na ≤ 9223372036854775807) (hb0 : -9223372036854775808 ≤ nb) (hb1 : nb ≤ 9223372036854775807)
    (h0 : -9223372036854775808 ≤ na + nb) (h1 : na + nb ≤ 9223372036854775807) :
    Calls Try.prog 36 #[.agg #[.int .i64 1, .int .i64 na, .string sa], .agg #[.int .i64 1, .int .i64 nb, .string sb]] w fun e w' => e = .returned (pairV 1 (na + nb) ⟨#[]⟩ 0) ∧ Below w.heap.size w w' := by
  have hcase : (0 < nb ∧ ¬ nb < 0) ∨ (¬ 0 < nb ∧ nb < 0) ∨ (¬ 0 < nb ∧ ¬ nb < 0) := by omega
  rcases hcase with ⟨p, q⟩ | ⟨p, q⟩ | ⟨p, q⟩
  all_goals
    go_enter Try.func36, Try.ntmps36
    go_wp2_with fail
    have hB : Below w.heap.size w (((w.alloc (.cells #[.int .i64 1, .int .i64 na, .string sa] 31)).alloc (.cells #[.int .i64 1, .int .i64 nb, .string sb] 31)).alloc (.cells #[.int .i64 0, .int .i64 0, .string ⟨#[]⟩] 31)) := ba (ba (b0 _ _) _) _
    have hC2 : Hid (Blk (((w.alloc (.cells #[.int .i64 1, .int .i64 na, .string sa] 31)).alloc (.cells #[.int .i64 1, .int .i64 nb, .string sb] 31)).alloc (.cells #[.int .i64 0, .int .i64 0, .string ⟨#[]⟩] 31)) (w.heap.size + 1 + 1) #[.int .i64 0, .int .i64 0, .string ⟨#[]⟩] 31) := blk_at (by simp) _ _
    generalize ((w.alloc (.cells #[.int .i64 1, .int .i64 na, .string sa] 31)).alloc (.cells #[.int .i64 1, .int .i64 nb, .string sb] 31)).alloc (.cells #[.int .i64 0, .int .i64 0, .string ⟨#[]⟩] 31) = W at hC2 hB ⊢
    refine (refInt_any _ _).mono ?_
    rintro e w1 ⟨rfl, hb1⟩
    replace hB := bt hB hb1
    obtain ⟨q0, q1, q2, q3⟩ := (hC2.out.keep hb1).c3
    obtain ⟨f0, f1, f2⟩ := (hC2.out.keep hb1).f3
    go_wp2_with fail
    exact bodyPost_ret (v := pairV 1 (na + nb) ⟨#[]⟩ 0) (by simp [results, Try.results36, go_sem, pairV, q0, q1, q2]) rfl ⟨rfl, by repeat (first | exact hB | (refine Below.alloc ?_ (by simp <;> omega) _) | (refine Below.setCell ?_ (by simp <;> omega) _))⟩

set_option maxHeartbeats 4000000 in
theorem refDo_any (K ka na kb nb kv nv : Int) (ky sa sb sv : ByteArray) (w : World) (h0 : -9223372036854775808 ≤ na ∧ na ≤ 9223372036854775807) (h1 : -9223372036854775808 ≤ nv ∧ nv ≤ 9223372036854775807) (k n : Int) (s : ByteArray) (er : Int)
    (hr : Hid (doV K ka na kb nb kv nv sa sb sv = (k, n, s, er))) (hK : K = 1 ∨ K = 2 ∨ K = 3 ∨ K = 4) :
    Calls Try.prog 17 #[opV K ky ka na sa kb nb sb, .agg #[.int .i64 kv, .int .i64 nv, .string sv]] w fun e w' => e = .returned (pairV k n s er) ∧ Below w.heap.size w w' := by
  rcases hK with rfl | rfl | rfl | rfl
  · clear h0 h1
    obtain ⟨rfl, rfl, rfl, rfl⟩ := quad ((doV_put ka na kb nb kv nv sa sb sv).symm.trans hr.out)
    clear hr
    go_enter Try.func17, Try.ntmps17
    go_wp2_with fail
    exact bodyPost_ret (v := pairV ka na sa 0) (by simp [results, Try.results17, go_sem, pairV]) rfl ⟨rfl, by repeat (first | exact Below.refl _ _ | (refine Below.alloc ?_ (by simp <;> omega) _) | (refine Below.setCell ?_ (by simp <;> omega) _))⟩
  · clear h0 h1
    by_cases z : kv = 0
    · subst z
      obtain ⟨rfl, rfl, rfl, rfl⟩ := quad ((doV_del0 ka na kb nb nv sa sb sv).symm.trans hr.out)
      clear hr
      go_enter Try.func17, Try.ntmps17
      go_wp2_with fail
      exact bodyPost_ret (v := pairV 0 nv sv 5) (by simp [results, Try.results17, go_sem, pairV]) rfl ⟨rfl, by repeat (first | exact Below.refl _ _ | (refine Below.alloc ?_ (by simp <;> omega) _) | (refine Below.setCell ?_ (by simp <;> omega) _))⟩
    · have z1 : (kv == 0) = false := by simpa using z
      obtain ⟨rfl, rfl, rfl, rfl⟩ := quad ((doV_del1 ka na kb nb kv nv sa sb sv z).symm.trans hr.out)
      clear hr z
      go_enter Try.func17, Try.ntmps17
      go_wp2_with fail
      exact bodyPost_ret (v := pairV 0 0 ⟨#[]⟩ 0) (by simp [results, Try.results17, go_sem, pairV]) rfl ⟨rfl, by repeat (first | exact Below.refl _ _ | (refine Below.alloc ?_ (by simp <;> omega) _) | (refine Below.setCell ?_ (by simp <;> omega) _))⟩
  · by_cases z : kv = 1 ∧ ka = 1
    · obtain ⟨rfl, rfl⟩ := z
      by_cases g : -9223372036854775808 ≤ nv + na ∧ nv + na ≤ 9223372036854775807
      · have G := Lib.hid g
        clear g
        obtain ⟨rfl, rfl, rfl, rfl⟩ := quad ((doV_sum na kb nb nv sa sb sv G.out).symm.trans hr.out)
        clear hr
        go_enter Try.func17, Try.ntmps17
        go_wp2_with fail
        have hB : Below w.heap.size w (((w.alloc (.cells (opC 3 ky 1 na sa kb nb sb) 47)).alloc (.cells #[.int .i64 1, .int .i64 nv, .string sv] 31)).alloc (.cells #[.int .i64 0, .int .i64 0, .string ⟨#[]⟩] 31)) := ba (ba (b0 _ _) _) _
        have hC1 : Hid (Blk (((w.alloc (.cells (opC 3 ky 1 na sa kb nb sb) 47)).alloc (.cells #[.int .i64 1, .int .i64 nv, .string sv] 31)).alloc (.cells #[.int .i64 0, .int .i64 0, .string ⟨#[]⟩] 31)) (w.heap.size + 1) #[.int .i64 1, .int .i64 nv, .string sv] 31) := (blk_at (by simp) _ _ : Blk _ _ _ _).alloc _
        have hC2 : Hid (Blk (((w.alloc (.cells (opC 3 ky 1 na sa kb nb sb) 47)).alloc (.cells #[.int .i64 1, .int .i64 nv, .string sv] 31)).alloc (.cells #[.int .i64 0, .int .i64 0, .string ⟨#[]⟩] 31)) (w.heap.size + 1 + 1) #[.int .i64 0, .int .i64 0, .string ⟨#[]⟩] 31) := blk_at (by simp) _ _
        generalize ((w.alloc (.cells (opC 3 ky 1 na sa kb nb sb) 47)).alloc (.cells #[.int .i64 1, .int .i64 nv, .string sv] 31)).alloc (.cells #[.int .i64 0, .int .i64 0, .string ⟨#[]⟩] 31) = W at hC1 hC2 hB ⊢
        refine (refSum_ok nv na sv sa _ h1.1 h1.2 h0.1 h0.2 G.out.1 G.out.2).mono ?_
        rintro e w1 ⟨rfl, hb1⟩
        replace hB := bt hB hb1
        obtain ⟨q0, q1, q2, q3⟩ := (hC2.out.keep hb1).c3
        obtain ⟨f0, f1, f2⟩ := (hC2.out.keep hb1).f3
        obtain ⟨p0, p1, p2, p3⟩ := (hC1.out.keep hb1).c3
        have hsz := hB.size
        have hne : ¬ w1.heap.size = w.heap.size + 1 + 1 := by omega
        have hne2 : ¬ w.heap.size + 1 + 1 = w1.heap.size := by omega
        go_wp2_with fail
        exact bodyPost_ret (v := pairV 1 (nv + na) ⟨#[]⟩ 0) (by simp [results, Try.results17, go_sem, pairV, q0, q1, q2, hne2, World.cell?_alloc_old]) rfl ⟨rfl, by repeat (first | exact hB | (refine Below.alloc ?_ (by simp <;> omega) _) | (refine Below.setCell ?_ (by simp <;> omega) _))⟩
      · have G := Lib.hid g
        clear g
        obtain ⟨rfl, rfl, rfl, rfl⟩ := quad ((doV_over na kb nb nv sa sb sv G.out).symm.trans hr.out)
        clear hr
        go_enter Try.func17, Try.ntmps17
        go_wp2_with fail
        have hB : Below w.heap.size w (((w.alloc (.cells (opC 3 ky 1 na sa kb nb sb) 47)).alloc (.cells #[.int .i64 1, .int .i64 nv, .string sv] 31)).alloc (.cells #[.int .i64 0, .int .i64 0, .string ⟨#[]⟩] 31)) := ba (ba (b0 _ _) _) _
        have hC1 : Hid (Blk (((w.alloc (.cells (opC 3 ky 1 na sa kb nb sb) 47)).alloc (.cells #[.int .i64 1, .int .i64 nv, .string sv] 31)).alloc (.cells #[.int .i64 0, .int .i64 0, .string ⟨#[]⟩] 31)) (w.heap.size + 1) #[.int .i64 1, .int .i64 nv, .string sv] 31) := (blk_at (by simp) _ _ : Blk _ _ _ _).alloc _
        have hC2 : Hid (Blk (((w.alloc (.cells (opC 3 ky 1 na sa kb nb sb) 47)).alloc (.cells #[.int .i64 1, .int .i64 nv, .string sv] 31)).alloc (.cells #[.int .i64 0, .int .i64 0, .string ⟨#[]⟩] 31)) (w.heap.size + 1 + 1) #[.int .i64 0, .int .i64 0, .string ⟨#[]⟩] 31) := blk_at (by simp) _ _
        generalize ((w.alloc (.cells (opC 3 ky 1 na sa kb nb sb) 47)).alloc (.cells #[.int .i64 1, .int .i64 nv, .string sv] 31)).alloc (.cells #[.int .i64 0, .int .i64 0, .string ⟨#[]⟩] 31) = W at hC1 hC2 hB ⊢
        refine (refSum_over nv na sv sa _ h1.1 h1.2 h0.1 h0.2 G.out).mono ?_
        rintro e w1 ⟨rfl, hb1⟩
        replace hB := bt hB hb1
        obtain ⟨q0, q1, q2, q3⟩ := (hC2.out.keep hb1).c3
        obtain ⟨f0, f1, f2⟩ := (hC2.out.keep hb1).f3
        obtain ⟨p0, p1, p2, p3⟩ := (hC1.out.keep hb1).c3
        have hsz := hB.size
        have hne : ¬ w1.heap.size = w.heap.size + 1 + 1 := by omega
        have hne2 : ¬ w.heap.size + 1 + 1 = w1.heap.size := by omega
        go_wp2_with fail
        exact bodyPost_ret (v := pairV 1 nv sv 12) (by simp [results, Try.results17, go_sem, pairV, q0, q1, q2, hne2, World.cell?_alloc_old]) rfl ⟨rfl, by repeat (first | exact hB | (refine Below.alloc ?_ (by simp <;> omega) _) | (refine Below.setCell ?_ (by simp <;> omega) _))⟩
    · have G := Lib.hid z
      clear z
      obtain ⟨rfl, rfl, rfl, rfl⟩ := quad ((doV_kind ka na kb nb kv nv sa sb sv G.out).symm.trans hr.out)
      clear hr
      go_enter Try.func17, Try.ntmps17
      go_wp2_with fail
      have hB : Below w.heap.size w (((w.alloc (.cells (opC 3 ky ka na sa kb nb sb) 47)).alloc (.cells #[.int .i64 kv, .int .i64 nv, .string sv] 31)).alloc (.cells #[.int .i64 0, .int .i64 0, .string ⟨#[]⟩] 31)) := ba (ba (b0 _ _) _) _
      have hC1 : Hid (Blk (((w.alloc (.cells (opC 3 ky ka na sa kb nb sb) 47)).alloc (.cells #[.int .i64 kv, .int .i64 nv, .string sv] 31)).alloc (.cells #[.int .i64 0, .int .i64 0, .string ⟨#[]⟩] 31)) (w.heap.size + 1) #[.int .i64 kv, .int .i64 nv, .string sv] 31) := (blk_at (by simp) _ _ : Blk _ _ _ _).alloc _
      have hC2 : Hid (Blk (((w.alloc (.cells (opC 3 ky ka na sa kb nb sb) 47)).alloc (.cells #[.int .i64 kv, .int .i64 nv, .string sv] 31)).alloc (.cells #[.int .i64 0, .int .i64 0, .string ⟨#[]⟩] 31)) (w.heap.size + 1 + 1) #[.int .i64 0, .int .i64 0, .string ⟨#[]⟩] 31) := blk_at (by simp) _ _
      generalize ((w.alloc (.cells (opC 3 ky ka na sa kb nb sb) 47)).alloc (.cells #[.int .i64 kv, .int .i64 nv, .string sv] 31)).alloc (.cells #[.int .i64 0, .int .i64 0, .string ⟨#[]⟩] 31) = W at hC1 hC2 hB ⊢
      refine (refSum_kind kv nv ka na sv sa _ G.out).mono ?_
      rintro e w1 ⟨rfl, hb1⟩
      replace hB := bt hB hb1
      obtain ⟨q0, q1, q2, q3⟩ := (hC2.out.keep hb1).c3
      obtain ⟨f0, f1, f2⟩ := (hC2.out.keep hb1).f3
      obtain ⟨p0, p1, p2, p3⟩ := (hC1.out.keep hb1).c3
      have hsz := hB.size
      have hne : ¬ w1.heap.size = w.heap.size + 1 + 1 := by omega
      have hne2 : ¬ w.heap.size + 1 + 1 = w1.heap.size := by omega
      go_wp2_with fail
      exact bodyPost_ret (v := pairV kv nv sv 13) (by simp [results, Try.results17, go_sem, pairV, q0, q1, q2, hne2, World.cell?_alloc_old]) rfl ⟨rfl, by repeat (first | exact hB | (refine Below.alloc ?_ (by simp <;> omega) _) | (refine Below.setCell ?_ (by simp <;> omega) _))⟩
  · clear h0 h1
    by_cases z : kv = ka ∧ nv = na ∧ sv.data.toList = sa.data.toList
    · obtain ⟨rfl, rfl, z3⟩ := z
      obtain rfl : sv = sa := bytes_eq z3
      clear z3
      obtain ⟨rfl, rfl, rfl, rfl⟩ := quad ((doV_cas nv kb nb nv kv kv sv sb sv ⟨rfl, rfl, rfl⟩).symm.trans hr.out)
      clear hr
      go_enter Try.func17, Try.ntmps17
      go_wp2_with fail
      exact bodyPost_ret (v := pairV kb nb sb 0) (by simp [results, Try.results17, go_sem, pairV]) rfl ⟨rfl, by repeat (first | exact Below.refl _ _ | (refine Below.alloc ?_ (by simp <;> omega) _) | (refine Below.setCell ?_ (by simp <;> omega) _))⟩
    · have G := Lib.hid z
      clear z
      obtain ⟨rfl, rfl, rfl, rfl⟩ := quad ((doV_case na kb nb nv kv ka sa sb sv G.out).symm.trans hr.out)
      clear hr
      by_cases z1 : kv = ka
      · subst z1
        by_cases z2 : nv = na
        · subst z2
          have z3 : sv.toList ≠ sa.toList := by
            rw [ByteArray.toList_eq, ByteArray.toList_eq]
            exact fun e => G.out ⟨rfl, rfl, e⟩
          go_enter Try.func17, Try.ntmps17
          go_wp2_with fail
          exact bodyPost_ret (v := pairV kv nv sv 14) (by simp [results, Try.results17, go_sem, pairV]) rfl ⟨rfl, by repeat (first | exact Below.refl _ _ | (refine Below.alloc ?_ (by simp <;> omega) _) | (refine Below.setCell ?_ (by simp <;> omega) _))⟩
        · go_enter Try.func17, Try.ntmps17
          go_wp2_with fail
          exact bodyPost_ret (v := pairV kv nv sv 14) (by simp [results, Try.results17, go_sem, pairV]) rfl ⟨rfl, by repeat (first | exact Below.refl _ _ | (refine Below.alloc ?_ (by simp <;> omega) _) | (refine Below.setCell ?_ (by simp <;> omega) _))⟩
      · go_enter Try.func17, Try.ntmps17
        go_wp2_with fail
        exact bodyPost_ret (v := pairV kv nv sv 14) (by simp [results, Try.results17, go_sem, pairV]) rfl ⟨rfl, by repeat (first | exact Below.refl _ _ | (refine Below.alloc ?_ (by simp <;> omega) _) | (refine Below.setCell ?_ (by simp <;> omega) _))⟩
end Go.Proofs.Ytokkmofcijfmiab
