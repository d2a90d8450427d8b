/-
  WHAT IS PROVED: deed.Do answers as the plain function doV does. Conditions: those typed in each theorem.
-/
import Derived.Test.YtmilcgikncecnaaDoorDeedDo
namespace Go.Proofs.YtmilcgikncecnaaDoor
open Go.RowKit

theorem doV_err {K ka na kb nb kv nv k n e : Int} {sa sb sv s : ByteArray} (h : doV K ka na kb nb kv nv sa sb sv = (k, n, s, e)) (he : e ≠ 0) : k = kv ∧ n = nv ∧ s = sv := by
  unfold doV at h
  repeat' split at h
  all_goals
    obtain ⟨rfl, rfl, rfl, rfl⟩ := quad h
    first
      | exact ⟨rfl, rfl, rfl⟩
      | exact absurd rfl he

set_option maxHeartbeats 4000000 in
theorem do_any (K ka na kb nb kv nv : Int) (ky sa sb sv : ByteArray) (w : World) (h0 : -9223372036854775808 ≤ na ∧ na ≤ 9223372036854775807) (h1 : -9223372036854775808 ≤ nv ∧ nv ≤ 9223372036854775807) (k n : Int) (s : ByteArray) (er : Int)
    (hr : Hid (doV K ka na kb nb kv nv sa sb sv = (k, n, s, er))) (hs : s.size ≤ 281474976710656) :
    Calls Tryd.prog 15 #[opV K ky ka na sa kb nb sb, .agg #[.int .i64 kv, .int .i64 nv, .string sv]] w fun e w' => e = .returned (pairV k n s er) ∧ Below w.heap.size w w' := by
  by_cases he : er = 0
  · subst he
    have co := fun W : World => outcome_any K ka na kb nb kv nv ky sa sb sv W h0 h1 k n s 0 (outV_ok hr.out)
    have Co := Lib.hid co
    clear co hr h0 h1
    go_enter Tryd.func15, Tryd.ntmps15
    go_wp2_with fail
    have hB : Below w.heap.size w (((w.alloc (.cells (opC K ky ka na sa kb nb sb) 28)).alloc (.cells #[.int .i64 kv, .int .i64 nv, .string sv] 26)).alloc (.cells #[.int .i64 0, .int .i64 0, .string ⟨#[]⟩] 26)) := ba (ba (b0 _ _) _) _
    have hC2 : Hid (Blk (((w.alloc (.cells (opC K ky ka na sa kb nb sb) 28)).alloc (.cells #[.int .i64 kv, .int .i64 nv, .string sv] 26)).alloc (.cells #[.int .i64 0, .int .i64 0, .string ⟨#[]⟩] 26)) (w.heap.size + 1 + 1) #[.int .i64 0, .int .i64 0, .string ⟨#[]⟩] 26) := blk_at (by simp) _ _
    generalize ((w.alloc (.cells (opC K ky ka na sa kb nb sb) 28)).alloc (.cells #[.int .i64 kv, .int .i64 nv, .string sv] 26)).alloc (.cells #[.int .i64 0, .int .i64 0, .string ⟨#[]⟩] 26) = W at hC2 hB ⊢
    refine (Co.out _).mono ?_
    rintro e w1 ⟨rfl, hb1⟩
    replace hB := bt hB hb1
    replace hC2 := Lib.hid (hC2.out.keep hb1)
    go_wp2_with fail
    have hlt := hC2.out.lt
    have hL : Hid (Blk (w1.alloc (.cells #[.int .i64 k, .int .i64 n, .string s] 26)) w1.heap.size #[.int .i64 k, .int .i64 n, .string s] 26) := blk_new _ _ _
    replace hB := ba hB (.cells #[.int .i64 k, .int .i64 n, .string s] 26)
    replace hC2 := Lib.hid (hC2.out.alloc (.cells #[.int .i64 k, .int .i64 n, .string s] 26))
    generalize w1.heap.size = BL at hL hlt ⊢
    generalize w1.alloc (.cells #[.int .i64 k, .int .i64 n, .string s] 26) = W2 at hL hC2 hB ⊢
    refine (clone_any _ _ hs).mono ?_
    rintro e w2 ⟨rfl, hb2⟩
    replace hB := bt hB hb2
    obtain ⟨q0, q1, q2, q3⟩ := (hC2.out.keep hb2).c3
    obtain ⟨f0, f1, f2⟩ := (hC2.out.keep hb2).f3
    obtain ⟨r0, r1, r2, r3⟩ := (hL.out.keep hb2).c3
    obtain ⟨g0, g1, g2⟩ := (hL.out.keep hb2).f3
    have hne : ¬ BL = w.heap.size + 1 + 1 := by omega
    go_wp2_with fail
    exact bodyPost_ret (v := pairV k n s 0) (by simp [results, Tryd.results15, go_sem, pairV, q0, q1, q2]) rfl ⟨rfl, by repeat (first | exact hB | (refine Below.setCell ?_ (by simp <;> omega) _))⟩
  · obtain ⟨rfl, rfl, rfl⟩ := doV_err hr.out he
    have co := fun W : World => outcome_any K ka na kb nb k n ky sa sb s W h0 h1 0 0 ⟨#[]⟩ er (outV_no hr.out he)
    have Co := Lib.hid co
    have he1 : (er != 0) = true := by simpa using he
    clear co hr h0 h1 he
    go_enter Tryd.func15, Tryd.ntmps15
    go_wp2_with fail
    have hB : Below w.heap.size w (((w.alloc (.cells (opC K ky ka na sa kb nb sb) 28)).alloc (.cells #[.int .i64 k, .int .i64 n, .string s] 26)).alloc (.cells #[.int .i64 0, .int .i64 0, .string ⟨#[]⟩] 26)) := ba (ba (b0 _ _) _) _
    have hC2 : Hid (Blk (((w.alloc (.cells (opC K ky ka na sa kb nb sb) 28)).alloc (.cells #[.int .i64 k, .int .i64 n, .string s] 26)).alloc (.cells #[.int .i64 0, .int .i64 0, .string ⟨#[]⟩] 26)) (w.heap.size + 1 + 1) #[.int .i64 0, .int .i64 0, .string ⟨#[]⟩] 26) := blk_at (by simp) _ _
    have hC1 : Hid (Blk (((w.alloc (.cells (opC K ky ka na sa kb nb sb) 28)).alloc (.cells #[.int .i64 k, .int .i64 n, .string s] 26)).alloc (.cells #[.int .i64 0, .int .i64 0, .string ⟨#[]⟩] 26)) (w.heap.size + 1) #[.int .i64 k, .int .i64 n, .string s] 26) := (blk_at (by simp) _ _ : Blk _ _ _ _).alloc _
    generalize ((w.alloc (.cells (opC K ky ka na sa kb nb sb) 28)).alloc (.cells #[.int .i64 k, .int .i64 n, .string s] 26)).alloc (.cells #[.int .i64 0, .int .i64 0, .string ⟨#[]⟩] 26) = W at hC1 hC2 hB ⊢
    refine (Co.out _).mono ?_
    rintro e w1 ⟨rfl, hb1⟩
    replace hB := bt hB hb1
    replace hC2 := Lib.hid (hC2.out.keep hb1)
    replace hC1 := Lib.hid (hC1.out.keep hb1)
    obtain ⟨p0, p1, p2, p3⟩ := hC1.out.c3
    go_wp2_with fail
    have hlt := hC2.out.lt
    have hL : Hid (Blk (w1.alloc (.cells #[.int .i64 k, .int .i64 n, .string s] 26)) w1.heap.size #[.int .i64 k, .int .i64 n, .string s] 26) := blk_new _ _ _
    replace hB := ba hB (.cells #[.int .i64 k, .int .i64 n, .string s] 26)
    replace hC2 := Lib.hid (hC2.out.alloc (.cells #[.int .i64 k, .int .i64 n, .string s] 26))
    generalize w1.heap.size = BL at hL hlt ⊢
    generalize w1.alloc (.cells #[.int .i64 k, .int .i64 n, .string s] 26) = W2 at hL hC2 hB ⊢
    refine (clone_any _ _ hs).mono ?_
    rintro e w2 ⟨rfl, hb2⟩
    replace hB := bt hB hb2
    obtain ⟨q0, q1, q2, q3⟩ := (hC2.out.keep hb2).c3
    obtain ⟨f0, f1, f2⟩ := (hC2.out.keep hb2).f3
    obtain ⟨r0, r1, r2, r3⟩ := (hL.out.keep hb2).c3
    obtain ⟨g0, g1, g2⟩ := (hL.out.keep hb2).f3
    have hne : ¬ BL = w.heap.size + 1 + 1 := by omega
    go_wp2_with fail
    exact bodyPost_ret (v := pairV k n s er) (by simp [results, Tryd.results15, go_sem, pairV, q0, q1, q2]) rfl ⟨rfl, by repeat (first | exact hB | (refine Below.setCell ?_ (by simp <;> omega) _))⟩
end Go.Proofs.YtmilcgikncecnaaDoor
