/-
  WHAT IS PROVED: the walk of the law DeedDoes: it returns true for every operation and value, where the library's variables hold what the program's text lays.
-/
import Derived.Test.YtmilcgikncecnaaDoorAwake2
import Derived.Test.YtmilcgikncecnaaDoorLawReads2
namespace Go.Proofs.YtmilcgikncecnaaDoor
open Go.RowKit

set_option maxRecDepth 100000 in
set_option maxHeartbeats 8000000 in
theorem lawDoes_bad (K ka na kb nb kv nv : Int) (ky sa sb sv : ByteArray) (w : World) (hL : LaidD w)
    (HG : Hid (∀ W : World, Calls Tryd.prog 13 #[opV K ky ka na sa kb nb sb] W fun e W' => e = .returned (.bool false) ∧ Below W.heap.size W W')) :
    Calls Tryd.prog 5 #[opV K ky ka na sa kb nb sb, .agg #[.int .i64 kv, .int .i64 nv, .string sv]] w fun e w' => e = .returned (.bool true) ∧ Below w.heap.size w w' := by
  have HL := Lib.hid hL
  clear hL
  go_enter Tryd.func5, Tryd.ntmps5
  go_wp2_with fail
  have HO : Hid (Blk ((w.alloc (.cells (opC K ky ka na sa kb nb sb) 28)).alloc (.cells #[.int .i64 kv, .int .i64 nv, .string sv] 26)) w.heap.size (opC K ky ka na sa kb nb sb) 28) := (blk_new w _ _).alloc _
  have HV : Hid (Blk ((w.alloc (.cells (opC K ky ka na sa kb nb sb) 28)).alloc (.cells #[.int .i64 kv, .int .i64 nv, .string sv] 26)) (w.heap.size + 1) #[.int .i64 kv, .int .i64 nv, .string sv] 26) := blk_at (by simp) _ _
  have hB := ba (b0 w (.cells (opC K ky ka na sa kb nb sb) 28)) (.cells #[.int .i64 kv, .int .i64 nv, .string sv] 26)
  generalize (w.alloc (.cells (opC K ky ka na sa kb nb sb) 28)).alloc (.cells #[.int .i64 kv, .int .i64 nv, .string sv] 26) = W at HO HV hB ⊢
  refine (awake_any _ (HL.out.keep hB)).mono ?_
  rintro e w1 ⟨rfl, hb1⟩
  replace hB := bt hB hb1
  replace HO := Lib.hid (HO.out.keep hb1)
  replace HV := Lib.hid (HV.out.keep hb1)
  clear hb1
  obtain ⟨q0, q1, q2, q3, q4, q5, q6, q7, q8⟩ := HO.out.c8
  obtain ⟨p0, p1, p2, p3⟩ := HV.out.c3
  go_wp2_with fail
  refine (HG.out _).mono ?_
  rintro e w2 ⟨rfl, hb2⟩
  replace hB := bt hB hb2
  replace HO := Lib.hid (HO.out.keep hb2)
  replace HV := Lib.hid (HV.out.keep hb2)
  clear hb2 q0 q1 q2 q3 q4 q5 q6 q7 q8 p0 p1 p2 p3
  obtain ⟨q0, q1, q2, q3, q4, q5, q6, q7, q8⟩ := HO.out.c8
  obtain ⟨p0, p1, p2, p3⟩ := HV.out.c3
  go_wp2_with fail
  refine (awake_any _ (HL.out.keep hB)).mono ?_
  rintro e w9 ⟨rfl, hb9⟩
  go_wp2_with fail
  go_ret
  exact ⟨rfl, bt hB hb9⟩

set_option maxRecDepth 100000 in
set_option maxHeartbeats 8000000 in
theorem lawDoes_badV (K ka na kb nb kv nv : Int) (ky sa sb sv : ByteArray) (w : World) (hL : LaidD w)
    (HG : Hid (∀ W : World, Calls Tryd.prog 13 #[opV K ky ka na sa kb nb sb] W fun e W' => e = .returned (.bool true) ∧ Below W.heap.size W W'))
    (HGV : Hid (∀ W : World, Calls Tryd.prog 14 #[.agg #[.int .i64 kv, .int .i64 nv, .string sv]] W fun e W' => e = .returned (.bool false) ∧ Below W.heap.size W W')) :
    Calls Tryd.prog 5 #[opV K ky ka na sa kb nb sb, .agg #[.int .i64 kv, .int .i64 nv, .string sv]] w fun e w' => e = .returned (.bool true) ∧ Below w.heap.size w w' := by
  have HL := Lib.hid hL
  clear hL
  go_enter Tryd.func5, Tryd.ntmps5
  go_wp2_with fail
  have HO : Hid (Blk ((w.alloc (.cells (opC K ky ka na sa kb nb sb) 28)).alloc (.cells #[.int .i64 kv, .int .i64 nv, .string sv] 26)) w.heap.size (opC K ky ka na sa kb nb sb) 28) := (blk_new w _ _).alloc _
  have HV : Hid (Blk ((w.alloc (.cells (opC K ky ka na sa kb nb sb) 28)).alloc (.cells #[.int .i64 kv, .int .i64 nv, .string sv] 26)) (w.heap.size + 1) #[.int .i64 kv, .int .i64 nv, .string sv] 26) := blk_at (by simp) _ _
  have hB := ba (b0 w (.cells (opC K ky ka na sa kb nb sb) 28)) (.cells #[.int .i64 kv, .int .i64 nv, .string sv] 26)
  generalize (w.alloc (.cells (opC K ky ka na sa kb nb sb) 28)).alloc (.cells #[.int .i64 kv, .int .i64 nv, .string sv] 26) = W at HO HV hB ⊢
  refine (awake_any _ (HL.out.keep hB)).mono ?_
  rintro e w1 ⟨rfl, hb1⟩
  replace hB := bt hB hb1
  replace HO := Lib.hid (HO.out.keep hb1)
  replace HV := Lib.hid (HV.out.keep hb1)
  clear hb1
  obtain ⟨q0, q1, q2, q3, q4, q5, q6, q7, q8⟩ := HO.out.c8
  obtain ⟨p0, p1, p2, p3⟩ := HV.out.c3
  go_wp2_with fail
  refine (HG.out _).mono ?_
  rintro e w2 ⟨rfl, hb2⟩
  replace hB := bt hB hb2
  replace HO := Lib.hid (HO.out.keep hb2)
  replace HV := Lib.hid (HV.out.keep hb2)
  clear hb2 q0 q1 q2 q3 q4 q5 q6 q7 q8 p0 p1 p2 p3
  obtain ⟨q0, q1, q2, q3, q4, q5, q6, q7, q8⟩ := HO.out.c8
  obtain ⟨p0, p1, p2, p3⟩ := HV.out.c3
  go_wp2_with fail
  refine (HGV.out _).mono ?_
  rintro e w3 ⟨rfl, hb3⟩
  replace hB := bt hB hb3
  replace HO := Lib.hid (HO.out.keep hb3)
  replace HV := Lib.hid (HV.out.keep hb3)
  clear hb3 q0 q1 q2 q3 q4 q5 q6 q7 q8 p0 p1 p2 p3
  obtain ⟨q0, q1, q2, q3, q4, q5, q6, q7, q8⟩ := HO.out.c8
  obtain ⟨p0, p1, p2, p3⟩ := HV.out.c3
  go_wp2_with fail
  refine (awake_any _ (HL.out.keep hB)).mono ?_
  rintro e w9 ⟨rfl, hb9⟩
  go_wp2_with fail
  go_ret
  exact ⟨rfl, bt hB hb9⟩

set_option maxRecDepth 100000 in
set_option maxHeartbeats 8000000 in
theorem lawDoes_ok (K ka na kb nb kv nv : Int) (ky sa sb sv : ByteArray) (k n : Int) (s : ByteArray) (w : World) (hL : LaidD w)
    (HG : Hid (∀ W : World, Calls Tryd.prog 13 #[opV K ky ka na sa kb nb sb] W fun e W' => e = .returned (.bool true) ∧ Below W.heap.size W W'))
    (HGV : Hid (∀ W : World, Calls Tryd.prog 14 #[.agg #[.int .i64 kv, .int .i64 nv, .string sv]] W fun e W' => e = .returned (.bool true) ∧ Below W.heap.size W W'))
    (C1 : Hid (∀ W : World, Calls Tryd.prog 15 #[opV K ky ka na sa kb nb sb, .agg #[.int .i64 kv, .int .i64 nv, .string sv]] W fun e W' => e = .returned (pairV k n s 0) ∧ Below W.heap.size W W'))
    (C2 : Hid (∀ W : World, Calls Tryd.prog 16 #[opV K ky ka na sa kb nb sb, .agg #[.int .i64 kv, .int .i64 nv, .string sv]] W fun e W' => e = .returned (pairV k n s 0) ∧ Below W.heap.size W W'))
    (HGR : Hid (∀ W : World, Calls Tryd.prog 14 #[.agg #[.int .i64 k, .int .i64 n, .string s]] W fun e W' => e = .returned (.bool true) ∧ Below W.heap.size W W')) :
    Calls Tryd.prog 5 #[opV K ky ka na sa kb nb sb, .agg #[.int .i64 kv, .int .i64 nv, .string sv]] w fun e w' => e = .returned (.bool true) ∧ Below w.heap.size w w' := by
  have HL := Lib.hid hL
  clear hL
  go_enter Tryd.func5, Tryd.ntmps5
  go_wp2_with fail
  have HO : Hid (Blk ((w.alloc (.cells (opC K ky ka na sa kb nb sb) 28)).alloc (.cells #[.int .i64 kv, .int .i64 nv, .string sv] 26)) w.heap.size (opC K ky ka na sa kb nb sb) 28) := (blk_new w _ _).alloc _
  have HV : Hid (Blk ((w.alloc (.cells (opC K ky ka na sa kb nb sb) 28)).alloc (.cells #[.int .i64 kv, .int .i64 nv, .string sv] 26)) (w.heap.size + 1) #[.int .i64 kv, .int .i64 nv, .string sv] 26) := blk_at (by simp) _ _
  have hB := ba (b0 w (.cells (opC K ky ka na sa kb nb sb) 28)) (.cells #[.int .i64 kv, .int .i64 nv, .string sv] 26)
  generalize (w.alloc (.cells (opC K ky ka na sa kb nb sb) 28)).alloc (.cells #[.int .i64 kv, .int .i64 nv, .string sv] 26) = W at HO HV hB ⊢
  refine (awake_any _ (HL.out.keep hB)).mono ?_
  rintro e w1 ⟨rfl, hb1⟩
  replace hB := bt hB hb1
  replace HO := Lib.hid (HO.out.keep hb1)
  replace HV := Lib.hid (HV.out.keep hb1)
  clear hb1
  obtain ⟨q0, q1, q2, q3, q4, q5, q6, q7, q8⟩ := HO.out.c8
  obtain ⟨p0, p1, p2, p3⟩ := HV.out.c3
  go_wp2_with fail
  refine (HG.out _).mono ?_
  rintro e w2 ⟨rfl, hb2⟩
  replace hB := bt hB hb2
  replace HO := Lib.hid (HO.out.keep hb2)
  replace HV := Lib.hid (HV.out.keep hb2)
  clear hb2 q0 q1 q2 q3 q4 q5 q6 q7 q8 p0 p1 p2 p3
  obtain ⟨q0, q1, q2, q3, q4, q5, q6, q7, q8⟩ := HO.out.c8
  obtain ⟨p0, p1, p2, p3⟩ := HV.out.c3
  go_wp2_with fail
  refine (HGV.out _).mono ?_
  rintro e w3 ⟨rfl, hb3⟩
  replace hB := bt hB hb3
  replace HO := Lib.hid (HO.out.keep hb3)
  replace HV := Lib.hid (HV.out.keep hb3)
  clear hb3 q0 q1 q2 q3 q4 q5 q6 q7 q8 p0 p1 p2 p3
  obtain ⟨q0, q1, q2, q3, q4, q5, q6, q7, q8⟩ := HO.out.c8
  obtain ⟨p0, p1, p2, p3⟩ := HV.out.c3
  go_wp2_with fail
  refine (C1.out _).mono ?_
  rintro e w4 ⟨rfl, hb4⟩
  replace hB := bt hB hb4
  replace HO := Lib.hid (HO.out.keep hb4)
  replace HV := Lib.hid (HV.out.keep hb4)
  clear hb4 q0 q1 q2 q3 q4 q5 q6 q7 q8 p0 p1 p2 p3
  have lv := HV.out.lt
  have HX := Lib.hid (blk_new w4 #[.int .i64 k, .int .i64 n, .string s] 26)
  have HV2 := Lib.hid (HV.out.alloc (.cells #[.int .i64 k, .int .i64 n, .string s] 26))
  obtain ⟨q0, q1, q2, q3, q4, q5, q6, q7, q8⟩ := HO.out.c8
  obtain ⟨p0, p1, p2, p3⟩ := HV.out.c3
  go_wp2_with fail
  replace hB := ba hB (.cells #[.int .i64 k, .int .i64 n, .string s] 26)
  refine (C2.out _).mono ?_
  rintro e w5 ⟨rfl, hb5⟩
  replace hB := bt hB hb5
  replace HX := Lib.hid (HX.out.keep hb5)
  replace HV2 := Lib.hid (HV2.out.keep hb5)
  clear hb5 q0 q1 q2 q3 q4 q5 q6 q7 q8 p0 p1 p2 p3 HO HV
  generalize w4.heap.size = XB at HX lv ⊢
  obtain ⟨x0, x1, x2, x3⟩ := HX.out.c3
  obtain ⟨p0, p1, p2, p3⟩ := HV2.out.c3
  go_wp2_with fail
  replace hB := ba hB (.cells #[.int .i64 k, .int .i64 n, .string s] 26)
  replace HX := Lib.hid (HX.out.alloc (.cells #[.int .i64 k, .int .i64 n, .string s] 26))
  replace HV2 := Lib.hid (HV2.out.alloc (.cells #[.int .i64 k, .int .i64 n, .string s] 26))
  refine (HGR.out _).mono ?_
  rintro e w6 ⟨rfl, hb6⟩
  replace hB := bt hB hb6
  clear x0 x1 x2 x3 p0 p1 p2 p3
  obtain ⟨x0, x1, x2, x3⟩ := (HX.out.keep hb6).c3
  obtain ⟨p0, p1, p2, p3⟩ := (HV2.out.keep hb6).c3
  clear hb6
  go_wp2_with fail
  go_ret
  exact ⟨rfl, hB⟩

set_option maxRecDepth 100000 in
set_option maxHeartbeats 8000000 in
theorem lawDoes_err (K ka na kb nb kv nv : Int) (ky sa sb sv : ByteArray) (er : Int) (w : World) (hL : LaidD w)
    (HG : Hid (∀ W : World, Calls Tryd.prog 13 #[opV K ky ka na sa kb nb sb] W fun e W' => e = .returned (.bool true) ∧ Below W.heap.size W W'))
    (HGV : Hid (∀ W : World, Calls Tryd.prog 14 #[.agg #[.int .i64 kv, .int .i64 nv, .string sv]] W fun e W' => e = .returned (.bool true) ∧ Below W.heap.size W W'))
    (C1 : Hid (∀ W : World, Calls Tryd.prog 15 #[opV K ky ka na sa kb nb sb, .agg #[.int .i64 kv, .int .i64 nv, .string sv]] W fun e W' => e = .returned (pairV kv nv sv er) ∧ Below W.heap.size W W'))
    (C2 : Hid (∀ W : World, Calls Tryd.prog 16 #[opV K ky ka na sa kb nb sb, .agg #[.int .i64 kv, .int .i64 nv, .string sv]] W fun e W' => e = .returned (pairV kv nv sv er) ∧ Below W.heap.size W W'))
    (HGR : Hid (∀ W : World, Calls Tryd.prog 14 #[.agg #[.int .i64 kv, .int .i64 nv, .string sv]] W fun e W' => e = .returned (.bool true) ∧ Below W.heap.size W W'))
    (he : (er == 0) = false) :
    Calls Tryd.prog 5 #[opV K ky ka na sa kb nb sb, .agg #[.int .i64 kv, .int .i64 nv, .string sv]] w fun e w' => e = .returned (.bool true) ∧ Below w.heap.size w w' := by
  have HL := Lib.hid hL
  clear hL
  go_enter Tryd.func5, Tryd.ntmps5
  go_wp2_with fail
  have HO : Hid (Blk ((w.alloc (.cells (opC K ky ka na sa kb nb sb) 28)).alloc (.cells #[.int .i64 kv, .int .i64 nv, .string sv] 26)) w.heap.size (opC K ky ka na sa kb nb sb) 28) := (blk_new w _ _).alloc _
  have HV : Hid (Blk ((w.alloc (.cells (opC K ky ka na sa kb nb sb) 28)).alloc (.cells #[.int .i64 kv, .int .i64 nv, .string sv] 26)) (w.heap.size + 1) #[.int .i64 kv, .int .i64 nv, .string sv] 26) := blk_at (by simp) _ _
  have hB := ba (b0 w (.cells (opC K ky ka na sa kb nb sb) 28)) (.cells #[.int .i64 kv, .int .i64 nv, .string sv] 26)
  generalize (w.alloc (.cells (opC K ky ka na sa kb nb sb) 28)).alloc (.cells #[.int .i64 kv, .int .i64 nv, .string sv] 26) = W at HO HV hB ⊢
  refine (awake_any _ (HL.out.keep hB)).mono ?_
  rintro e w1 ⟨rfl, hb1⟩
  replace hB := bt hB hb1
  replace HO := Lib.hid (HO.out.keep hb1)
  replace HV := Lib.hid (HV.out.keep hb1)
  clear hb1
  obtain ⟨q0, q1, q2, q3, q4, q5, q6, q7, q8⟩ := HO.out.c8
  obtain ⟨p0, p1, p2, p3⟩ := HV.out.c3
  go_wp2_with fail
  refine (HG.out _).mono ?_
  rintro e w2 ⟨rfl, hb2⟩
  replace hB := bt hB hb2
  replace HO := Lib.hid (HO.out.keep hb2)
  replace HV := Lib.hid (HV.out.keep hb2)
  clear hb2 q0 q1 q2 q3 q4 q5 q6 q7 q8 p0 p1 p2 p3
  obtain ⟨q0, q1, q2, q3, q4, q5, q6, q7, q8⟩ := HO.out.c8
  obtain ⟨p0, p1, p2, p3⟩ := HV.out.c3
  go_wp2_with fail
  refine (HGV.out _).mono ?_
  rintro e w3 ⟨rfl, hb3⟩
  replace hB := bt hB hb3
  replace HO := Lib.hid (HO.out.keep hb3)
  replace HV := Lib.hid (HV.out.keep hb3)
  clear hb3 q0 q1 q2 q3 q4 q5 q6 q7 q8 p0 p1 p2 p3
  obtain ⟨q0, q1, q2, q3, q4, q5, q6, q7, q8⟩ := HO.out.c8
  obtain ⟨p0, p1, p2, p3⟩ := HV.out.c3
  go_wp2_with fail
  refine (C1.out _).mono ?_
  rintro e w4 ⟨rfl, hb4⟩
  replace hB := bt hB hb4
  replace HO := Lib.hid (HO.out.keep hb4)
  replace HV := Lib.hid (HV.out.keep hb4)
  clear hb4 q0 q1 q2 q3 q4 q5 q6 q7 q8 p0 p1 p2 p3
  have lv := HV.out.lt
  have HX := Lib.hid (blk_new w4 #[.int .i64 kv, .int .i64 nv, .string sv] 26)
  have HV2 := Lib.hid (HV.out.alloc (.cells #[.int .i64 kv, .int .i64 nv, .string sv] 26))
  obtain ⟨q0, q1, q2, q3, q4, q5, q6, q7, q8⟩ := HO.out.c8
  obtain ⟨p0, p1, p2, p3⟩ := HV.out.c3
  go_wp2_with fail
  replace hB := ba hB (.cells #[.int .i64 kv, .int .i64 nv, .string sv] 26)
  refine (C2.out _).mono ?_
  rintro e w5 ⟨rfl, hb5⟩
  replace hB := bt hB hb5
  replace HX := Lib.hid (HX.out.keep hb5)
  replace HV2 := Lib.hid (HV2.out.keep hb5)
  clear hb5 q0 q1 q2 q3 q4 q5 q6 q7 q8 p0 p1 p2 p3 HO HV
  generalize w4.heap.size = XB at HX lv ⊢
  obtain ⟨x0, x1, x2, x3⟩ := HX.out.c3
  obtain ⟨p0, p1, p2, p3⟩ := HV2.out.c3
  go_wp2_with fail
  replace hB := ba hB (.cells #[.int .i64 kv, .int .i64 nv, .string sv] 26)
  replace HX := Lib.hid (HX.out.alloc (.cells #[.int .i64 kv, .int .i64 nv, .string sv] 26))
  replace HV2 := Lib.hid (HV2.out.alloc (.cells #[.int .i64 kv, .int .i64 nv, .string sv] 26))
  refine (HGR.out _).mono ?_
  rintro e w6 ⟨rfl, hb6⟩
  replace hB := bt hB hb6
  clear x0 x1 x2 x3 p0 p1 p2 p3
  obtain ⟨x0, x1, x2, x3⟩ := (HX.out.keep hb6).c3
  obtain ⟨p0, p1, p2, p3⟩ := (HV2.out.keep hb6).c3
  clear hb6
  go_wp2_with fail
  go_ret
  exact ⟨rfl, hB⟩

theorem doV_good {K ka na kb nb kv nv k n e : Int} {sa sb sv s : ByteArray} (h : doV K ka na kb nb kv nv sa sb sv = (k, n, s, e)) (ga : goodB ka na sa = true) (gb : goodB kb nb sb = true) (gv : goodB kv nv sv = true) : goodB k n s = true := by
  unfold doV at h
  repeat' split at h
  all_goals
    obtain ⟨rfl, rfl, rfl, rfl⟩ := quad h
    first
      | exact ga
      | exact gb
      | exact gv
      | decide
      | exact decide_eq_true (Or.inr (Or.inl ⟨rfl, rfl⟩))
theorem size_40 {k n : Int} {s : ByteArray} (h : goodB k n s = true) : s.size ≤ 40 := by
  have h1 := goodW_len (good_words h)
  have h2 : s.data.toList.length = s.size := Array.length_toList
  omega

theorem lawDoes_any (K : Int) (ky : ByteArray) (ka na : Int) (sa : ByteArray) (kb nb : Int) (sb : ByteArray) (kv nv : Int) (sv : ByteArray) (w : World) (_ : -9223372036854775808 ≤ K ∧ K ≤ 9223372036854775807) (hk : ky.size ≤ maxLen) (_ : -9223372036854775808 ≤ ka ∧ ka ≤ 9223372036854775807) (h0 : -9223372036854775808 ≤ na ∧ na ≤ 9223372036854775807) (ha : sa.size ≤ maxLen)
    (_ : -9223372036854775808 ≤ kb ∧ kb ≤ 9223372036854775807) (_ : -9223372036854775808 ≤ nb ∧ nb ≤ 9223372036854775807) (hb : sb.size ≤ maxLen)
    (_ : -9223372036854775808 ≤ kv ∧ kv ≤ 9223372036854775807) (h1 : -9223372036854775808 ≤ nv ∧ nv ≤ 9223372036854775807) (hv : sv.size ≤ maxLen) (hL : LaidD w) :
    Calls Tryd.prog 5 #[opV K ky ka na sa kb nb sb, .agg #[.int .i64 kv, .int .i64 nv, .string sv]] w fun e w' => e = .returned (.bool true) ∧ Below w.heap.size w w' := by
  have HG := fun W => refOpGood_any K ka na kb nb ky sa sb W hk ha hb
  have HGV := fun W => refGood_any kv nv sv W hv
  cases hg : opB K ky ka na sa kb nb sb with
  | false =>
    rw [hg] at HG
    exact lawDoes_bad K ka na kb nb kv nv ky sa sb sv w hL HG
  | true =>
    rw [hg] at HG
    cases hgv : goodB kv nv sv with
    | false =>
      rw [hgv] at HGV
      exact lawDoes_badV K ka na kb nb kv nv ky sa sb sv w hL HG HGV
    | true =>
      rw [hgv] at HGV
      have hw := opB_words hg
      obtain ⟨⟨k, n, s, er⟩, hr⟩ : ∃ r, doV K ka na kb nb kv nv sa sb sv = r := ⟨_, rfl⟩
      have gr := doV_good hr hw.2.1 hw.2.2.1 hgv
      have sz := size_40 gr
      have HGR := fun W => refGood_any k n s W (by unfold maxLen; omega)
      rw [gr] at HGR
      have C1 := fun W => do_any K ka na kb nb kv nv ky sa sb sv W h0 h1 k n s er hr (by omega)
      have C2 := fun W => refDo_any K ka na kb nb kv nv ky sa sb sv W h0 h1 k n s er hr (opB_kind hg)
      by_cases he : er = 0
      · subst he
        exact lawDoes_ok K ka na kb nb kv nv ky sa sb sv k n s w hL HG HGV C1 C2 HGR
      · obtain ⟨rfl, rfl, rfl⟩ := doV_err hr he
        exact lawDoes_err K ka na kb nb k n ky sa sb s er w hL HG HGV C1 C2 HGR (by simpa using he)
end Go.Proofs.YtmilcgikncecnaaDoor
