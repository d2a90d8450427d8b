/-
  WHAT IS PROVED: the walk of the law DeedLines: it returns true for every operation, where the library's variables hold what the program's text lays.
-/
import Derived.Test.YtmilcgikncecnaaDoorAwake2
import Derived.Test.YtmilcgikncecnaaDoorRefLine
import Derived.Test.YtmilcgikncecnaaDoorLawReads2
namespace Go.Proofs.YtmilcgikncecnaaDoor
open Go.RowKit

set_option maxRecDepth 100000 in
set_option maxHeartbeats 4000000 in
theorem lawLines_bad (K ka na kb nb : Int) (ky sa sb : ByteArray) (w : World) (hL : LaidD w)
    (HG : Hid (∀ W : World, Calls Tryd.prog 13 #[opV K ky ka na sa kb nb sb] W fun e W' => e = .returned (.bool false) ∧ Below W.heap.size W W')) :
    Calls Tryd.prog 6 #[opV K ky ka na sa kb nb sb] w fun e w' => e = .returned (.bool true) ∧ Below w.heap.size w w' := by
  have HL := Lib.hid hL
  clear hL
  go_enter Tryd.func6, Tryd.ntmps6
  go_wp2_with fail
  have HO := Lib.hid (blk_new w (opC K ky ka na sa kb nb sb) 28)
  have hB := b0 w (.cells (opC K ky ka na sa kb nb sb) 28)
  refine (awake_any _ (HL.out.keep hB)).mono ?_
  rintro e w1 ⟨rfl, hb1⟩
  replace hB := bt hB hb1
  replace HO := Lib.hid (HO.out.keep hb1)
  clear hb1
  obtain ⟨q0, q1, q2, q3, q4, q5, q6, q7, q8⟩ := HO.out.c8
  go_wp2_with fail
  refine (HG.out _).mono ?_
  rintro e w2 ⟨rfl, hb2⟩
  replace hB := bt hB hb2
  go_wp2_with fail
  refine (awake_any _ (HL.out.keep hB)).mono ?_
  rintro e w3 ⟨rfl, hb3⟩
  go_wp2_with fail
  go_ret
  exact ⟨rfl, bt hB hb3⟩

set_option maxRecDepth 100000 in
set_option maxHeartbeats 4000000 in
theorem lawLines_good (K ka na kb nb : Int) (ky sa sb T : ByteArray) (w : World) (hL : LaidD w)
    (HG : Hid (∀ W : World, Calls Tryd.prog 13 #[opV K ky ka na sa kb nb sb] W fun e W' => e = .returned (.bool true) ∧ Below W.heap.size W W'))
    (C1 : Hid (∀ W : World, LaidD W → Calls Tryd.prog 17 #[opV K ky ka na sa kb nb sb] W fun e W' => e = .returned (.string T) ∧ Below W.heap.size W W'))
    (C2 : Hid (∀ W : World, LaidD W → Calls Tryd.prog 18 #[.string T] W fun e W' => e = .returned (opE K ky ka na sa kb nb sb 0) ∧ Below W.heap.size W W'))
    (C3 : Hid (∀ W : World, Calls Tryd.prog 19 #[opV K ky ka na sa kb nb sb] W fun e W' => e = .returned (.string T) ∧ Below W.heap.size W W')) :
    Calls Tryd.prog 6 #[opV K ky ka na sa kb nb sb] w fun e w' => e = .returned (.bool true) ∧ Below w.heap.size w w' := by
  have HL := Lib.hid hL
  clear hL
  go_enter Tryd.func6, Tryd.ntmps6
  go_wp2_with fail
  have HO := Lib.hid (blk_new w (opC K ky ka na sa kb nb sb) 28)
  have hB := b0 w (.cells (opC K ky ka na sa kb nb sb) 28)
  refine (awake_any _ (HL.out.keep hB)).mono ?_
  rintro e w1 ⟨rfl, hb1⟩
  replace hB := bt hB hb1
  replace HO := Lib.hid (HO.out.keep hb1)
  clear hb1
  obtain ⟨q0, q1, q2, q3, q4, q5, q6, q7, q8⟩ := HO.out.c8
  go_wp2_with fail
  refine (HG.out _).mono ?_
  rintro e w2 ⟨rfl, hb2⟩
  replace hB := bt hB hb2
  replace HO := Lib.hid (HO.out.keep hb2)
  clear hb2 q0 q1 q2 q3 q4 q5 q6 q7 q8
  obtain ⟨q0, q1, q2, q3, q4, q5, q6, q7, q8⟩ := HO.out.c8
  go_wp2_with fail
  refine (C1.out _ (HL.out.keep hB)).mono ?_
  rintro e w3 ⟨rfl, hb3⟩
  replace hB := bt hB hb3
  replace HO := Lib.hid (HO.out.keep hb3)
  clear hb3 q0 q1 q2 q3 q4 q5 q6 q7 q8
  go_wp2_with fail
  refine (C2.out _ (HL.out.keep hB)).mono ?_
  rintro e w4 ⟨rfl, hb4⟩
  replace hB := bt hB hb4
  replace HO := Lib.hid (HO.out.keep hb4)
  clear hb4
  have HX := Lib.hid (blk_new w4 (opC K ky ka na sa kb nb sb) 28)
  have HO2 := Lib.hid (HO.out.alloc (.cells (opC K ky ka na sa kb nb sb) 28))
  have l1 := HO.out.lt
  obtain ⟨q0, q1, q2, q3, q4, q5, q6, q7, q8⟩ := HO.out.c8
  go_wp2_with fail
  replace hB := ba hB (.cells (opC K ky ka na sa kb nb sb) 28)
  refine (C3.out _).mono ?_
  rintro e w5 ⟨rfl, hb5⟩
  replace hB := bt hB hb5
  clear q0 q1 q2 q3 q4 q5 q6 q7 q8
  obtain ⟨q0, q1, q2, q3, q4, q5, q6, q7, q8⟩ := (HO2.out.keep hb5).c8
  obtain ⟨p0, p1, p2, p3, p4, p5, p6, p7, p8⟩ := (HX.out.keep hb5).c8
  clear hb5
  go_wp2_with fail
  go_ret
  exact ⟨rfl, hB⟩

theorem lineL_len {K ka na kb nb : Int} {ky : List UInt8} {sa sb : List UInt8} (hk : ky.length ≤ 20) (ga : GoodW ka na sa) (gb : GoodW kb nb sb) (h0 : -9223372036854775808 ≤ na ∧ na ≤ 9223372036854775807) (h1 : -9223372036854775808 ≤ nb ∧ nb ≤ 9223372036854775807) (hK : K = 1 ∨ K = 2 ∨ K = 3 ∨ K = 4) :
    (lineL K ky (textV ka na sa) (textV kb nb sb)).length ≤ 1000 := by
  have l1 := textV_len ga h0.1 h0.2
  have l2 := textV_len gb h1.1 h1.2
  have l3 := wordL_len K
  rw [size_of] at l3
  rcases hK with rfl | rfl | rfl | rfl
  · rw [lineL_one 1 _ _ _ (Or.inl rfl)]
    simp only [List.length_append, List.length_cons]
    omega
  · rw [lineL_del]
    simp only [List.length_append, List.length_cons]
    omega
  · rw [lineL_one 3 _ _ _ (Or.inr rfl)]
    simp only [List.length_append, List.length_cons]
    omega
  · rw [lineL_cas]
    simp only [List.length_append, List.length_cons]
    omega

theorem lawLines_any (K : Int) (ky : ByteArray) (ka na : Int) (sa : ByteArray) (kb nb : Int) (sb : ByteArray) (w : World) (_ : -9223372036854775808 ≤ K ∧ K ≤ 9223372036854775807) (hk : ky.size ≤ maxLen) (_ : -9223372036854775808 ≤ ka ∧ ka ≤ 9223372036854775807) (h0 : -9223372036854775808 ≤ na ∧ na ≤ 9223372036854775807) (ha : sa.size ≤ maxLen)
    (_ : -9223372036854775808 ≤ kb ∧ kb ≤ 9223372036854775807) (h1 : -9223372036854775808 ≤ nb ∧ nb ≤ 9223372036854775807) (hb : sb.size ≤ maxLen) (hL : LaidD w) :
    Calls Tryd.prog 6 #[opV K ky ka na sa kb nb sb] w fun e w' => e = .returned (.bool true) ∧ Below w.heap.size w w' := by
  have HG := fun W => refOpGood_any K ka na kb nb ky sa sb W hk ha hb
  cases hg : opB K ky ka na sa kb nb sb with
  | false =>
    rw [hg] at HG
    exact lawLines_bad K ka na kb nb ky sa sb w hL HG
  | true =>
    rw [hg] at HG
    have hw := opB_words hg
    have wa := good_words hw.2.1
    have wb := good_words hw.2.2.1
    have hK := opB_kind hg
    have sk : ky.size ≤ 20 := by
      have h2 := (keyB_all hw.1).2.2
      have h3 : ky.data.toList.length = ky.size := Array.length_toList
      omega
    have sk2 : ky.data.toList.length ≤ 20 := (keyB_all hw.1).2.2
    have hlen := lineL_len sk2 wa wb h0 h1 hK
    have C1 := fun (W : World) (h : LaidD W) => line_any K ka na kb nb ky sa sb W sk wa wb h0 h1 hK h.1
    have C3 := fun (W : World) => refLine_any K ka na kb nb ky sa sb W sk wa wb h0 h1 hK
    have C2 := fun (W : World) (h : LaidD W) => deedRead_any ⟨(lineL K ky.data.toList (textV ka na sa.data.toList) (textV kb nb sb.data.toList)).toArray⟩ W (by rw [size_of]; exact hlen) h
    simp only [read_line hg h0 h1, rT, back] at C2
    exact lawLines_good K ka na kb nb ky sa sb _ w hL HG C1 C2 C3
end Go.Proofs.YtmilcgikncecnaaDoor
