/-
  WHAT IS PROVED: the statement PackPuts' law answers true for every slice of bytes, number and text, if package pack's calls answer as PackC says. Conditions: those typed in the theorem.
-/
import Derived.Test.YtahmjiomkaibgaaDoorLawPackGoes
import Derived.Laws.MakeOwn
import Derived.Deep.Cut
namespace Go.Proofs.YtahmjiomkaibgaaDoor
open Go.RowKit

theorem below_alloc_tr {w w' : World} {o : Obj} (h : Below w.heap.size (w.alloc o) w') : Below w.heap.size w w' := (b0 w o).trans h
theorem cap_int {base : Nat} {W : World} {A : Option Addr} {n c : Nat} {l : List UInt8} (h : OwnB base W A (n + 3) c l) : (n : Int) ≤ (c : Int) := by have := h.cap.1; omega
theorem up3 {W W' : World} {A : Option Addr} {l : List UInt8} (h : RdB W.heap.size W A l) (hb : Below W.heap.size W W') : RdB W'.heap.size W' A l := (h.keep hb (Nat.le_refl _)).more hb.size
theorem up4 {W W' : World} {A : Option Addr} {l : List UInt8} (h : RdB W.heap.size W A l) (hb : Below W.heap.size W W') : RdB W'.heap.size W' A l := up3 h hb
theorem wrap64_in (x : Int) : -9223372036854775808 ≤ wrap64 x ∧ wrap64 x ≤ 9223372036854775807 := by
  unfold wrap64
  omega
theorem add_l (l m : List UInt8) (hl : l.length ≤ 2000) (hm : m.length ≤ 90000) : Op.stringOp .add ⟨l.toArray⟩ ⟨m.toArray⟩ = pure (.string (⟨l.toArray⟩ ++ ⟨m.toArray⟩)) :=
  str_add' (by show l.toArray.size ≤ _; rw [List.size_toArray]; omega) (by show m.toArray.size ≤ _; rw [List.size_toArray]; omega)
theorem add_eq (l m : List UInt8) : ((⟨(l ++ m).toArray⟩ : ByteArray).toList == ((⟨l.toArray⟩ : ByteArray) ++ ⟨m.toArray⟩).toList) = true := by
  rw [ByteArray.toList_eq, ByteArray.toList_eq]
  simp
/-- A counter's value. -/
def UpTo5 (t : Value) : Prop := t = .int .i64 0 ∨ t = .int .i64 1 ∨ t = .int .i64 2 ∨ t = .int .i64 3 ∨ t = .int .i64 4 ∨ t = .int .i64 5
theorem add_all (l m : List UInt8) (hl : l.length ≤ 2000) (hm : m.length ≤ 90000) : ∃ sa sl sb : ByteArray, (⟨(l ++ m).toArray⟩ : ByteArray) = sa ∧ (⟨l.toArray⟩ : ByteArray) = sl ∧ (⟨m.toArray⟩ : ByteArray) = sb ∧ Op.stringOp .add sl sb = pure (.string (sl ++ sb)) ∧ (sa.toList == (sl ++ sb).toList) = true :=
  ⟨_, _, _, rfl, rfl, rfl, add_l l m hl hm, add_eq l m⟩
theorem add_sev (l : List UInt8) (hl : l.length ≤ 2000) : ∃ sa sl : ByteArray, Op.stringOp .add sl ⟨#[7, 7, 7]⟩ = pure (.string (sl ++ ⟨#[7, 7, 7]⟩)) ∧ (sa.toList == (sl ++ ⟨#[7, 7, 7]⟩).toList) = true ∧ (⟨(l ++ [7, 7, 7]).toArray⟩ : ByteArray) = sa ∧ (⟨l.toArray⟩ : ByteArray) = sl :=
  ⟨_, _, add_l l [7, 7, 7] hl (by decide), add_eq l [7, 7, 7], rfl, rfl⟩
theorem make_bytes (w : World) (n : Nat) (hn : n ≤ 1000000) {i : TypeInfo} (hi : Tryd.prog.info? 5 = some i) (hz : i.zero = some (.int .u8 0)) (hs : i.size = 1) (hy : i.bytes = 1) :
    ∃ C : Array Value, C.size = n + 40 ∧ (Instr.makeSlice 22 (.int .i64 0) (.int .i64 ((n : Int) + 40))).run Tryd.prog w = .ok (.slice (some ⟨w.heap.size, 0, none⟩) 0 (n + 40)) (w.alloc (.cells C 5)) := by
  have h := run_make (P := Tryd.prog) w 22 5 i (.int .u8 0) Tryd.underlying22 hi hz .i64 .i64 0 ((n : Int) + 40) (by omega) (by omega) (by rw [hy]; omega) (by omega)
  have e : ((n : Int) + 40).toNat = n + 40 := by omega
  rw [e, hs, Nat.mul_one] at h
  exact ⟨_, size_madeCells _ _, h⟩
theorem made_own (w : World) (C : Array Value) (n : Nat) (h : C.size = n) (hn : n ≤ 2000000) : OwnB w.heap.size (w.alloc (.cells C 5)) (some ⟨w.heap.size, 0, none⟩) 0 n [] :=
  World.ownsRow_made w C n (Nat.le_refl _) (by unfold maxLen; omega) (by rw [h, Nat.mul_one])

set_option maxRecDepth 100000 in
set_option maxHeartbeats 4000000 in
theorem lawPackPuts_any {S : Addr} {Rdr : World → Nat → Rest → Prop} (hC : PackC S Rdr) (A : Option Addr) (n c : Nat) (l : List UInt8) (x : Nat) (s : ByteArray) (w : World) (hL : LaidP S w) (hn : l.length = n) (hr : RdB w.heap.size w A l) (hm : n ≤ maxLen) (hx : x < 18446744073709551616) (_hs : s.size ≤ maxLen) :
    Calls Tryd.prog 3 #[.slice A n c, .int .u64 x, .string s] w fun e w' => e = .returned (.bool true) ∧ Below w.heap.size w w' := by
  obtain ⟨i0, hi0, hz0, hz1, hz2⟩ := info_parts byt_info
  have HN := Lib.hid hn
  have HX := Lib.hid hx
  have HM := Lib.hid hm
  clear hn hx hm _hs
  by_cases h2 : n ≤ 2000
  · have g2 : (n : Int) ≤ 2000 := by omega
    by_cases h5 : s.size ≤ 5000
    · have g5 : (s.size : Int) ≤ 5000 := by omega
      go_enter Tryd.func3, Tryd.ntmps3
      go_wp2_with fail
      refine (packAwake hC w hL).mono ?_
      rintro e w1 ⟨rfl, B1⟩
      obtain ⟨C, hC1, hmk⟩ := make_bytes w1 n (by omega) hi0 hz0 hz1 hz2
      have ho0 := made_own w1 C (n + 40) hC1 (by omega)
      have hr1 := (hr.keep B1 (Nat.le_refl _)).keep (b0 w1 (.cells C 5)) B1.size
      have q1 : (n : Int) ≤ (n : Int) + 3 := by omega
      clear hC1
      go_wp2_with (first
        | (at_builtin; refine wpList_apB (base := w1.heap.size) (n := 0) (m := n) (l := []) (l2 := l) (by rfl) _ _ (by rfl) Tryd.underlying22 Tryd.underlying22 hi0 hz0 hz1 hz2 (by rfl) (by rfl) ho0 hr1 HN.out n (by omega) (by omega) (by simp) ?_; intro A2 c2 w2 hO2 hb2 hg2; have hb12 := below_alloc_tr hb2)
        | (at_builtin; refine wpList_apB (base := w1.heap.size) (n := n) (m := 3) (l := [] ++ l) (l2 := [7, 7, 7]) (by rfl) _ _ (by rfl) Tryd.underlying22 Tryd.underlying22 hi0 hz0 hz1 hz2 (by rfl) (by rfl) (hO2.keep (b0 _ _)) (OwnB.lit w2 (base := 0) #[.int .u8 7, .int .u8 7, .int .u8 7] [7, 7, 7] rfl rfl (Nat.zero_le _) (by decide)).rd rfl (n + 3) rfl (by omega) (Nat.le_trans hb12.size (b0 w2 _).size) ?_; intro A3 c3 w3 hO3 hb3 hg3; have hb13 := (hb12.alloc hb12.size (.cells #[.int .u8 7, .int .u8 7, .int .u8 7] 5)).trans hb3; have q2 := cap_int hO3))
      have hrb : RdB w3.heap.size w3 A3 l := by
        have h := hO3.rd.take n
        rwa [List.nil_append, List.take_left' HN.out] at h
      have hrm : RdB w3.heap.size w3 A3 (l ++ [7, 7, 7]) := by
        have h := hO3.rd
        rwa [List.nil_append] at h
      have B3 := B1.trans (hb13.mono B1.size)
      have HR3 := Lib.hid hrm
      have HC3 := Lib.hid (show n ≤ c3 by have := hO3.cap; omega)
      obtain ⟨f1, hf1⟩ : ∃ f : Bool, ((x : Int) % 2 == 1) = f := ⟨_, rfl⟩
      obtain ⟨f2, hf2⟩ : ∃ f : Bool, ((x : Int) % 2 == 0) = f := ⟨_, rfl⟩
      have hmb := wrap64_in (x : Int)
      generalize wrap64 (x : Int) = m at hmb ⊢
      have HM2 := Lib.hid hmb
      clear hmk ho0 hr1 hO2 hb2 hg2 hb12 hO3 hb3 hg3 hb13 q1 q2 hmb hrm
      refine (hC.number A3 n c3 l x w3 (hL.keep B3) HN.out (by omega) hrb HC3.out HX.out).mono ?_
      rintro e w4 ⟨⟨A4, n4, c4, rfl, hn4, hr4, qhr4⟩, hb4⟩
      have HN4 := Lib.hid hn4
      have B4 := bt B3 hb4
      have hb3_4 := hb4
      clear hn4
      go_wp2_with fail
      refine (refNumber_any x w4 HX.out).mono ?_
      rintro e w5 ⟨⟨A5, n5, c5, rfl, hO5⟩, hb5⟩
      have hn5 := hO5.len
      have hr5 := hO5.rd
      have HN5 := Lib.hid hn5
      have B5 := bt B4 hb5
      have hb3_5 := bt hb3_4 hb5
      replace hr4 := up4 hr4 hb5
      clear hn5
      go_wp2_with fail
      refine (hC.int A3 n c3 l m w5 (hL.keep B5) HN.out (by omega) (up3 hrb (hb3_5)) HC3.out HM2.out.1 HM2.out.2).mono ?_
      rintro e w6 ⟨⟨A6, n6, c6, rfl, hn6, hr6, qhr6⟩, hb6⟩
      have HN6 := Lib.hid hn6
      have B6 := bt B5 hb6
      have hb3_6 := bt hb3_5 hb6
      replace hr4 := up4 hr4 hb6
      replace hr5 := up4 hr5 hb6
      clear hn6
      go_wp2_with fail
      refine (refPInt_any m w6 HM2.out.1 HM2.out.2).mono ?_
      rintro e w7 ⟨⟨A7, n7, c7, rfl, hO7⟩, hb7⟩
      have hn7 := hO7.len
      have hr7 := hO7.rd
      have HN7 := Lib.hid hn7
      have B7 := bt B6 hb7
      have hb3_7 := bt hb3_6 hb7
      replace hr4 := up4 hr4 hb7
      replace hr5 := up4 hr5 hb7
      replace hr6 := up4 hr6 hb7
      clear hn7
      go_wp2_with fail
      refine (hC.text A3 n c3 l s w7 (hL.keep B7) HN.out (by omega) (up3 hrb (hb3_7)) HC3.out (by omega)).mono ?_
      rintro e w8 ⟨⟨A8, n8, c8, rfl, hn8, hr8, qhr8⟩, hb8⟩
      have HN8 := Lib.hid hn8
      have B8 := bt B7 hb8
      have hb3_8 := bt hb3_7 hb8
      replace hr4 := up4 hr4 hb8
      replace hr5 := up4 hr5 hb8
      replace hr6 := up4 hr6 hb8
      replace hr7 := up4 hr7 hb8
      clear hn8
      go_wp2_with fail
      refine (refPText_any s w8 (by omega)).mono ?_
      rintro e w9 ⟨⟨A9, n9, c9, rfl, hO9⟩, hb9⟩
      have hn9 := hO9.len
      have hr9 := hO9.rd
      have HN9 := Lib.hid hn9
      have B9 := bt B8 hb9
      have hb3_9 := bt hb3_8 hb9
      replace hr4 := up4 hr4 hb9
      replace hr5 := up4 hr5 hb9
      replace hr6 := up4 hr6 hb9
      replace hr7 := up4 hr7 hb9
      replace hr8 := up4 hr8 hb9
      clear hn9
      go_wp2_with fail
      refine (hC.flag A3 n c3 l f1 w9 (hL.keep B9) HN.out (by omega) (up3 hrb (hb3_9)) HC3.out).mono ?_
      rintro e w10 ⟨⟨A10, n10, c10, rfl, hn10, hr10, qhr10⟩, hb10⟩
      have HN10 := Lib.hid hn10
      have B10 := bt B9 hb10
      have hb3_10 := bt hb3_9 hb10
      replace hr4 := up4 hr4 hb10
      replace hr5 := up4 hr5 hb10
      replace hr6 := up4 hr6 hb10
      replace hr7 := up4 hr7 hb10
      replace hr8 := up4 hr8 hb10
      replace hr9 := up4 hr9 hb10
      clear hn10
      go_wp2_with fail
      refine (refFlag_any f1 w10).mono ?_
      rintro e w11 ⟨⟨A11, n11, c11, rfl, hO11⟩, hb11⟩
      have hn11 := hO11.len
      have hr11 := hO11.rd
      have HN11 := Lib.hid hn11
      have B11 := bt B10 hb11
      have hb3_11 := bt hb3_10 hb11
      replace hr4 := up4 hr4 hb11
      replace hr5 := up4 hr5 hb11
      replace hr6 := up4 hr6 hb11
      replace hr7 := up4 hr7 hb11
      replace hr8 := up4 hr8 hb11
      replace hr9 := up4 hr9 hb11
      replace hr10 := up4 hr10 hb11
      clear hn11
      go_wp2_with fail
      refine (hC.flag A3 n c3 l f2 w11 (hL.keep B11) HN.out (by omega) (up3 hrb (hb3_11)) HC3.out).mono ?_
      rintro e w12 ⟨⟨A12, n12, c12, rfl, hn12, hr12, qhr12⟩, hb12⟩
      have HN12 := Lib.hid hn12
      have B12 := bt B11 hb12
      have hb3_12 := bt hb3_11 hb12
      replace hr4 := up4 hr4 hb12
      replace hr5 := up4 hr5 hb12
      replace hr6 := up4 hr6 hb12
      replace hr7 := up4 hr7 hb12
      replace hr8 := up4 hr8 hb12
      replace hr9 := up4 hr9 hb12
      replace hr10 := up4 hr10 hb12
      replace hr11 := up4 hr11 hb12
      clear hn12
      go_wp2_with fail
      refine (refFlag_any f2 w12).mono ?_
      rintro e w13 ⟨⟨A13, n13, c13, rfl, hO13⟩, hb13⟩
      have hn13 := hO13.len
      have hr13 := hO13.rd
      have HN13 := Lib.hid hn13
      have B13 := bt B12 hb13
      have hb3_13 := bt hb3_12 hb13
      replace hr4 := up4 hr4 hb13
      replace hr5 := up4 hr5 hb13
      replace hr6 := up4 hr6 hb13
      replace hr7 := up4 hr7 hb13
      replace hr8 := up4 hr8 hb13
      replace hr9 := up4 hr9 hb13
      replace hr10 := up4 hr10 hb13
      replace hr11 := up4 hr11 hb13
      replace hr12 := up4 hr12 hb13
      clear hn13
      go_wp2_with fail
      have hl1 : l.length ≤ 2000 := by rw [HN.out]; exact h2
      have hz5 : (numB x).length ≤ 90000 := Nat.le_trans (numB_small HX.out) (by omega)
      have hz7 : (numB (zig m)).length ≤ 90000 := Nat.le_trans (numB_small (zig_lt HM2.out.1 HM2.out.2)) (by omega)
      have hz9 : (textB s.data.toList).length ≤ 90000 := by
        have hl : s.data.toList.length = s.size := Array.length_toList
        have := numB_small (n := s.size) (by omega)
        unfold textB
        rw [List.length_append, hl]
        omega
      have hz11 : (flagB f1).length ≤ 90000 := by rw [flagB_len]; omega
      have hz13 : (flagB f2).length ≤ 90000 := by rw [flagB_len]; omega
      have HN3 : Hid ((l ++ [7, 7, 7]).length = n + 3) := by
        show _ = _
        rw [List.length_append, HN.out]
        rfl
      have ix0 : ∀ W, (Instr.index 34 (.agg #[.slice A4 n4 c4, .slice A5 n5 c5, .slice A6 n6 c6, .slice A7 n7 c7, .slice A8 n8 c8, .slice A9 n9 c9, .slice A10 n10 c10, .slice A11 n11 c11, .slice A12 n12 c12, .slice A13 n13 c13]) (.int .i64 0)).run Tryd.prog W = .ok (.agg #[.slice A4 n4 c4, .slice A5 n5 c5]) W := fun _ => by kernel_rfl
      have ix1 : ∀ W, (Instr.index 34 (.agg #[.slice A4 n4 c4, .slice A5 n5 c5, .slice A6 n6 c6, .slice A7 n7 c7, .slice A8 n8 c8, .slice A9 n9 c9, .slice A10 n10 c10, .slice A11 n11 c11, .slice A12 n12 c12, .slice A13 n13 c13]) (.int .i64 1)).run Tryd.prog W = .ok (.agg #[.slice A6 n6 c6, .slice A7 n7 c7]) W := fun _ => by kernel_rfl
      have ix2 : ∀ W, (Instr.index 34 (.agg #[.slice A4 n4 c4, .slice A5 n5 c5, .slice A6 n6 c6, .slice A7 n7 c7, .slice A8 n8 c8, .slice A9 n9 c9, .slice A10 n10 c10, .slice A11 n11 c11, .slice A12 n12 c12, .slice A13 n13 c13]) (.int .i64 2)).run Tryd.prog W = .ok (.agg #[.slice A8 n8 c8, .slice A9 n9 c9]) W := fun _ => by kernel_rfl
      have ix3 : ∀ W, (Instr.index 34 (.agg #[.slice A4 n4 c4, .slice A5 n5 c5, .slice A6 n6 c6, .slice A7 n7 c7, .slice A8 n8 c8, .slice A9 n9 c9, .slice A10 n10 c10, .slice A11 n11 c11, .slice A12 n12 c12, .slice A13 n13 c13]) (.int .i64 3)).run Tryd.prog W = .ok (.agg #[.slice A10 n10 c10, .slice A11 n11 c11]) W := fun _ => by kernel_rfl
      have ix4 : ∀ W, (Instr.index 34 (.agg #[.slice A4 n4 c4, .slice A5 n5 c5, .slice A6 n6 c6, .slice A7 n7 c7, .slice A8 n8 c8, .slice A9 n9 c9, .slice A10 n10 c10, .slice A11 n11 c11, .slice A12 n12 c12, .slice A13 n13 c13]) (.int .i64 4)).run Tryd.prog W = .ok (.agg #[.slice A12 n12 c12, .slice A13 n13 c13]) W := fun _ => by kernel_rfl
      go_loopw [78] (fun t wr => UpTo5 t ∧ Below w13.heap.size w13 wr) (fun t _ => (5 - intOf t).toNat)
      case atStart => exact ⟨Or.inl rfl, Below.refl _ _⟩
      case round =>
        obtain ⟨ht, hB⟩ := hrel
        rcases ht with rfl | rfl | rfl | rfl | rfl | rfl
        · go_upto_region 9 with (fail)
          have hB2 := hB.alloc hB.size (.cells #[.slice A4 n4 c4, .slice A5 n5 c5] 27)
          have hc0 := (blk_new wr #[.slice A4 n4 c4, .slice A5 n5 c5] 27).cell 0
          have hc1 := (blk_new wr #[.slice A4 n4 c4, .slice A5 n5 c5] 27).cell 1
          generalize wr.alloc (.cells #[.slice A4 n4 c4, .slice A5 n5 c5] 27) = W at hB2 hc0 hc1 ⊢
          generalize wr.heap.size = bq at hc0 hc1 ⊢
          have cv1 := conv_rd W A4 n4 c4 _ HN4.out (hr4.keep hB2 (Nat.le_refl _))
          have cv2 := conv_rd W A5 n5 c5 _ HN5.out (hr5.keep hB2 (Nat.le_refl _))
          have cv3 := conv_rd W A n c l HN.out ((hr.keep B13 (Nat.le_refl _)).keep hB2 B13.size)
          obtain ⟨sa, sl, sb, k1, k2, k3, had, heq⟩ := add_all l (numB x) hl1 hz5
          rw [k1] at cv1
          rw [k2] at cv3
          rw [k3] at cv2
          clear k1 k2 k3
          go_wp2_with fail
          go_roundw
          case rel => exact ⟨Or.inr (Or.inl rfl), hB2⟩
          case measure => simp [intOf]
        · go_upto_region 9 with (fail)
          have hB2 := hB.alloc hB.size (.cells #[.slice A6 n6 c6, .slice A7 n7 c7] 27)
          have hc0 := (blk_new wr #[.slice A6 n6 c6, .slice A7 n7 c7] 27).cell 0
          have hc1 := (blk_new wr #[.slice A6 n6 c6, .slice A7 n7 c7] 27).cell 1
          generalize wr.alloc (.cells #[.slice A6 n6 c6, .slice A7 n7 c7] 27) = W at hB2 hc0 hc1 ⊢
          generalize wr.heap.size = bq at hc0 hc1 ⊢
          have cv1 := conv_rd W A6 n6 c6 _ HN6.out (hr6.keep hB2 (Nat.le_refl _))
          have cv2 := conv_rd W A7 n7 c7 _ HN7.out (hr7.keep hB2 (Nat.le_refl _))
          have cv3 := conv_rd W A n c l HN.out ((hr.keep B13 (Nat.le_refl _)).keep hB2 B13.size)
          obtain ⟨sa, sl, sb, k1, k2, k3, had, heq⟩ := add_all l (numB (zig m)) hl1 hz7
          rw [k1] at cv1
          rw [k2] at cv3
          rw [k3] at cv2
          clear k1 k2 k3
          go_wp2_with fail
          go_roundw
          case rel => exact ⟨Or.inr (Or.inr (Or.inl rfl)), hB2⟩
          case measure => simp [intOf]
        · go_upto_region 9 with (fail)
          have hB2 := hB.alloc hB.size (.cells #[.slice A8 n8 c8, .slice A9 n9 c9] 27)
          have hc0 := (blk_new wr #[.slice A8 n8 c8, .slice A9 n9 c9] 27).cell 0
          have hc1 := (blk_new wr #[.slice A8 n8 c8, .slice A9 n9 c9] 27).cell 1
          generalize wr.alloc (.cells #[.slice A8 n8 c8, .slice A9 n9 c9] 27) = W at hB2 hc0 hc1 ⊢
          generalize wr.heap.size = bq at hc0 hc1 ⊢
          have cv1 := conv_rd W A8 n8 c8 _ HN8.out (hr8.keep hB2 (Nat.le_refl _))
          have cv2 := conv_rd W A9 n9 c9 _ HN9.out (hr9.keep hB2 (Nat.le_refl _))
          have cv3 := conv_rd W A n c l HN.out ((hr.keep B13 (Nat.le_refl _)).keep hB2 B13.size)
          obtain ⟨sa, sl, sb, k1, k2, k3, had, heq⟩ := add_all l (textB s.data.toList) hl1 hz9
          rw [k1] at cv1
          rw [k2] at cv3
          rw [k3] at cv2
          clear k1 k2 k3
          go_wp2_with fail
          go_roundw
          case rel => exact ⟨Or.inr (Or.inr (Or.inr (Or.inl rfl))), hB2⟩
          case measure => simp [intOf]
        · go_upto_region 9 with (fail)
          have hB2 := hB.alloc hB.size (.cells #[.slice A10 n10 c10, .slice A11 n11 c11] 27)
          have hc0 := (blk_new wr #[.slice A10 n10 c10, .slice A11 n11 c11] 27).cell 0
          have hc1 := (blk_new wr #[.slice A10 n10 c10, .slice A11 n11 c11] 27).cell 1
          generalize wr.alloc (.cells #[.slice A10 n10 c10, .slice A11 n11 c11] 27) = W at hB2 hc0 hc1 ⊢
          generalize wr.heap.size = bq at hc0 hc1 ⊢
          have cv1 := conv_rd W A10 n10 c10 _ HN10.out (hr10.keep hB2 (Nat.le_refl _))
          have cv2 := conv_rd W A11 n11 c11 _ HN11.out (hr11.keep hB2 (Nat.le_refl _))
          have cv3 := conv_rd W A n c l HN.out ((hr.keep B13 (Nat.le_refl _)).keep hB2 B13.size)
          obtain ⟨sa, sl, sb, k1, k2, k3, had, heq⟩ := add_all l (flagB f1) hl1 hz11
          rw [k1] at cv1
          rw [k2] at cv3
          rw [k3] at cv2
          clear k1 k2 k3
          go_wp2_with fail
          go_roundw
          case rel => exact ⟨Or.inr (Or.inr (Or.inr (Or.inr (Or.inl rfl)))), hB2⟩
          case measure => simp [intOf]
        · go_upto_region 9 with (fail)
          have hB2 := hB.alloc hB.size (.cells #[.slice A12 n12 c12, .slice A13 n13 c13] 27)
          have hc0 := (blk_new wr #[.slice A12 n12 c12, .slice A13 n13 c13] 27).cell 0
          have hc1 := (blk_new wr #[.slice A12 n12 c12, .slice A13 n13 c13] 27).cell 1
          generalize wr.alloc (.cells #[.slice A12 n12 c12, .slice A13 n13 c13] 27) = W at hB2 hc0 hc1 ⊢
          generalize wr.heap.size = bq at hc0 hc1 ⊢
          have cv1 := conv_rd W A12 n12 c12 _ HN12.out (hr12.keep hB2 (Nat.le_refl _))
          have cv2 := conv_rd W A13 n13 c13 _ HN13.out (hr13.keep hB2 (Nat.le_refl _))
          have cv3 := conv_rd W A n c l HN.out ((hr.keep B13 (Nat.le_refl _)).keep hB2 B13.size)
          obtain ⟨sa, sl, sb, k1, k2, k3, had, heq⟩ := add_all l (flagB f2) hl1 hz13
          rw [k1] at cv1
          rw [k2] at cv3
          rw [k3] at cv2
          clear k1 k2 k3
          go_wp2_with fail
          go_roundw
          case rel => exact ⟨Or.inr (Or.inr (Or.inr (Or.inr (Or.inr (rfl))))), hB2⟩
          case measure => simp [intOf]
        · have B14 := B13.trans (hB.mono B13.size)
          have cv1 := conv_rd wr A3 (n + 3) c3 _ HN3.out ((HR3.out.keep hb3_13 (Nat.le_refl _)).keep hB hb3_13.size)
          have cv3 := conv_rd wr A n c l HN.out ((hr.keep B13 (Nat.le_refl _)).keep hB B13.size)
          obtain ⟨sa, sl, had, heq, k1, k2⟩ := add_sev l hl1
          rw [k1] at cv1
          rw [k2] at cv3
          clear k1 k2
          go_wp2_with fail
          go_ret
          exact ⟨rfl, B14⟩
    · have g5 : (5000 : Int) < (s.size : Int) := by omega
      go_enter Tryd.func3, Tryd.ntmps3
      go_wp2_with fail
      refine (packAwake hC w hL).mono ?_
      rintro e w1 ⟨rfl, B1⟩
      go_wp2_with fail
      refine (packAwake hC _ (hL.keep B1)).mono ?_
      rintro e w2 ⟨rfl, hb2⟩
      go_wp2_with fail
      go_ret
      exact ⟨rfl, bt B1 hb2⟩
  · have g2 : (2000 : Int) < (n : Int) := by omega
    go_enter Tryd.func3, Tryd.ntmps3
    go_wp2_with fail
    refine (packAwake hC w hL).mono ?_
    rintro e w1 ⟨rfl, B1⟩
    go_wp2_with fail
    refine (packAwake hC _ (hL.keep B1)).mono ?_
    rintro e w2 ⟨rfl, hb2⟩
    go_wp2_with fail
    go_ret
    exact ⟨rfl, bt B1 hb2⟩
end Go.Proofs.YtahmjiomkaibgaaDoor
