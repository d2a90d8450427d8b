/-
  WHAT IS PROVED: the statement PackGoes' law answers true for every number, int and text, if package pack's calls answer as PackC says. Conditions: those typed in the theorem.
-/
import Derived.Test.YtahmjiomkaibgaaDoorLawPackStays
namespace Go.Proofs.YtahmjiomkaibgaaDoor
open Go.RowKit

theorem numB_pos (n : Nat) : (numB n).length ≠ 0 := by rw [numB_len]; omega
theorem numOf_put {n most : Nat} (r : List UInt8) (h : n < 18446744073709551616) (hm : n ≤ most) : numOf (some (numB n ++ r)) most = (n, some r) := by
  unfold numOf
  simp only [take_num r h hm, numB_pos, if_false, List.drop_left]
theorem intOf_put {n : Int} (r : List UInt8) (h0 : -9223372036854775808 ≤ n) (h1 : n ≤ 9223372036854775807) : intOfR (some (numB (zig n) ++ r)) = (n, some r) := by
  unfold intOfR
  simp only [take_int r h0 h1, numB_pos, if_false, List.drop_left]
theorem textOf_put {s : List UInt8} {most : Nat} (r : List UInt8) (h : s.length < 18446744073709551616) (hm : s.length ≤ most) : textOf (some (textB s ++ r)) most = (s, some r) := by
  have hne : (textB s).length ≠ 0 := by unfold textB; rw [List.length_append, numB_len]; omega
  unfold textOf
  simp only [take_text r h hm, hne, if_false, List.drop_left]
theorem flagOf_put (f : Bool) (r : List UInt8) : flagOf (some (flagB f ++ r)) = (f, some r) := by cases f <;> rfl
theorem flagB_len (f : Bool) : (flagB f).length = 1 := by cases f <;> rfl

set_option maxRecDepth 100000 in
set_option maxHeartbeats 4000000 in
theorem lawPackGoes_any {S : Addr} {Rdr : World → Nat → Rest → Prop} (hC : PackC S Rdr) (n : Nat) (m : Int) (s : ByteArray) (w : World) (hL : LaidP S w) (hn : n < 18446744073709551616) (h0 : -9223372036854775808 ≤ m) (h1 : m ≤ 9223372036854775807) (_hs : s.size ≤ maxLen) :
    Calls Tryd.prog 8 #[.int .u64 n, .int .i64 m, .string s] w fun e w' => e = .returned (.bool true) ∧ Below w.heap.size w w' := by
  have HN := Lib.hid hn
  have H0 := Lib.hid h0
  have H1 := Lib.hid h1
  clear hn h0 h1 _hs
  have hl : s.data.toList.length = s.size := Array.length_toList
  have HS := Lib.hid hl
  clear hl
  by_cases h5 : s.size ≤ 2000
  · have g5 : (s.size : Int) ≤ 2000 := by omega
    obtain ⟨f, hf⟩ : ∃ f : Bool, ((n : Int) % 2 == 0) = f := ⟨_, rfl⟩
    have z1 := numB_small HN.out
    have z2 := numB_small (zig_lt H0.out H1.out)
    have z3 := textB_small (s := s) (by omega)
    go_enter Tryd.func8, Tryd.ntmps8
    go_wp2_with fail
    refine (packAwake hC w hL).mono ?_
    rintro e w1 ⟨rfl, B1⟩
    go_wp2_with fail
    refine (hC.number none 0 0 [] n w1 (hL.keep B1) rfl (by omega) (RdB.nil _ _ _) (Nat.le_refl 0) HN.out).mono ?_
    rintro e w2 ⟨⟨A2, n2, c2, rfl, hn2, hr2, qhr2⟩, hb2⟩
    have B2 := bt B1 hb2
    have y2 : n2 ≤ 9 := by rw [← hn2, List.nil_append]; exact z1
    have HN2 := Lib.hid hn2
    clear hn2 hb2
    go_wp2_with fail
    refine (hC.int A2 n2 c2 _ m w2 (hL.keep B2) HN2.out (by omega) hr2 qhr2 H0.out H1.out).mono ?_
    rintro e w3 ⟨⟨A3, n3, c3, rfl, hn3, hr3, qhr3⟩, hb3⟩
    have B3 := bt B2 hb3
    have y3 : n3 ≤ 18 := by rw [← hn3, List.length_append, HN2.out]; omega
    have HN3 := Lib.hid hn3
    clear hn3 hb3 hr2
    go_wp2_with fail
    refine (hC.text A3 n3 c3 _ s w3 (hL.keep B3) HN3.out (by omega) hr3 qhr3 (by omega)).mono ?_
    rintro e w4 ⟨⟨A4, n4, c4, rfl, hn4, hr4, qhr4⟩, hb4⟩
    have B4 := bt B3 hb4
    have y4 : n4 ≤ 3000 := by
      rw [← hn4, List.length_append, HN3.out]
      have : (textB s.data.toList).length ≤ 2009 := by
        have := numB_small (n := s.size) (by omega)
        unfold textB
        rw [List.length_append, HS.out]
        omega
      omega
    have HN4 := Lib.hid hn4
    clear hn4 hb4 hr3
    go_wp2_with fail
    refine (hC.flag A4 n4 c4 _ f w4 (hL.keep B4) HN4.out (by omega) hr4 qhr4).mono ?_
    rintro e w5 ⟨⟨A5, n5, c5, rfl, hn5, hr5, qhr5⟩, hb5⟩
    have B5 := bt B4 hb5
    have y5 : n5 ≤ 3001 := by rw [← hn5, List.length_append, HN4.out, flagB_len]; omega
    have HN5 := Lib.hid hn5
    clear hn5 hb5 hr4
    go_wp2_with fail
    refine (hC.open_ A5 n5 c5 _ w5 (hL.keep B5) HN5.out (by omega) hr5).mono ?_
    rintro e w6 ⟨⟨g, rfl, hR6, hg⟩, hb6⟩
    have B6 := bt B5 hb6
    have hwg : w.heap.size ≤ g := Nat.le_trans B5.size hg
    clear hr5 hb6
    rw [show ([] ++ numB n ++ numB (zig m) ++ textB s.data.toList ++ flagB f : List UInt8) = numB n ++ (numB (zig m) ++ (textB s.data.toList ++ (flagB f ++ []))) by simp] at hR6
    go_wp2_with fail
    refine (hC.rNumber g _ n w6 (hL.keep B6) hR6 HN.out).mono ?_
    rintro e w7 ⟨rfl, hR7, hg7⟩
    have B7 := below_g B6 hg7 hwg
    rw [numOf_put _ HN.out (Nat.le_refl _)] at hR7 ⊢
    go_wp2_with fail
    refine (hC.rInt g _ w7 (hL.keep B7) hR7).mono ?_
    rintro e w8 ⟨rfl, hR8, hg8⟩
    have B8 := below_g B7 hg8 hwg
    rw [intOf_put _ H0.out H1.out] at hR8 ⊢
    go_wp2_with fail
    refine (hC.rText g _ s.size w8 (hL.keep B8) hR8 (by omega)).mono ?_
    rintro e w9 ⟨⟨s9, rfl, hs9⟩, hR9, hg9⟩
    have B9 := below_g B8 hg9 hwg
    rw [textOf_put _ (by rw [HS.out]; omega) (by rw [HS.out]; exact Nat.le_refl _)] at hs9 hR9
    have e9 : (s9.toList == s.toList) = true := by rw [ByteArray.toList_eq, ByteArray.toList_eq, hs9]; simp
    clear hs9
    go_wp2_with fail
    refine (hC.rFlag g _ w9 (hL.keep B9) hR9).mono ?_
    rintro e w10 ⟨rfl, hR10, hg10⟩
    have B10 := below_g B9 hg10 hwg
    rw [flagOf_put] at hR10 ⊢
    go_wp2_with fail
    refine (hC.rEnd g _ w10 (hL.keep B10) hR10).mono ?_
    rintro e w11 ⟨rfl, _, hg11⟩
    have B11 := below_g B10 hg11 hwg
    rw [show endOf (some []) = 0 from rfl]
    go_wp2_with fail
    go_ret
    exact ⟨rfl, B11⟩
  · have g5 : (2000 : Int) < (s.size : Int) := by omega
    go_enter Tryd.func8, Tryd.ntmps8
    go_wp2_with fail
    refine (packAwake hC w hL).mono ?_
    rintro e w1 ⟨rfl, B1⟩
    go_wp2_with fail
    refine (packAwake hC _ (hL.keep B1)).mono ?_
    rintro e w2 ⟨rfl, hb2⟩
    go_wp2_with fail
    go_ret
    exact ⟨rfl, bt B1 hb2⟩
end Go.Proofs.YtahmjiomkaibgaaDoor
