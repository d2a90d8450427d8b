/-
  WHAT IS PROVED: the statement PackStays' law answers true for every slice of bytes, if package pack's calls answer as PackC says. Conditions: those typed in the theorem.
-/
import Derived.Test.YtahmjiomkaibgaaDoorPackAwake
namespace Go.Proofs.YtahmjiomkaibgaaDoor
open Go.RowKit

theorem takeNum_nine (l : List UInt8) (most : Nat) : takeNum (9 :: l) most = (0, 0) := by
  rw [takeNum_cons, if_pos (Or.inl (by decide))]
theorem numOf_nine (l : List UInt8) (most : Nat) : numOf (some (9 :: l)) most = (0, none) := by
  unfold numOf
  simp only [takeNum_nine, if_true]

set_option maxRecDepth 100000 in
set_option maxHeartbeats 4000000 in
theorem lawPackStays_any {S : Addr} {Rdr : World → Nat → Rest → Prop} (hC : PackC S Rdr) (A : Option Addr) (n c : Nat) (l : List UInt8) (w : World) (hL : LaidP S w) (hn : l.length = n) (hr : RdB w.heap.size w A l) (hm : n ≤ maxLen) :
    Calls Tryd.prog 6 #[.slice A n c] w fun e w' => e = .returned (.bool true) ∧ Below w.heap.size w w' := by
  obtain ⟨i0, hi0, hz0, hz1, hz2⟩ := info_parts byt_info
  have HN := Lib.hid hn
  have HM := Lib.hid hm
  clear hn hm
  by_cases h5 : n ≤ 5000
  · have g5 : (n : Int) ≤ 5000 := by omega
    go_enter Tryd.func6, Tryd.ntmps6
    go_wp2_with fail
    refine (packAwake hC w hL).mono ?_
    rintro e w1 ⟨rfl, B1⟩
    have ho := litB w1 (base := w1.heap.size) 9 9 rfl (Nat.le_refl _)
    have hr1 := (hr.keep B1 (Nat.le_refl _)).keep (b0 w1 (.cells #[.int .u8 9] 5)) B1.size
    go_wp2_with (at_builtin; refine wpList_apB (base := w1.heap.size) (n := 1) (m := n) (l := [9]) (l2 := l) (by rfl) _ _ (by rfl) Tryd.underlying22 Tryd.underlying22 hi0 hz0 hz1 hz2 (by rfl) (by rfl) ho hr1 HN.out (1 + n) rfl (by omega) (by simp) ?_; intro A2 c2 w2 hO2 hb2 hg2)
    have B2 := (B1.alloc B1.size (.cells #[.int .u8 9] 5)).trans (hb2.mono B1.size)
    refine (hC.open_ A2 (1 + n) c2 _ w2 (hL.keep B2) hO2.len (by omega) hO2.rd).mono ?_
    rintro e w3 ⟨⟨g, rfl, hR3, hg⟩, hb3⟩
    have B3 := bt B2 hb3
    have hwg : w.heap.size ≤ g := Nat.le_trans B2.size hg
    clear ho hr1 hO2 hb2 hg2 hb3
    go_wp2_with fail
    refine (hC.rNumber g _ 9223372036854775808 w3 (hL.keep B3) hR3 (by omega)).mono ?_
    rintro e w4 ⟨rfl, hR4, hg4⟩
    have B4 := below_g B3 hg4 hwg
    rw [show ([9] ++ l : List UInt8) = 9 :: l from rfl, numOf_nine] at hR4 ⊢
    go_wp2_with fail
    refine (hC.rNumber g _ 9223372036854775808 w4 (hL.keep B4) hR4 (by omega)).mono ?_
    rintro e w5 ⟨rfl, hR5, hg5⟩
    have B5 := below_g B4 hg5 hwg
    rw [show numOf none 9223372036854775808 = (0, none) from rfl] at hR5 ⊢
    go_wp2_with fail
    refine (hC.rInt g _ w5 (hL.keep B5) hR5).mono ?_
    rintro e w6 ⟨rfl, hR6, hg6⟩
    have B6 := below_g B5 hg6 hwg
    rw [show intOfR none = (0, none) from rfl] at hR6 ⊢
    go_wp2_with fail
    refine (hC.rText g _ 100 w6 (hL.keep B6) hR6 (by omega)).mono ?_
    rintro e w7 ⟨⟨s7, rfl, hs7⟩, hR7, hg7⟩
    have B7 := below_g B6 hg7 hwg
    rw [show textOf none 100 = ([], none) from rfl] at hs7 hR7
    have e7 : s7.toList.isEmpty = true := by rw [ByteArray.toList_eq, hs7]; rfl
    clear hs7
    go_wp2_with fail
    refine (hC.rFlag g _ w7 (hL.keep B7) hR7).mono ?_
    rintro e w8 ⟨rfl, hR8, hg8⟩
    have B8 := below_g B7 hg8 hwg
    rw [show flagOf none = (false, none) from rfl] at hR8 ⊢
    go_wp2_with fail
    refine (hC.rValue0 g w8 (hL.keep B8) hR8).mono ?_
    rintro e w9 ⟨rfl, hR9, hg9⟩
    have B9 := below_g B8 hg9 hwg
    go_wp2_with fail
    refine (hC.rWrite0 g w9 (hL.keep B9) hR9).mono ?_
    rintro e w10 ⟨rfl, hR10, hg10⟩
    have B10 := below_g B9 hg10 hwg
    go_wp2_with fail
    refine (hC.rWrites0 g 9 w10 (hL.keep B10) hR10 (by omega)).mono ?_
    rintro e w11 ⟨rfl, hR11, hg11⟩
    have B11 := below_g B10 hg11 hwg
    go_wp2_with fail
    refine (hC.rEnd g _ w11 (hL.keep B11) hR11).mono ?_
    rintro e w12 ⟨rfl, _, hg12⟩
    have B12 := below_g B11 hg12 hwg
    rw [show endOf none = 2 from rfl]
    go_wp2_with fail
    go_ret
    exact ⟨rfl, B12⟩
  · have g5 : (5000 : Int) < (n : Int) := by omega
    go_enter Tryd.func6, Tryd.ntmps6
    go_wp2_with fail
    refine (packAwake hC w hL).mono ?_
    rintro e w1 ⟨rfl, B1⟩
    go_wp2_with fail
    refine (packAwake hC _ (hL.keep B1)).mono ?_
    rintro e w2 ⟨rfl, hb2⟩
    go_wp2_with fail
    go_ret
    exact ⟨rfl, bt B1 hb2⟩
end Go.Proofs.YtahmjiomkaibgaaDoor
