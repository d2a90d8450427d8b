/-
  WHAT IS PROVED: the chapter's examples hold (awake answers true), if package pack's calls answer as PackC says.
-/
import Derived.Test.YtahmjiomkaibgaaDoorMRef
namespace Go.Proofs.YtahmjiomkaibgaaDoor
open Go.RowKit

theorem beB_one {n : Nat} (h : 0 < n) (h2 : n < 256) : beB n = [UInt8.ofNat n] := by
  rw [beB_pos (by omega), show n / 256 = 0 by omega, beB_zero, show n % 256 = n by omega]
  rfl
theorem numB_300 : numB 300 = [2, 1, 44] := by
  unfold numB
  rw [beB_pos (by omega), show 300 / 256 = 1 by omega, beB_one (by omega) (by omega)]
  decide
theorem numB_zig : numB (zig (-1)) = [1, 1] := by
  unfold numB
  rw [show zig (-1) = 1 by decide, beB_one (by omega) (by omega)]
  decide
theorem numB_2 : numB 2 = [1, 2] := by
  unfold numB
  rw [beB_one (by omega) (by omega)]
  decide
theorem textB_ab : textB [97, 98] = [1, 2, 97, 98] := by
  unfold textB
  rw [show ([97, 98] : List UInt8).length = 2 from rfl, numB_2]
  rfl
theorem str_is {l m : List UInt8} (h : l = m) : ((⟨l.toArray⟩ : ByteArray).toList == m) = true := by
  rw [ByteArray.toList_eq, h]
  simp

theorem num_10 : numOf (some [1, 0]) 9 = (0, none) := by decide
theorem grown_of {w w' : World} (h : Below w.heap.size w w') : w.grownBy w' none := ⟨h.os, h.tape, h.output, h.size, fun k hk _ => h.block k hk⟩

set_option maxRecDepth 100000 in
set_option maxHeartbeats 2000000 in
theorem packAwake {S : Addr} {Rdr : World → Nat → Rest → Prop} (hC : PackC S Rdr) (w : World) (hL : LaidP S w) :
    Calls Tryd.prog 9 #[] w fun e w' => e = .returned (.bool true) ∧ Below w.heap.size w w' := by
  have hO0 := OwnB.lit w (base := w.heap.size) #[.int .u8 1, .int .u8 0] [1, 0] rfl rfl (Nat.le_refl _) (by decide)
  go_enter Tryd.func9, Tryd.ntmps9
  go_wp2_with fail
  refine (hC.open_ _ 2 2 [1, 0] _ (hL.keep (b0 _ _)) rfl (by omega) hO0.rd).mono ?_
  rintro e w1 ⟨⟨g, rfl, hR, hg⟩, hb⟩
  have B1 := bt (b0 w _) hb
  clear hO0 hb
  go_wp2_with fail
  refine (hC.number none 0 0 [] 300 w1 (hL.keep B1) rfl (by omega) (RdB.nil _ _ _) (Nat.le_refl 0) (by omega)).mono ?_
  rintro e w2 ⟨⟨A2, n2, c2, rfl, hn2, hr2, qhr2⟩, hb2⟩
  have B2 := bt B1 hb2
  have hcv2 := conv_rd w2 A2 n2 c2 _ hn2 hr2
  rw [List.nil_append, numB_300] at hcv2
  have hR2 := hC.keep w1 w2 g _ none hR (grown_of hb2) (by simp)
  clear hn2 hr2 hR
  go_wp2_with fail
  clear hcv2
  refine (hC.int none 0 0 [] (-1) w2 (hL.keep B2) rfl (by omega) (RdB.nil _ _ _) (Nat.le_refl 0) (by omega) (by omega)).mono ?_
  rintro e w3 ⟨⟨A3, n3, c3, rfl, hn3, hr3, qhr3⟩, hb3⟩
  have B3 := bt B2 hb3
  have hcv3 := conv_rd w3 A3 n3 c3 _ hn3 hr3
  rw [List.nil_append, numB_zig] at hcv3
  have hR3 := hC.keep w2 w3 g _ none hR2 (grown_of hb3) (by simp)
  clear hn3 hr3 hR2
  go_wp2_with fail
  clear hcv3
  refine (hC.text none 0 0 [] ⟨#[97, 98]⟩ w3 (hL.keep B3) rfl (by omega) (RdB.nil _ _ _) (Nat.le_refl 0) (by decide)).mono ?_
  rintro e w4 ⟨⟨A4, n4, c4, rfl, hn4, hr4, qhr4⟩, hb4⟩
  have B4 := bt B3 hb4
  have hcv4 := conv_rd w4 A4 n4 c4 _ hn4 hr4
  rw [List.nil_append, textB_ab] at hcv4
  have hR4 := hC.keep w3 w4 g _ none hR3 (grown_of hb4) (by simp)
  clear hn4 hr4 hR3
  go_wp2_with fail
  clear hcv4
  refine (hC.rNumber g _ 9 w4 (hL.keep B4) hR4 (by omega)).mono ?_
  rintro e w5 ⟨rfl, hR5, hg5⟩
  have B5 := below_g B4 hg5 (Nat.le_trans (Nat.le_of_lt (by simp)) hg)
  rw [num_10] at hR5 ⊢
  go_wp2_with fail
  refine (hC.rEnd g _ w5 (hL.keep B5) hR5).mono ?_
  rintro e w6 ⟨rfl, _, hg6⟩
  have B6 := below_g B5 hg6 (Nat.le_trans (Nat.le_of_lt (by simp)) hg)
  have e6 : endOf none = 2 := rfl
  rw [e6]
  clear e6
  go_wp2_with fail
  go_ret
  exact ⟨rfl, B6⟩
end Go.Proofs.YtahmjiomkaibgaaDoor
