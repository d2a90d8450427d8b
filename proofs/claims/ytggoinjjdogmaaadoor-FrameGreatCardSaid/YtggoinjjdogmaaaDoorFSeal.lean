/-
  WHAT IS PROVED: package frame's Seal: what it answers, as the chapter says. Conditions: those typed in each theorem.
-/
import Derived.Test.YtggoinjjdogmaaaDoorFErrs2
import Derived.Test.YtggoinjjdogmaaaDoorFSum
import Derived.Test.YtggoinjjdogmaaaDoorBytesOwn
import Derived.Laws.MakeOwn
namespace Go.Proofs.YtggoinjjdogmaaaDoor
open Go.RowKit

theorem run_make0 (W : World) (n : Nat) (z : Int) (hz : z = (n : Int)) (hn : n ≤ 1000000) :
    (Instr.makeSlice 22 (.int .i64 0) (.int .i64 z)).run Tryd.prog W = .ok (.slice (some ⟨W.heap.size, 0, none⟩) 0 n) (W.alloc (.cells (madeCells #[.int .u8 0] n) 5)) := by
  obtain ⟨i0, hi0, hz0, hz1, hz2⟩ := info_parts byt_info
  subst hz
  have h := run_make W 22 5 i0 (.int .u8 0) Tryd.underlying22 hi0 hz0 .i64 .i64 0 (n : Int) (by omega) (by omega) (by rw [hz2]; omega) (by omega)
  rw [Int.toNat_natCast, hz1, Nat.mul_one] at h
  exact h
theorem ownMade0 (w : World) (n : Nat) (hn : n ≤ 1000000) : OwnB w.heap.size (w.alloc (.cells (madeCells #[.int .u8 0] n) 5)) (some ⟨w.heap.size, 0, none⟩) 0 n [] := by
  refine ⟨rfl, .inr ⟨w.heap.size, n, madeCells #[.int .u8 0] n, rfl, Nat.le_refl _, ?_, Nat.zero_le _, by unfold maxLen; omega, ?_, rfl⟩⟩
  · exact blk_new w _ _
  · simp [madeCells]
set_option maxRecDepth 100000 in
set_option maxHeartbeats 4000000 in
theorem seal_any (k : UInt8) (A : Option Addr) (n c : Nat) (b : List UInt8) (w : World) (hL : LaidF w) (hn : b.length = n) (hm : n ≤ 100000) (hr : RdB w.heap.size w A b) :
    Calls Tryd.prog 13 #[.agg #[.int .u8 (k.toNat : Int), .slice A n c]] w fun e w' => (∃ (A' : Option Addr) (c' : Nat), e = .returned (.tuple #[.slice A' (n + 9) c', .int .i64 0]) ∧ OwnB w.heap.size w' A' (n + 9) c' (sealL k b)) ∧ Below w.heap.size w w' := by
  obtain ⟨i0, hi0, hz0, hz1_, hz2⟩ := info_parts byt_info
  have HN := Lib.hid hn
  have g1 : (n : Int) ≤ 100000 := by omega
  have g2 : ¬ (100000 : Int) < (n : Int) := by omega
  have hB1 := b0 w (.cells #[.int .u8 (k.toNat : Int), .slice A n c] 31)
  have hP := blk_new w #[.int .u8 (k.toNat : Int), .slice A n c] 31
  have hR1 := hr.keep hB1 (Nat.le_refl _)
  have hk := k.toNat_lt
  have hl5 : #[Value.int .u8 229, .int .u8 (k.toNat : Int), .int .u8 ((n : Int) / 65536), .int .u8 ((n : Int) / 256 % 256), .int .u8 ((n : Int) % 256)].toList = bytV [229, k, UInt8.ofNat (n / 65536), UInt8.ofNat (n / 256 % 256), UInt8.ofNat (n % 256)] := by
    dsimp only [bytV, List.map]
    rw [of_small (x := n / 65536) (by omega), of_small (x := n / 256 % 256) (by omega), of_small (x := n % 256) (by omega)]
    rfl
  have hz1 : (w.alloc (.cells #[.int .u8 (k.toNat : Int), .slice A n c] 31)).heap.size = w.heap.size + 1 := by simp
  have hO2 := ownMade0 (w.alloc (.cells #[.int .u8 (k.toNat : Int), .slice A n c] 31)) (n + 9) (by omega)
  have hb2 := b0 (w.alloc (.cells #[.int .u8 (k.toNat : Int), .slice A n c] 31)) (.cells (madeCells #[.int .u8 0] (n + 9)) 5)
  rw [hz1] at hO2
  have hz2' : ((w.alloc (.cells #[.int .u8 (k.toNat : Int), .slice A n c] 31)).alloc (.cells (madeCells #[.int .u8 0] (n + 9)) 5)).heap.size = w.heap.size + 1 + 1 := by simp
  have hown := OwnB.lit ((w.alloc (.cells #[.int .u8 (k.toNat : Int), .slice A n c] 31)).alloc (.cells (madeCells #[.int .u8 0] (n + 9)) 5)) (base := w.heap.size + 1) _ _ hl5 (n := 5) rfl (by omega) (by unfold maxLen; omega)
  have hO3 := hO2.keep (b0 _ (.cells #[.int .u8 229, .int .u8 (k.toNat : Int), .int .u8 ((n : Int) / 65536), .int .u8 ((n : Int) / 256 % 256), .int .u8 ((n : Int) % 256)] 5))
  have hb3 := ba hb2 (.cells #[.int .u8 229, .int .u8 (k.toNat : Int), .int .u8 ((n : Int) / 65536), .int .u8 ((n : Int) / 256 % 256), .int .u8 ((n : Int) % 256)] 5)
  rw [hz2'] at hown
  rw [hz1] at hb3
  have hz3 : (((w.alloc (.cells #[.int .u8 (k.toNat : Int), .slice A n c] 31)).alloc (.cells (madeCells #[.int .u8 0] (n + 9)) 5)).alloc (.cells #[.int .u8 229, .int .u8 (k.toNat : Int), .int .u8 ((n : Int) / 65536), .int .u8 ((n : Int) / 256 % 256), .int .u8 ((n : Int) % 256)] 5)).heap.size = w.heap.size + 1 + 1 + 1 := by simp
  have HBY : Hid ([229, k, UInt8.ofNat (n / 65536), UInt8.ofNat (n / 256 % 256), UInt8.ofNat (n % 256)] ++ b = bodyL k b) := by show _ = _; unfold bodyL; rw [HN.out]
  have mk := fun W => run_make0 W (n + 9) (5 + (n : Int) + 4) (by omega) (by omega)
  clear hl5 hO2 hb2 hn
  go_enter Tryd.func13, Tryd.ntmps13
  go_wp2_with first
    | (at_builtin; refine wpList_apB (base := w.heap.size + 1) (n := 0) (m := 5) (l := []) (l2 := [229, k, UInt8.ofNat (n / 65536), UInt8.ofNat (n / 256 % 256), UInt8.ofNat (n % 256)]) (by rfl) _ _ (by rfl) Tryd.underlying22 Tryd.underlying22 hi0 hz0 hz1_ hz2 (by rfl) (by rfl) hO3 hown.rd rfl 5 (by omega) (by omega) (by omega) ?_; intro A5 c5 w5 hO5 hb5 hg5; rw [List.nil_append] at hO5; have hb35 := hb3.trans hb5; have hP5 : Blk w5 w.heap.size #[.int .u8 (k.toNat : Int), .slice A n c] 31 := (hb35.block w.heap.size (by omega)).trans hP; have p1 : w5.cell? ⟨w.heap.size, 1, none⟩ = some (.slice A n c) := hP5.cell 1; have hR5 := hR1.keep hb35 (by omega); have z5 := hb35.size)
    | (at_builtin; refine wpList_apB (base := w.heap.size + 1) (n := 5) (m := n) (l := [229, k, UInt8.ofNat (n / 65536), UInt8.ofNat (n / 256 % 256), UInt8.ofNat (n % 256)]) (l2 := b) (by rfl) _ _ (by rfl) Tryd.underlying22 Tryd.underlying22 hi0 hz0 hz1_ hz2 (by rfl) (by rfl) hO5 hR5 HN.out (n + 5) (by omega) (by omega) (by omega) ?_; intro A6 c6 w6 hO6 hb6 hg6)
  rw [HBY.out] at hO6
  have hb36 := hb35.trans hb6
  have hB6 : Below w.heap.size w w6 := hB1.trans (hb36.mono (by omega))
  clear hown hO3 hg5 hg6 hO5 hb5 hb6 HBY hb3 mk
  refine (sum_any A6 (n + 5) c6 (bodyL k b) w6 (hL.keep hB6) hO6.len hO6.rd (by omega)).mono ?_
  rintro e w7 ⟨rfl, rfl⟩
  have hcs := crcL_lt (bodyL k b)
  generalize hcc : crcL (bodyL k b) = cs at hcs ⊢
  have HCC := Lib.hid hcc
  clear hcc
  have hcs' : (cs : Int) < 4294967296 := by omega
  have hl4 : #[Value.int .u8 ((cs : Int) / 16777216), .int .u8 ((cs : Int) / 65536 % 256), .int .u8 ((cs : Int) / 256 % 256), .int .u8 ((cs : Int) % 256)].toList = bytV (fourB cs) := by
    dsimp only [fourB, bytV, List.map]
    rw [of_small (x := cs / 16777216) (by omega), of_small (x := cs / 65536 % 256) (by omega), of_small (x := cs / 256 % 256) (by omega), of_small (x := cs % 256) (by omega)]
    rfl
  have hown4 := OwnB.lit w6 (base := w6.heap.size) _ _ hl4 (n := 4) rfl (Nat.le_refl _) (by unfold maxLen; omega)
  have hO7 := (hO6.less (b2 := w.heap.size) (by omega)).keep (b0 w6 (.cells #[.int .u8 ((cs : Int) / 16777216), .int .u8 ((cs : Int) / 65536 % 256), .int .u8 ((cs : Int) / 256 % 256), .int .u8 ((cs : Int) % 256)] 5))
  have hz6 := hB6.size
  have hB7 := hB6.alloc hz6 (.cells #[.int .u8 ((cs : Int) / 16777216), .int .u8 ((cs : Int) / 65536 % 256), .int .u8 ((cs : Int) / 256 % 256), .int .u8 ((cs : Int) % 256)] 5)
  clear hl4 hO6
  go_wp2_with (at_builtin; refine wpList_apB (base := w.heap.size) (n := n + 5) (m := 4) (l := bodyL k b) (l2 := fourB cs) (by rfl) _ _ (by rfl) Tryd.underlying22 Tryd.underlying22 hi0 hz0 hz1_ hz2 (by rfl) (by rfl) hO7 hown4.rd rfl (n + 9) (by omega) (by omega) (by simp; omega) ?_; intro A8 c8 w8 hO8 hb8 hg8)
  go_ret2
  refine ⟨⟨A8, c8, rfl, ?_⟩, hB7.trans hb8⟩
  unfold sealL
  rw [HCC.out]
  exact hO8
set_option maxRecDepth 100000 in
set_option maxHeartbeats 2000000 in
theorem full_any (k : UInt8) (A : Option Addr) (n c : Nat) (w : World) (hL : LaidF w) (hm : 100000 < n) (hm2 : n ≤ 200000) :
    Calls Tryd.prog 13 #[.agg #[.int .u8 (k.toNat : Int), .slice A n c]] w fun e w' => e = .returned (.tuple #[.slice none 0 0, .int .i64 3]) ∧ Below w.heap.size w w' := by
  have g1 : (100000 : Int) < (n : Int) := by omega
  have hB1 := b0 w (.cells #[.int .u8 (k.toNat : Int), .slice A n c] 31)
  have HA := Lib.hid (fun W (h : Below w.heap.size w W) v m (hv : ErrF v m) => answer_any v m W (hL.keep h) hv)
  have HV : Hid (ErrF (.iface 54 (.agg #[.int .i64 (n : Nat), .int .i64 3])) 3) := .inr (.inr ⟨_, rfl⟩)
  go_enter Tryd.func13, Tryd.ntmps13
  go_wp2_with fail
  refine (HA.out _ hB1 _ 3 HV.out).mono ?_
  rintro e w4 ⟨rfl, hb4⟩
  have hB4 := bt hB1 hb4
  go_wp2_with fail
  go_ret2
  exact ⟨rfl, hB4⟩
end Go.Proofs.YtggoinjjdogmaaaDoor
