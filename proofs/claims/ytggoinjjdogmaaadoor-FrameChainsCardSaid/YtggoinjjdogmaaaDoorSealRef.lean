/-
  WHAT IS PROVED: the document's frame of a kind and bytes (spinneyref06.Seal) is sealL. Conditions: those typed in the theorem.
-/
import Derived.Test.YtggoinjjdogmaaaDoorCrcRef
namespace Go.Proofs.YtggoinjjdogmaaaDoor
open Go.RowKit

/-- Four bytes of a number, the highest first. -/
def fourB (c : Nat) : List UInt8 := [UInt8.ofNat (c / 16777216), UInt8.ofNat (c / 65536 % 256), UInt8.ofNat (c / 256 % 256), UInt8.ofNat (c % 256)]
/-- A frame ahead of its sum. -/
def bodyL (k : UInt8) (l : List UInt8) : List UInt8 := [229, k, UInt8.ofNat (l.length / 65536), UInt8.ofNat (l.length / 256 % 256), UInt8.ofNat (l.length % 256)] ++ l
/-- A frame. -/
def sealL (k : UInt8) (l : List UInt8) : List UInt8 := bodyL k l ++ fourB (crcL (bodyL k l))
theorem bodyL_len (k : UInt8) (l : List UInt8) : (bodyL k l).length = 5 + l.length := by simp [bodyL]; omega
theorem sealL_len (k : UInt8) (l : List UInt8) : (sealL k l).length = 9 + l.length := by simp [sealL, bodyL_len, fourB]; omega
theorem of_small {x : Nat} (h : x < 256) : ((UInt8.ofNat x).toNat : Int) = (x : Int) := by
  rw [UInt8.toNat_ofNat']
  omega

set_option maxRecDepth 100000 in
set_option maxHeartbeats 4000000 in
theorem refSeal_any {B : Nat} (k : UInt8) (A : Option Addr) (n c : Nat) (l : List UInt8) (w : World) (hn : l.length = n) (hr : RdB B w A l) (hB : B ≤ w.heap.size) (hm : n ≤ 100000) :
    Calls Tryd.prog 14 #[.int .u8 (k.toNat : Int), .slice A n c] w fun e w' => (∃ (A' : Option Addr) (c' : Nat), e = .returned (.tuple #[.slice A' (n + 9) c', .bool true]) ∧ OwnB w.heap.size w' A' (n + 9) c' (sealL k l)) ∧ Below w.heap.size w w' := by
  obtain ⟨i0, hi0, hz0, hz1, hz2⟩ := info_parts byt_info
  have HN := Lib.hid hn
  have g1 : (n : Int) ≤ 100000 := by omega
  have hk := k.toNat_lt
  clear hn
  go_enter Tryd.func14, Tryd.ntmps14
  have hl5 : #[Value.int .u8 229, .int .u8 (k.toNat : Int), .int .u8 ((n : Int) / 65536), .int .u8 ((n : Int) / 256 % 256), .int .u8 ((n : Int) % 256)].toList = bytV [229, k, UInt8.ofNat (n / 65536), UInt8.ofNat (n / 256 % 256), UInt8.ofNat (n % 256)] := by
    dsimp only [bytV, List.map]
    rw [of_small (x := n / 65536) (by omega), of_small (x := n / 256 % 256) (by omega), of_small (x := n % 256) (by omega)]
    rfl
  have hown := OwnB.lit w (base := w.heap.size) _ _ hl5 (n := 5) rfl (Nat.le_refl _) (by unfold maxLen; omega)
  have hrd := hr.keep (b0 w (.cells #[.int .u8 229, .int .u8 (k.toNat : Int), .int .u8 ((n : Int) / 65536), .int .u8 ((n : Int) / 256 % 256), .int .u8 ((n : Int) % 256)] 5)) hB
  have hB0 := b0 w (.cells #[.int .u8 229, .int .u8 (k.toNat : Int), .int .u8 ((n : Int) / 65536), .int .u8 ((n : Int) / 256 % 256), .int .u8 ((n : Int) % 256)] 5)
  have HBY : Hid ([229, k, UInt8.ofNat (n / 65536), UInt8.ofNat (n / 256 % 256), UInt8.ofNat (n % 256)] ++ l = bodyL k l) := by show _ = _; unfold bodyL; rw [HN.out]
  clear hl5
  go_wp2_with (at_builtin; refine wpList_apB (base := w.heap.size) (n := 5) (m := n) (l := [229, k, UInt8.ofNat (n / 65536), UInt8.ofNat (n / 256 % 256), UInt8.ofNat (n % 256)]) (l2 := l) (by rfl) _ _ (by rfl) Tryd.underlying22 Tryd.underlying22 hi0 hz0 hz1 hz2 (by rfl) (by rfl) hown hrd HN.out (n + 5) (by omega) (by omega) (by simp) ?_; intro A5 c5 w5 hO5 hb5 hg5)
  rw [HBY.out] at hO5
  have hB5 := hB0.trans hb5
  clear hown hrd hg5 HBY hb5
  refine (refSum_any A5 (n + 5) c5 (bodyL k l) w5 hO5.len hO5.rd (by omega)).mono ?_
  rintro e w6 ⟨rfl, rfl⟩
  have hcs := crcL_lt (bodyL k l)
  generalize hcc : crcL (bodyL k l) = cs at hcs ⊢
  have HCC := Lib.hid hcc
  clear hcc
  have hcs' : (cs : Int) < 4294967296 := by omega
  have hl4 : #[Value.int .u8 ((cs : Int) / 16777216), .int .u8 ((cs : Int) / 65536 % 256), .int .u8 ((cs : Int) / 256 % 256), .int .u8 ((cs : Int) % 256)].toList = bytV (fourB cs) := by
    dsimp only [fourB, bytV, List.map]
    rw [of_small (x := cs / 16777216) (by omega), of_small (x := cs / 65536 % 256) (by omega), of_small (x := cs / 256 % 256) (by omega), of_small (x := cs % 256) (by omega)]
    rfl
  have hown4 := OwnB.lit w5 (base := w5.heap.size) _ _ hl4 (n := 4) rfl (Nat.le_refl _) (by unfold maxLen; omega)
  have hO6 := hO5.keep (b0 w5 (.cells #[.int .u8 ((cs : Int) / 16777216), .int .u8 ((cs : Int) / 65536 % 256), .int .u8 ((cs : Int) / 256 % 256), .int .u8 ((cs : Int) % 256)] 5))
  have hz5 := hB5.size
  have hB6 := hB5.alloc hz5 (.cells #[.int .u8 ((cs : Int) / 16777216), .int .u8 ((cs : Int) / 65536 % 256), .int .u8 ((cs : Int) / 256 % 256), .int .u8 ((cs : Int) % 256)] 5)
  clear hl4 hO5
  go_wp2_with (at_builtin; refine wpList_apB (base := w.heap.size) (n := n + 5) (m := 4) (l := bodyL k l) (l2 := fourB cs) (by rfl) _ _ (by rfl) Tryd.underlying22 Tryd.underlying22 hi0 hz0 hz1 hz2 (by rfl) (by rfl) hO6 hown4.rd rfl (n + 9) (by omega) (by omega) (by simp; omega) ?_; intro A7 c7 w7 hO7 hb7 hg7)
  go_ret2
  refine ⟨⟨A7, c7, rfl, ?_⟩, hB6.trans hb7⟩
  unfold sealL
  rw [HCC.out]
  exact hO7
end Go.Proofs.YtggoinjjdogmaaaDoor
