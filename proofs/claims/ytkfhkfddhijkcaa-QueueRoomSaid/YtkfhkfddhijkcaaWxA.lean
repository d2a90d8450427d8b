/-
  WHAT IS PROVED: skies: New, Next, Below; the document's half, Next, Below. Conditions: those typed in each theorem.
-/
import Derived.Test.YtkfhkfddhijkcaaGQ5
import Derived.Test.YtkfhkfddhijkcaaGQ4
import Derived.Lib.Hide
import Derived.Deep.Cut
import Derived.Shelf.Abstract
import Derived.Outline
import Derived.BigRegion
import Derived.BigQuiet
import Derived.Deep.QuietTactic
import Derived.RowKitTokens
import Derived.WalkKit
import Derived.Laws.BitsLemmas
import Derived.Lib.EndianBits
namespace Go.Proofs.Ytkfhkfddhijkcaa
open Go.RowKit

/-- All that lay there stays, but one block. -/
structure Exc (g : Nat) (W W' : World) : Prop where
  os : W'.os = W.os
  tape : W'.tape = W.tape
  output : W'.output = W.output
  size : W.heap.size ≤ W'.heap.size
  block : ∀ k, k < W.heap.size → k ≠ g → W'.heap[k]? = W.heap[k]?
theorem Exc.refl (g : Nat) (W : World) : Exc g W W := ⟨rfl, rfl, rfl, Nat.le_refl _, fun _ _ _ => rfl⟩
theorem Exc.trans {g : Nat} {a b c : World} (h : Exc g a b) (k : Exc g b c) : Exc g a c :=
  ⟨k.os.trans h.os, k.tape.trans h.tape, k.output.trans h.output, Nat.le_trans h.size k.size, fun i hi hg => (k.block i (Nat.lt_of_lt_of_le hi h.size) hg).trans (h.block i hi hg)⟩
theorem exc_of {a b : World} (h : Below a.heap.size a b) (g : Nat) : Exc g a b := ⟨h.os, h.tape, h.output, h.size, fun k hk _ => h.block k hk⟩
theorem Only1.exc {g : Nat} {a b : World} (h : Only1 g a b) : Exc g a b := ⟨h.os, h.tape, h.output, Nat.le_of_eq h.size.symm, fun k _ hk => h.block k hk⟩
theorem Exc.below {g B : Nat} {a b : World} (h : Exc g a b) (hB : B ≤ g) (hs : B ≤ a.heap.size) : Below B a b := ⟨h.os, h.tape, h.output, h.size, fun k hk => h.block k (by omega) (by omega)⟩
theorem Exc.blk {g p : Nat} {a b : World} (h : Exc g a b) {cs : Array Value} {t : TypeId} (hX : Blk a p cs t) (hg : p ≠ g) : Blk b p cs t := (h.block p hX.lt hg).trans hX
theorem Exc.up {g : Nat} {a b c : World} (h : Below a.heap.size a b) (k : Exc g b c) (hg : a.heap.size ≤ g) : Below a.heap.size a c :=
  ⟨k.os.trans h.os, k.tape.trans h.tape, k.output.trans h.output, Nat.le_trans h.size k.size, fun i hi => (k.block i (Nat.lt_of_lt_of_le hi h.size) (by omega)).trans (h.block i hi)⟩
theorem en_spinney_weather_New : ∀ args w, (callFunc 26 args).run Try.prog w = .ok (.enter 26 args) w := enters_of Try.func26 (by kernel_rfl) rfl
theorem en_spinney_weather_Sky_Next : ∀ args w, (callFunc 29 args).run Try.prog w = .ok (.enter 29 args) w := enters_of Try.func29 (by kernel_rfl) rfl
theorem en_spinney_weather_Sky_Below : ∀ args w, (callFunc 31 args).run Try.prog w = .ok (.enter 31 args) w := enters_of Try.func31 (by kernel_rfl) rfl
theorem en_spinney_spinneyref29_half : ∀ args w, (callFunc 78 args).run Try.prog w = .ok (.enter 78 args) w := enters_of Try.func78 (by kernel_rfl) rfl
theorem en_spinney_spinneyref29_Next : ∀ args w, (callFunc 28 args).run Try.prog w = .ok (.enter 28 args) w := enters_of Try.func28 (by kernel_rfl) rfl
theorem en_spinney_spinneyref29_Below : ∀ args w, (callFunc 30 args).run Try.prog w = .ok (.enter 30 args) w := enters_of Try.func30 (by kernel_rfl) rfl

theorem xor_u64 (a b : Nat) (ha : a < 18446744073709551616) (hb : b < 18446744073709551616) : bits .xor .u64 (a : Int) (b : Int) = ((a ^^^ b : Nat) : Int) := by
  have hx : a ^^^ b < 2 ^ 64 := Nat.xor_lt_two_pow (by omega) (by omega)
  have h1 : (BitVec.ofInt 64 (a : Int)).toNat = a := by
    rw [BitVec.ofInt_natCast, BitVec.toNat_ofNat]
    exact Nat.mod_eq_of_lt (by omega)
  have h2 : (BitVec.ofInt 64 (b : Int)).toNat = b := by
    rw [BitVec.ofInt_natCast, BitVec.toNat_ofNat]
    exact Nat.mod_eq_of_lt (by omega)
  show IntKind.u64.wrap ((BitVec.ofInt 64 (a : Int) ^^^ BitVec.ofInt 64 (b : Int)).toNat : Int) = _
  rw [BitVec.toNat_xor, h1, h2, IntKind.wrap_u64]
  omega
theorem wrapN (a : Nat) : IntKind.u64.wrap (a : Int) = ((a % 18446744073709551616 : Nat) : Int) := by
  rw [IntKind.wrap_u64]
  omega
/-- A sky's block. -/
def SkyB (W : World) (p s : Nat) : Prop := Blk W p #[.int .u64 (s : Int)] 143
theorem skyNew_any (s : Nat) (w : World) : Calls Try.prog 26 #[.int .u64 (s : Int)] w fun e w' => ∃ p, e = .returned (.pointer (some ⟨p, 0, none⟩)) ∧ w.heap.size ≤ p ∧ SkyB w' p s ∧ Below w.heap.size w w' := by
  have hX := blk_new w #[.int .u64 (s : Int)] 143
  have hB := b0 w (.cells #[.int .u64 (s : Int)] 143)
  go_enter Try.func26, Try.ntmps26
  go_wp2_with fail
  go_ret
  exact ⟨_, rfl, Nat.le_refl _, hX, hB⟩
set_option maxHeartbeats 4000000 in
theorem skyNext_any (s p : Nat) (w : World) (hs : s < 18446744073709551616) (hX : SkyB w p s) : Calls Try.prog 29 #[.pointer (some ⟨p, 0, none⟩)] w fun e w' => e = .returned (.int .u64 (nxV s : Nat)) ∧ SkyB w' p (nxS s) ∧ Only1 p w w' := by
  have h1 : IntKind.u64.wrap ((s : Int) + 11400714819323198485) = (nxS s : Nat) := by
    unfold nxS
    rw [← wrapN]
    rfl
  have HS := Lib.hid (nxS_lt s)
  have HR : Hid (nxV s = lastW (mixW 134217728 10723151780598845931 (mixW 1073741824 13787848793156543929 (nxS s)))) := by show _ = _; rfl
  have hY := hX.set 0 (.int .u64 (nxS s : Nat))
  have ho := only_cell w p 0 (.int .u64 (nxS s : Nat))
  have c0 := hX.cell 0
  have f0 := hX.free 0
  have d0 := hY.cell 0
  generalize nxS s = z at *
  have a1 := xor_u64 z (z / 1073741824) HS.out (Nat.lt_of_le_of_lt (Nat.div_le_self _ _) HS.out)
  have a2 : IntKind.u64.wrap (((z ^^^ (z / 1073741824) : Nat) : Int) * 13787848793156543929) = (mixW 1073741824 13787848793156543929 z : Nat) := by
    unfold mixW
    rw [← wrapN]
    congr 1
  have l2 := mixW_lt 1073741824 13787848793156543929 z
  generalize mixW 1073741824 13787848793156543929 z = y at a2 l2 HR
  have a3 := xor_u64 y (y / 134217728) l2 (Nat.lt_of_le_of_lt (Nat.div_le_self _ _) l2)
  have a4 : IntKind.u64.wrap (((y ^^^ (y / 134217728) : Nat) : Int) * 10723151780598845931) = (mixW 134217728 10723151780598845931 y : Nat) := by
    unfold mixW
    rw [← wrapN]
    congr 1
  have l3 := mixW_lt 134217728 10723151780598845931 y
  generalize mixW 134217728 10723151780598845931 y = x at a4 l3 HR
  have a5 := xor_u64 x (x / 2147483648) l3 (Nat.lt_of_le_of_lt (Nat.div_le_self _ _) l3)
  have e1 : ((z : Int) / 1073741824) = ((z / 1073741824 : Nat) : Int) := by omega
  have e2 : ((y : Int) / 134217728) = ((y / 134217728 : Nat) : Int) := by omega
  have e3 : ((x : Int) / 2147483648) = ((x / 2147483648 : Nat) : Int) := by omega
  rw [← e1] at a1
  rw [← e2] at a3
  rw [← e3] at a5
  have HX := Lib.hid hX
  clear e1 e2 e3 l2 l3 hX
  generalize z ^^^ (z / 1073741824) = q1 at *
  generalize y ^^^ (y / 134217728) = q2 at *
  unfold lastW at HR
  generalize x ^^^ (x / 2147483648) = q3 at *
  go_enter Try.func29, Try.ntmps29
  go_wp2_with fail
  go_ret
  rw [HR.out]
  exact ⟨rfl, hY, ho⟩
end Go.Proofs.Ytkfhkfddhijkcaa
