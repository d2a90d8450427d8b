/-
  WHAT IS PROVED: package frame's sumAt and length: what they answer, as the chapter says. Conditions: those typed in each theorem.
-/
import Derived.Test.YtggoinjjdogmaaaDoorFSum
import Derived.Test.YtggoinjjdogmaaaDoorFMath
namespace Go.Proofs.YtggoinjjdogmaaaDoor
open Go.RowKit

theorem or_u32 (x y : Int) (i : Nat) (hx₀ : 0 ≤ x) (hx : x % 2 ^ i = 0) (hx₁ : x < 2 ^ 32) (hy₀ : 0 ≤ y) (hy : y < 2 ^ i) (hy₁ : y < 2 ^ 32) : bits .or .u32 x y = x + y := bits_join .u32 32 (by decide) wraps_u32 i x y hx₀ hx hx₁ hy₀ hy hy₁
theorem wraps_i64 (n : Int) (h₀ : 0 ≤ n) (h₁ : n < 2 ^ 63) : IntKind.i64.wrap n = n := by rw [IntKind.wrap_i64]; omega
theorem or_i64 (x y : Int) (i : Nat) (hx₀ : 0 ≤ x) (hx : x % 2 ^ i = 0) (hx₁ : x < 2 ^ 63) (hy₀ : 0 ≤ y) (hy : y < 2 ^ i) (hy₁ : y < 2 ^ 63) : bits .or .i64 x y = x + y := bits_join .i64 63 (by decide) wraps_i64 i x y hx₀ hx hx₁ hy₀ hy hy₁

set_option maxRecDepth 100000 in
set_option maxHeartbeats 4000000 in
theorem sumAt_any {B : Nat} (A : Option Addr) (c : Nat) (b : List UInt8) (w : World) (hn : b.length = 4) (hr : RdB B w A b) :
    Calls Tryd.prog 25 #[.slice A 4 c] w fun e w' => e = .returned (.int .u32 (numF b 0 : Nat)) ∧ w' = w.drew := by
  have g : ∀ i, i < 4 → ∃ ad, A = some ad ∧ ad.block < B ∧ w.cell? (ad.add i) = some (.int .u8 ((byteAt b i).toNat : Int)) := fun i hi => hr i _ (byteAt_get (by omega))
  obtain ⟨ad, rfl, _, k0⟩ := g 0 (by omega)
  have g2 : ∀ i, i < 4 → w.cell? (ad.add i) = some (.int .u8 ((byteAt b i).toNat : Int)) := fun i hi => by
    obtain ⟨a2, e, _, c⟩ := g i hi
    injection e with e
    subst e
    exact c
  have c0 : w.cell? ad = some (.int .u8 ((byteAt b 0).toNat : Int)) := by simpa [Addr.add] using g2 0 (by omega)
  have c1 : w.cell? ⟨ad.block, ad.off + 1, none⟩ = some (.int .u8 ((byteAt b 1).toNat : Int)) := g2 1 (by omega)
  have c2 : w.cell? ⟨ad.block, ad.off + 2, none⟩ = some (.int .u8 ((byteAt b 2).toNat : Int)) := g2 2 (by omega)
  have c3 : w.cell? ⟨ad.block, ad.off + 3, none⟩ = some (.int .u8 ((byteAt b 3).toNat : Int)) := g2 3 (by omega)
  have R : Hid (numF b 0 = 16777216 * (byteAt b 0).toNat + 65536 * (byteAt b 1).toNat + 256 * (byteAt b 2).toNat + (byteAt b 3).toNat) := rfl
  have b0' := (byteAt b 0).toNat_lt
  have b1' := (byteAt b 1).toNat_lt
  have b2' := (byteAt b 2).toNat_lt
  have b3' := (byteAt b 3).toNat_lt
  generalize (byteAt b 0).toNat = x0 at *
  generalize (byteAt b 1).toNat = x1 at *
  generalize (byteAt b 2).toNat = x2 at *
  generalize (byteAt b 3).toNat = x3 at *
  have o1 := or_u32 ((x0 : Int) * 16777216) ((x1 : Int) * 65536) 24 (by omega) (by omega) (by omega) (by omega) (by omega) (by omega)
  have o2 := or_u32 ((x0 : Int) * 16777216 + (x1 : Int) * 65536) ((x2 : Int) * 256) 16 (by omega) (by omega) (by omega) (by omega) (by omega) (by omega)
  have o3 := or_u32 ((x0 : Int) * 16777216 + (x1 : Int) * 65536 + (x2 : Int) * 256) (x3 : Int) 8 (by omega) (by omega) (by omega) (by omega) (by omega) (by omega)
  clear g g2 k0 hn hr
  go_enter Tryd.func25, Tryd.ntmps25
  go_wp2_with fail
  go_region
  go_wp2_with fail
  go_ret
  refine ⟨?_, rfl⟩
  rw [R.out]
  go_num

/-- How long the frame is that b begins with; 0: there is none so long. -/
theorem size_none {b : List UInt8} (h : b.length < 9 ∨ byteAt b 0 ≠ 229 ∨ 100000 < lenF b ∨ b.length < lenF b + 9) : (takeF b).2.2.1 = 0 ∧ (takeF b).2.2.2 = 2 := by
  unfold takeF
  by_cases h1 : b.length < 9 ∨ byteAt b 0 ≠ 229
  · rw [if_pos h1]
    exact ⟨rfl, rfl⟩
  · rw [if_neg h1]
    have h2 : 100000 < lenF b ∨ b.length < lenF b + 9 := by
      rcases h with h | h | h | h
      · exact absurd (.inl h) h1
      · exact absurd (.inr h) h1
      · exact .inl h
      · exact .inr h
    rw [if_pos h2]
    exact ⟨rfl, rfl⟩
theorem size_some {b : List UInt8} (h1 : 9 ≤ b.length) (h2 : byteAt b 0 = 229) (h3 : lenF b ≤ 100000) (h4 : lenF b + 9 ≤ b.length) : (takeF b).2.2.1 = lenF b + 9 := by
  unfold takeF
  rw [if_neg (by rw [h2]; simp; omega), if_neg (by omega)]
  split <;> rfl
/-- What length answers. -/
def LenP (s code : Nat) (w : World) (e : Ending) (w' : World) : Prop :=
  (∃ v : Value, e = .returned (.tuple #[.int .i64 (s : Nat), v]) ∧ ((s ≠ 0 ∧ v = .nilIface) ∨ (s = 0 ∧ code = 2 ∧ (v = .iface 62 (.int .i64 2) ∨ ∃ l : Int, v = .iface 54 (.agg #[.int .i64 l, .int .i64 2]))))) ∧ Below w.heap.size w w'

set_option maxRecDepth 100000 in
set_option maxHeartbeats 4000000 in
theorem length_any {B : Nat} (A : Option Addr) (n c : Nat) (b : List UInt8) (w : World) (hn : b.length = n) (hr : RdB B w A b) (hm : n ≤ 1000000000) :
    Calls Tryd.prog 21 #[.slice A n c] w fun e w' => LenP (takeF b).2.2.1 (takeF b).2.2.2 w e w' := by
  have HN := Lib.hid hn
  have gm : (n : Int) ≤ 1000000000 := by omega
  by_cases h5 : n < 5
  · have g5 : (n : Int) < 5 := by omega
    have R := Lib.hid (size_none (b := b) (.inl (by omega)))
    clear hn
    go_enter Tryd.func21, Tryd.ntmps21
    go_wp2_with fail
    go_ret2
    rw [R.out.1, R.out.2]
    exact ⟨⟨_, rfl, .inr ⟨rfl, rfl, .inr ⟨_, rfl⟩⟩⟩, Below.refl _ _⟩
  · have g5 : ¬ (n : Int) < 5 := by omega
    have g0 : (0 : Int) < (n : Int) := by omega
    have g1 : (2 : Int) < (n : Int) := by omega
    have g2 : (3 : Int) < (n : Int) := by omega
    have g3 : (4 : Int) < (n : Int) := by omega
    obtain ⟨ad, rfl, _, c0, _, c2, c3, c4⟩ := five hr (by omega)
    by_cases h0 : byteAt b 0 = 229
    · have e0 : (((byteAt b 0).toNat : Int) != 229) = false := by rw [h0]; rfl
      have e0' : (((byteAt b 0).toNat : Int) == 229) = true := by rw [h0]; rfl
      have b2' := (byteAt b 2).toNat_lt
      have b3' := (byteAt b 3).toNat_lt
      have b4' := (byteAt b 4).toNat_lt
      have HL : Hid (lenF b = 65536 * (byteAt b 2).toNat + 256 * (byteAt b 3).toNat + (byteAt b 4).toNat) := rfl
      have H0 := Lib.hid h0
      have o1 := or_i64 (((byteAt b 2).toNat : Int) * 65536) (((byteAt b 3).toNat : Int) * 256) 16 (by omega) (by omega) (by omega) (by omega) (by omega) (by omega)
      have o2 := or_i64 (((byteAt b 2).toNat : Int) * 65536 + ((byteAt b 3).toNat : Int) * 256) ((byteAt b 4).toNat : Int) 8 (by omega) (by omega) (by omega) (by omega) (by omega) (by omega)
      rw [show (((byteAt b 2).toNat : Int) * 65536 + ((byteAt b 3).toNat : Int) * 256 + ((byteAt b 4).toNat : Int)) = (lenF b : Nat) by rw [HL.out]; omega] at o2
      generalize hLL : lenF b = N at o2
      have HLL := Lib.hid hLL
      clear HL hLL h0 hn hr
      by_cases hbig : 100000 < N
      · have k1 : (100000 : Int) < (N : Int) := by omega
        have R := Lib.hid (size_none (b := b) (.inr (.inr (.inl (by rw [HLL.out]; exact hbig)))))
        go_enter Tryd.func21, Tryd.ntmps21
        go_wp2_with fail
        go_region
        go_wp2_with fail
        go_ret2
        rw [R.out.1, R.out.2]
        exact ⟨⟨_, rfl, .inr ⟨rfl, rfl, .inr ⟨_, rfl⟩⟩⟩, (Below.refl _ _).drew⟩
      · have k1 : ¬ (100000 : Int) < (N : Int) := by omega
        by_cases hlong : n < N + 9
        · have k2 : (n : Int) < (N : Int) + 9 := by omega
          have R := Lib.hid (size_none (b := b) (.inr (.inr (.inr (by rw [HLL.out, HN.out]; exact hlong)))))
          go_enter Tryd.func21, Tryd.ntmps21
          go_wp2_with fail
          go_region
          go_wp2_with fail
          go_ret2
          rw [R.out.1, R.out.2]
          exact ⟨⟨_, rfl, .inr ⟨rfl, rfl, .inr ⟨_, rfl⟩⟩⟩, (Below.refl _ _).drew⟩
        · have k2 : ¬ (n : Int) < (N : Int) + 9 := by omega
          have R := Lib.hid (size_some (b := b) (by rw [HN.out]; omega) H0.out (by rw [HLL.out]; omega) (by rw [HLL.out, HN.out]; omega))
          go_enter Tryd.func21, Tryd.ntmps21
          go_wp2_with fail
          go_region
          go_wp2_with fail
          go_ret2
          rw [R.out, HLL.out]
          exact ⟨⟨_, by go_num, .inl ⟨by omega, rfl⟩⟩, (Below.refl _ _).drew⟩
    · have e0 : (((byteAt b 0).toNat : Int) != 229) = true := by
        rw [bne_iff_ne]
        intro e
        exact h0 (UInt8.toNat_inj.1 (by show _ = 229; omega))
      have e0' : (((byteAt b 0).toNat : Int) == 229) = false := by
        rw [beq_eq_false_iff_ne]
        intro e
        exact h0 (UInt8.toNat_inj.1 (by show _ = 229; omega))
      have R := Lib.hid (size_none (b := b) (.inr (.inl h0)))
      clear hn h0
      go_enter Tryd.func21, Tryd.ntmps21
      go_wp2_with fail
      go_ret2
      rw [R.out.1, R.out.2]
      exact ⟨⟨_, rfl, .inr ⟨rfl, rfl, .inl rfl⟩⟩, Below.refl _ _⟩
end Go.Proofs.YtggoinjjdogmaaaDoor
