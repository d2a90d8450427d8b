/-
  WHAT IS PROVED: plain facts: four bits of the sum CRC-32C at once, by a table of sixteen numbers; the sixteen numbers. No program is spoken of.
-/
import Derived.Test.YtggoinjjdogmaaaDoorCrcMath
import GoSem.Claim
namespace Go.Proofs.YtggoinjjdogmaaaDoor

theorem crcStep_xor (a b : Nat) : crcStep (a ^^^ b) = crcStep a ^^^ crcStep b := by
  unfold crcStep
  have h := @Nat.xor_mod_two_eq_one a b
  rw [Nat.xor_div_two]
  by_cases ha : a % 2 = 1
  · by_cases hb : b % 2 = 1
    · rw [if_pos ha, if_pos hb, if_neg (by simp [h, ha, hb])]
      rw [Nat.xor_assoc, ← Nat.xor_assoc 2197175160, Nat.xor_comm 2197175160 (b / 2), Nat.xor_assoc (b / 2), Nat.xor_self, Nat.xor_zero]
    · rw [if_pos ha, if_neg hb, if_pos (by rw [h]; simp [ha, hb])]
      rw [Nat.xor_assoc, Nat.xor_comm (b / 2), ← Nat.xor_assoc]
  · by_cases hb : b % 2 = 1
    · rw [if_neg ha, if_pos hb, if_pos (by rw [h]; simp [ha, hb])]
      rw [Nat.xor_assoc]
    · rw [if_neg ha, if_neg hb, if_neg (by simp [h, ha, hb])]
theorem crcSteps_xor : ∀ (k a b : Nat), crcSteps k (a ^^^ b) = crcSteps k a ^^^ crcSteps k b
  | 0, _, _ => rfl
  | k + 1, a, b => by
    show crcSteps k (crcStep (a ^^^ b)) = crcSteps k (crcStep a) ^^^ crcSteps k (crcStep b)
    rw [crcStep_xor, crcSteps_xor k]
/-- So many bits at once. -/
theorem crcSteps_low : ∀ (k c : Nat), crcSteps k c = (c / 2 ^ k) ^^^ crcSteps k (c % 2 ^ k)
  | 0, c => by
    show c = (c / 1) ^^^ (c % 1)
    rw [Nat.div_one, Nat.mod_one, Nat.xor_zero]
  | k + 1, c => by
    have e1 : c % (2 * 2 ^ k) % 2 = c % 2 := Nat.mod_mul_right_mod c 2 (2 ^ k)
    have e2 : c % (2 * 2 ^ k) / 2 = c / 2 % 2 ^ k := Nat.mod_mul_right_div_self c 2 (2 ^ k)
    have e3 : c / 2 / 2 ^ k = c / (2 * 2 ^ k) := Nat.div_div_eq_div_mul c 2 (2 ^ k)
    show crcSteps k (crcStep c) = (c / 2 ^ (k + 1)) ^^^ crcSteps k (crcStep (c % 2 ^ (k + 1)))
    rw [Nat.pow_succ, Nat.mul_comm (2 ^ k) 2]
    unfold crcStep
    rw [e1, e2]
    by_cases h : c % 2 = 1
    · rw [if_pos h, if_pos h, crcSteps_xor, crcSteps_xor, crcSteps_low k (c / 2), e3, Nat.xor_assoc]
    · rw [if_neg h, if_neg h, crcSteps_low k (c / 2), e3]
theorem crcSteps_add : ∀ (j k c : Nat), crcSteps (j + k) c = crcSteps k (crcSteps j c)
  | 0, k, c => by rw [Nat.zero_add]; rfl
  | j + 1, k, c => by
    rw [show j + 1 + k = (j + k) + 1 by omega]
    exact crcSteps_add j k (crcStep c)
/-- Four bits. -/
theorem nib (c : Nat) : crcSteps 4 c = (c / 16) ^^^ crcSteps 4 (c % 16) := crcSteps_low 4 c
theorem crcByte_nib (c : Nat) (b : UInt8) : crcByte c b = crcSteps 4 (crcSteps 4 (c ^^^ b.toNat)) := crcSteps_add 4 4 _
/-- The table. -/
def nibT : Array Nat := #[0, 274646895, 549293790, 820201905, 1098587580, 1361435347, 1640403810, 1905808397, 2197175160, 2460548119, 2722870694, 2987750089, 3280807620, 3553878443, 3811616794, 4084100981]
theorem nibT_is : ∀ i : Fin 16, nibT[i.val]? = some (crcSteps 4 i.val) := by decide +kernel
theorem nibT_at {i : Nat} (h : i < 16) : nibT[i]? = some (crcSteps 4 i) := nibT_is ⟨i, h⟩
end Go.Proofs.YtggoinjjdogmaaaDoor
