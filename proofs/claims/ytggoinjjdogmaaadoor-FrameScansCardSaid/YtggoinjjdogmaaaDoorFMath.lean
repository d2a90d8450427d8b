/-
  WHAT IS PROVED: plain facts: what a frame is of, out of the sum of what stands ahead of its last four bytes and of these. No program is spoken of.
-/
import Derived.Test.YtggoinjjdogmaaaDoorScanMath
import GoSem.Claim
namespace Go.Proofs.YtggoinjjdogmaaaDoor

/-- Four bytes as a number, the highest first. -/
def numF (b : List UInt8) (p : Nat) : Nat := 16777216 * (byteAt b p).toNat + 65536 * (byteAt b (p + 1)).toNat + 256 * (byteAt b (p + 2)).toNat + (byteAt b (p + 3)).toNat
theorem four_is {x : List UInt8} (h : x.length = 4) {c : Nat} (hc : c < 4294967296) : fourB c = x ↔ c = numF x 0 := by
  match x, h with
  | [a, b, d, e], _ =>
    have ha := a.toNat_lt
    have hb := b.toNat_lt
    have hd := d.toNat_lt
    have he := e.toNat_lt
    show fourB c = [a, b, d, e] ↔ c = 16777216 * a.toNat + 65536 * b.toNat + 256 * d.toNat + e.toNat
    unfold fourB
    constructor
    · intro h
      simp only [List.cons.injEq, and_true] at h
      obtain ⟨rfl, rfl, rfl, rfl⟩ := h
      rw [UInt8.toNat_ofNat', UInt8.toNat_ofNat', UInt8.toNat_ofNat', UInt8.toNat_ofNat']
      omega
    · intro h
      simp only [List.cons.injEq, and_true]
      refine ⟨UInt8.toNat_inj.1 ?_, UInt8.toNat_inj.1 ?_, UInt8.toNat_inj.1 ?_, UInt8.toNat_inj.1 ?_⟩
      all_goals
        rw [UInt8.toNat_ofNat']
        omega
theorem body_is {b : List UInt8} (h9 : 9 ≤ b.length) (h0 : byteAt b 0 = 229) (hl : lenF b + 9 ≤ b.length) : bodyL (byteAt b 1) ((b.drop 5).take (lenF b)) = b.take (lenF b + 5) := by
  match b, h9 with
  | x0 :: x1 :: x2 :: x3 :: x4 :: r, _ =>
    have hx0 : x0 = 229 := h0
    have h2 := x2.toNat_lt
    have h3 := x3.toNat_lt
    have h4 := x4.toNat_lt
    have hN : lenF (x0 :: x1 :: x2 :: x3 :: x4 :: r) = 65536 * x2.toNat + 256 * x3.toNat + x4.toNat := rfl
    rw [hN] at hl ⊢
    have hlen : (r.take (65536 * x2.toNat + 256 * x3.toNat + x4.toNat)).length = 65536 * x2.toNat + 256 * x3.toNat + x4.toNat := by
      rw [List.length_take]
      simp only [List.length_cons] at hl
      omega
    show bodyL x1 (r.take _) = x0 :: x1 :: x2 :: x3 :: x4 :: r.take _
    unfold bodyL
    rw [hlen, hx0]
    have e2 : UInt8.ofNat ((65536 * x2.toNat + 256 * x3.toNat + x4.toNat) / 65536) = x2 := UInt8.toNat_inj.1 (by rw [UInt8.toNat_ofNat']; omega)
    have e3 : UInt8.ofNat ((65536 * x2.toNat + 256 * x3.toNat + x4.toNat) / 256 % 256) = x3 := UInt8.toNat_inj.1 (by rw [UInt8.toNat_ofNat']; omega)
    have e4 : UInt8.ofNat ((65536 * x2.toNat + 256 * x3.toNat + x4.toNat) % 256) = x4 := UInt8.toNat_inj.1 (by rw [UInt8.toNat_ofNat']; omega)
    rw [e2, e3, e4]
    rfl
/-- What stands in bytes as long as a frame: the kind, the inside, what is wrong. -/
def unsF (y : List UInt8) : UInt8 × List UInt8 × Nat :=
  if crcL (y.take (y.length - 4)) = numF (y.drop (y.length - 4)) 0 then (byteAt y 1, (y.take (y.length - 4)).drop 5, 0) else (0, [], 4)
theorem numF_take {x : List UInt8} : numF (x.take 4) 0 = numF x 0 := by
  have g : ∀ i, i < 4 → byteAt (x.take 4) i = byteAt x i := fun i hi => by
    unfold byteAt
    rw [List.getD_eq_getElem?_getD, List.getD_eq_getElem?_getD, List.getElem?_take, if_pos hi]
  unfold numF
  rw [g 0 (by omega), g 1 (by omega), g 2 (by omega), g 3 (by omega)]
/-- .. is what is taken. -/
theorem uns_take {b : List UInt8} (h9 : 9 ≤ b.length) (h0 : byteAt b 0 = 229) (hm : lenF b ≤ 100000) (hl : lenF b + 9 ≤ b.length) : takeF b = ((unsF (b.take (lenF b + 9))).1, (unsF (b.take (lenF b + 9))).2.1, lenF b + 9, (unsF (b.take (lenF b + 9))).2.2) := by
  have hbody := body_is h9 h0 hl
  have hN : (b.take (lenF b + 9)).length = lenF b + 9 := by rw [List.length_take]; omega
  have h1 : byteAt (b.take (lenF b + 9)) 1 = byteAt b 1 := by
    unfold byteAt
    rw [List.getD_eq_getElem?_getD, List.getD_eq_getElem?_getD, List.getElem?_take, if_pos (by omega)]
  have h5 : (b.take (lenF b + 9)).take (lenF b + 5) = b.take (lenF b + 5) := by rw [List.take_take, Nat.min_eq_left (by omega)]
  have h4 : (b.take (lenF b + 9)).drop (lenF b + 5) = (b.drop (lenF b + 5)).take 4 := by rw [List.drop_take, show lenF b + 9 - (lenF b + 5) = 4 by omega]
  have hin : (b.take (lenF b + 5)).drop 5 = (b.drop 5).take (lenF b) := by rw [List.drop_take, Nat.add_sub_cancel]
  have hall : b.take (lenF b + 9) = b.take (lenF b + 5) ++ (b.drop (lenF b + 5)).take 4 := by
    rw [← h4, ← h5, List.take_append_drop]
  have hx4 : ((b.drop (lenF b + 5)).take 4).length = 4 := by rw [List.length_take, List.length_drop]; omega
  have hiff : sealL (byteAt b 1) ((b.drop 5).take (lenF b)) = b.take (lenF b + 9) ↔ crcL (b.take (lenF b + 5)) = numF (b.drop (lenF b + 5)) 0 := by
    unfold sealL
    rw [hbody, hall, List.append_cancel_left_eq, four_is hx4 (crcL_lt _), numF_take]
  unfold takeF unsF
  rw [if_neg (by rw [h0]; simp; omega), if_neg (by omega), hN, show lenF b + 9 - 4 = lenF b + 5 by omega, h5, h4, numF_take, h1, hin]
  by_cases h : crcL (b.take (lenF b + 5)) = numF (b.drop (lenF b + 5)) 0
  · rw [if_pos h, if_neg (fun k => k (hiff.2 h))]
  · rw [if_neg h, if_pos (fun k => h (hiff.1 k))]
end Go.Proofs.YtggoinjjdogmaaaDoor
