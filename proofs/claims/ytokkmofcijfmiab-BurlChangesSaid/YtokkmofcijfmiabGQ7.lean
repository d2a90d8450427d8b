/-
  WHAT IS PROVED: plain facts: what is put of a good value, a good write, good writes, is taken again, whatever stands behind it. · plain facts on the order of lists of bytes and of values. No program. No condition.
-/
import Derived.Test.YtokkmofcijfmiabGQ5
import Derived.Test.YtokkmofcijfmiabGQ6
import Derived.Lib.Bytealg
import Derived.Lib.Small
namespace Go.Proofs.Ytokkmofcijfmiab
open Go.RowKit

theorem take_val {k n : Int} {s : ByteArray} (r : List UInt8) (h : goodB k n s = true) (h0 : -9223372036854775808 ≤ n) (h1 : n ≤ 9223372036854775807) :
    takeValB (valB k n s.data.toList ++ r) = ((k, n, s.data.toList), (valB k n s.data.toList).length) := by
  have hl : s.data.toList.length = s.size := Array.length_toList
  unfold goodB at h
  rw [decide_eq_true_eq] at h
  rcases h with ⟨rfl, rfl, hs⟩ | ⟨rfl, hs⟩ | ⟨rfl, rfl, hs⟩
  · have e : s.data.toList = [] := List.length_eq_zero_iff.1 (by omega)
    rw [e, valB_0]
    unfold takeValB
    rw [take_num r (by omega) (by omega)]
    unfold takeValC
    rw [if_pos (Or.inr rfl)]
  · have e : s.data.toList = [] := List.length_eq_zero_iff.1 (by omega)
    rw [e, valB_1]
    unfold takeValB
    rw [List.append_assoc, take_num _ (by omega) (by omega)]
    have hp := numB_len 1
    have hz := numB_len (zig n)
    unfold takeValC
    rw [if_neg (by simp only; omega), if_pos rfl]
    simp only [List.drop_left]
    rw [take_int r h0 h1, if_neg (by simp only; omega), List.length_append]
  · rw [valB_2]
    unfold takeValB
    rw [List.append_assoc, take_num _ (by omega) (by omega)]
    have hp := numB_len 2
    have ht : (textB s.data.toList).length ≠ 0 := by unfold textB; rw [List.length_append, numB_len]; omega
    unfold takeValC
    rw [if_neg (by simp only; omega), if_neg (by decide)]
    simp only [List.drop_left]
    rw [take_text r (by omega) (by omega), if_neg (by simp only; exact ht), List.length_append]
theorem drop_pre {P R : List UInt8} {n : Nat} (h : n = P.length) : (P ++ R).drop n = R := by rw [h, List.drop_left]
set_option maxRecDepth 100000 in
theorem take_wr {x : Wr} (r : List UInt8) (h : x.good = true) (hf : x.fits) : takeWrB (wB x ++ r) = (x, (wB x).length) := by
  obtain ⟨h1, h2, h3, h4, h5, h6⟩ := good_in h
  obtain ⟨f0, f1, f2, f3, f4⟩ := hf
  have hg := h
  unfold Wr.good wrGoodB opB at hg
  simp only [Bool.and_eq_true, decide_eq_true_eq] at hg
  obtain ⟨_, ⟨⟨_, ga⟩, gb⟩, _⟩ := hg
  have hk : x.ky.data.toList.length = x.ky.size := Array.length_toList
  have eL : wB x ++ r = numB x.dev.toNat ++ (numB x.seq.toNat ++ (numB x.K.toNat ++ (textB x.ky.data.toList ++ (valB x.ka x.na x.sa.data.toList ++ (valB x.kb x.nb x.sb.data.toList ++ r))))) := by
    unfold wB wrB
    simp only [List.append_assoc]
  have eN : (wB x).length = (numB x.dev.toNat).length + (numB x.seq.toNat).length + (numB x.K.toNat).length + (textB x.ky.data.toList).length + (valB x.ka x.na x.sa.data.toList).length + (valB x.kb x.nb x.sb.data.toList).length := by
    unfold wB wrB
    simp only [List.length_append]
  have tv1 := fun r => take_val (k := x.ka) (n := x.na) (s := x.sa) r ga f3.1 f3.2
  have tv2 := fun r => take_val (k := x.kb) (n := x.nb) (s := x.sb) r gb f4.1 f4.2
  have tt := fun r => take_text (s := x.ky.data.toList) (most := 20) r (by omega) (by omega)
  have t0 := fun r => take_num (n := x.dev.toNat) (most := 1000) r (by omega) (by omega)
  have t1 := fun r => take_num (n := x.seq.toNat) (most := 1000) r (by omega) (by omega)
  have t2 := fun r => take_num (n := x.K.toNat) (most := 1000) r (by omega) (by omega)
  have l0 := numB_len x.dev.toNat
  have l1 := numB_len x.seq.toNat
  have l2 := numB_len x.K.toNat
  have l3 : (textB x.ky.data.toList).length ≠ 0 := by unfold textB; rw [List.length_append, numB_len]; omega
  have l4 : (valB x.ka x.na x.sa.data.toList).length ≠ 0 := by unfold valB; rw [List.length_append, numB_len]; omega
  have l5 : (valB x.kb x.nb x.sb.data.toList).length ≠ 0 := by unfold valB; rw [List.length_append, numB_len]; omega
  have e0 : (x.dev.toNat : Int) = x.dev := Int.toNat_of_nonneg (by omega)
  have e1 : (x.seq.toNat : Int) = x.seq := Int.toNat_of_nonneg (by omega)
  have e2 : (x.K.toNat : Int) = x.K := Int.toNat_of_nonneg (by omega)
  rw [eN, eL]
  clear eL eN
  generalize numB x.dev.toNat = D at t0 l0 ⊢
  generalize numB x.seq.toNat = Q at t1 l1 ⊢
  generalize numB x.K.toNat = K at t2 l2 ⊢
  generalize textB x.ky.data.toList = T at tt l3 ⊢
  generalize valB x.ka x.na x.sa.data.toList = VA at tv1 l4 ⊢
  generalize valB x.kb x.nb x.sb.data.toList = VB at tv2 l5 ⊢
  generalize hLL : D ++ (Q ++ (K ++ (T ++ (VA ++ (VB ++ r))))) = L
  have n0 : numW L 0 = (x.dev.toNat, D.length) := by
    show takeNum (L.drop 0) 1000 = _
    rw [List.drop_zero, ← hLL, t0]
  have p1 : posW L 1 = D.length := by rw [posW_succ, n0]; show 0 + _ = _; simp
  have n1 : numW L 1 = (x.seq.toNat, Q.length) := by
    show takeNum (L.drop (posW L 1)) 1000 = _
    rw [p1, ← hLL, List.drop_left, t1]
  have p2 : posW L 2 = D.length + Q.length := by rw [posW_succ, n1, p1]
  have n2 : numW L 2 = (x.K.toNat, K.length) := by
    show takeNum (L.drop (posW L 2)) 1000 = _
    rw [p2, ← hLL, ← List.drop_drop, List.drop_left, List.drop_left, t2]
  have p3 : posW L 3 = D.length + Q.length + K.length := by rw [posW_succ, n2, p2]
  have n3 : textW L = (x.ky.data.toList, T.length) := by
    unfold textW
    rw [p3, ← hLL, ← List.drop_drop, ← List.drop_drop, List.drop_left, List.drop_left, List.drop_left, tt]
  have n4 : val1W L = ((x.ka, x.na, x.sa.data.toList), VA.length) := by
    unfold val1W
    rw [p3, n3, ← hLL, ← List.drop_drop, ← List.drop_drop, ← List.drop_drop, List.drop_left, List.drop_left, List.drop_left, List.drop_left, tv1]
  have n5 : val2W L = ((x.kb, x.nb, x.sb.data.toList), VB.length) := by
    unfold val2W
    rw [p3, n3, n4, ← hLL, ← List.drop_drop, ← List.drop_drop, ← List.drop_drop, ← List.drop_drop, List.drop_left, List.drop_left, List.drop_left, List.drop_left, List.drop_left, tv2]
  have hgot : gotW L = x := by
    unfold gotW
    rw [n0, n1, n2, n3, n4, n5]
    simp only [e0, e1, e2]
  have hs : stdW L := by
    refine ⟨fun m hm => ?_, by rw [n3]; exact l3, by rw [n4]; exact l4, by rw [n5]; exact l5, by rw [hgot]; exact h⟩
    have e : m = 0 ∨ m = 1 ∨ m = 2 := by omega
    rcases e with rfl | rfl | rfl
    · rw [n0]; show D.length ≠ 0; omega
    · rw [n1]; show Q.length ≠ 0; omega
    · rw [n2]; show K.length ≠ 0; omega
  rw [takeWr_yes hs, hgot, p3, n3, n4, n5]
theorem nth_put {l : List Wr} {most : Nat} (r : List UInt8) (hn : l.length < 18446744073709551616) (hm : l.length ≤ most) (hg : ∀ x, x ∈ l → x.fits ∧ x.good = true) :
    ∀ j, j ≤ l.length → posWs (wsB l ++ r) most j = (numB l.length).length + ((l.take j).flatMap wB).length ∧ listWs (wsB l ++ r) most j = l.take j ∧ (∀ q x, q < j → l[q]? = some x → nthWs (wsB l ++ r) most q = (x, (wB x).length)) := by
  have hT : takeNum (wsB l ++ r) most = (l.length, (numB l.length).length) := by
    unfold wsB
    rw [List.append_assoc, take_num _ hn hm]
  intro j
  induction j with
  | zero =>
    intro _
    refine ⟨?_, rfl, fun q x hq => by omega⟩
    show (takeNum (wsB l ++ r) most).2 = _
    rw [hT]
    simp
  | succ j ih =>
    intro hj
    obtain ⟨h1, h2, h3⟩ := ih (by omega)
    have hx : l[j]? = some l[j] := List.getElem?_eq_getElem (by omega)
    generalize l[j] = x at hx
    have hxg := hg x (List.mem_of_getElem? hx)
    have hd : l.drop j = x :: l.drop (j + 1) := by
      rw [List.drop_eq_getElem_cons (by omega)]
      congr 1
      rw [List.getElem?_eq_getElem (by omega)] at hx
      injection hx
    have hL : (wsB l ++ r).drop (posWs (wsB l ++ r) most j) = wB x ++ ((l.drop (j + 1)).flatMap wB ++ r) := by
      have e : wsB l ++ r = numB l.length ++ ((l.take j).flatMap wB ++ ((l.drop j).flatMap wB ++ r)) := by
        unfold wsB
        rw [← List.append_assoc ((l.take j).flatMap wB), ← List.flatMap_append, List.take_append_drop, List.append_assoc]
      rw [h1, e, ← List.drop_drop, List.drop_left, List.drop_left, hd]
      simp
    have hN : nthWs (wsB l ++ r) most j = (x, (wB x).length) := by
      unfold nthWs
      rw [hL, take_wr _ hxg.2 hxg.1]
    have ht : l.take (j + 1) = l.take j ++ [x] := by
      rw [List.take_add_one, hx]
      rfl
    refine ⟨?_, ?_, fun q y hq hy => ?_⟩
    · rw [posWs_succ, hN, h1, ht, List.flatMap_append, List.length_append]
      simp
      omega
    · show listWs (wsB l ++ r) most j ++ [(nthWs (wsB l ++ r) most j).1] = _
      rw [h2, hN, ht]
    · by_cases e : q = j
      · subst e
        rw [hx] at hy
        injection hy with hy
        subst hy
        exact hN
      · exact h3 q y (by omega) hy
/-- Writes put are taken again. -/
theorem take_wrs {l : List Wr} {most : Nat} (r : List UInt8) (hn : l.length < 18446744073709551616) (hm : l.length ≤ most) (hg : ∀ x, x ∈ l → x.fits ∧ x.good = true) : takeWrsB (wsB l ++ r) most = (l, (wsB l).length) := by
  have hT : takeNum (wsB l ++ r) most = (l.length, (numB l.length).length) := by
    unfold wsB
    rw [List.append_assoc, take_num _ hn hm]
  obtain ⟨h1, h2, h3⟩ := nth_put (most := most) r hn hm hg l.length (Nat.le_refl _)
  rw [takeWrs_yes, hT, h1, h2, List.take_length]
  · unfold wsB
    rw [List.length_append]
  · refine ⟨by rw [hT, numB_len]; simp only; omega, fun j hj => ?_⟩
    rw [hT] at hj
    have hx : l[j]? = some l[j] := List.getElem?_eq_getElem hj
    generalize l[j] = x at hx
    rw [h3 j x hj hx]
    show (wB x).length ≠ 0
    unfold wB wrB
    simp only [List.length_append, numB_len]
    omega
/-- What a reader takes of what was put. -/
theorem wrOf_put {x : Wr} (r : List UInt8) (h : x.good = true) (hf : x.fits) : wrOf (some (wB x ++ r)) = (x, some r) := by
  have hne : (wB x).length ≠ 0 := by
    unfold wB wrB
    simp only [List.length_append, numB_len]
    omega
  unfold wrOf
  simp only [take_wr r h hf, hne, if_false, List.drop_left]
theorem wrsOf_put {l : List Wr} {most : Nat} (r : List UInt8) (hn : l.length < 18446744073709551616) (hm : l.length ≤ most) (hg : ∀ x, x ∈ l → x.fits ∧ x.good = true) : wrsOf (some (wsB l ++ r)) most = (l, some r) := by
  have hne : (wsB l).length ≠ 0 := by
    unfold wsB
    rw [List.length_append, numB_len]
    omega
  unfold wrsOf
  simp only [take_wrs r hn hm hg, hne, if_false, List.drop_left]
end Go.Proofs.Ytokkmofcijfmiab

namespace Go.Proofs.Ytokkmofcijfmiab
open Go

theorem cmpB_swap : ∀ a b : List UInt8, Lib.compareBytes b a = - Lib.compareBytes a b
  | [], [] => rfl
  | [], _ :: _ => rfl
  | _ :: _, [] => rfl
  | a :: as1, b :: bs => by
    have ih := cmpB_swap as1 bs
    simp only [Lib.compareBytes]
    by_cases h : a < b
    · have h' : ¬ b < a := by rw [UInt8.lt_iff_toNat_lt] at *; omega
      simp [h, h']
    · by_cases h' : b < a
      · simp [h, h']
      · simp [h, h', ih]

theorem cmpB_cases : ∀ a b : List UInt8, Lib.compareBytes a b = -1 ∨ Lib.compareBytes a b = 0 ∨ Lib.compareBytes a b = 1
  | [], [] => by simp [Lib.compareBytes]
  | [], _ :: _ => by simp [Lib.compareBytes]
  | _ :: _, [] => by simp [Lib.compareBytes]
  | a :: as1, b :: bs => by
    have ih := cmpB_cases as1 bs
    simp only [Lib.compareBytes]
    by_cases h : a < b
    · simp [h]
    · by_cases h' : b < a
      · simp [h, h']
      · simpa [h, h'] using ih

theorem cmpB_zero : ∀ a b : List UInt8, Lib.compareBytes a b = 0 → a = b
  | [], [] => fun _ => rfl
  | [], _ :: _ => fun h => by simp [Lib.compareBytes] at h
  | _ :: _, [] => fun h => by simp [Lib.compareBytes] at h
  | a :: as1, b :: bs => fun h => by
    have ih := cmpB_zero as1 bs
    simp only [Lib.compareBytes] at h
    by_cases h1 : a < b
    · simp [h1] at h
    · by_cases h2 : b < a
      · simp [h1, h2] at h
      · simp only [h1, h2, if_false] at h
        have hab : a = b := by
          rw [UInt8.lt_iff_toNat_lt] at *
          exact UInt8.toNat_inj.1 (by omega)
        rw [hab, ih h]

theorem cmpB_refl : ∀ a : List UInt8, Lib.compareBytes a a = 0
  | [] => rfl
  | a :: as1 => by
    have h : ¬ a < a := by rw [UInt8.lt_iff_toNat_lt]; omega
    simp [Lib.compareBytes, h, cmpB_refl as1]

theorem cmpB_trans : ∀ a b c : List UInt8, Lib.compareBytes a b = -1 → Lib.compareBytes b c = -1 → Lib.compareBytes a c = -1
  | [], [], c => fun h _ => by simp [Lib.compareBytes] at h
  | [], _ :: _, [] => fun _ h => by simp [Lib.compareBytes] at h
  | [], _ :: _, _ :: _ => fun _ _ => rfl
  | _ :: _, [], _ => fun h _ => by simp [Lib.compareBytes] at h
  | _ :: _, _ :: _, [] => fun _ h => by simp [Lib.compareBytes] at h
  | a :: as1, b :: bs, c :: cs => fun h k => by
    have ih := cmpB_trans as1 bs cs
    simp only [Lib.compareBytes] at h k ⊢
    by_cases h1 : a < b
    · by_cases k1 : b < c
      · have : a < c := by rw [UInt8.lt_iff_toNat_lt] at *; omega
        simp [this]
      · by_cases k2 : c < b
        · simp [k1, k2] at k
        · have : a < c := by rw [UInt8.lt_iff_toNat_lt] at *; omega
          simp [this]
    · by_cases h2 : b < a
      · simp [h1, h2] at h
      · simp only [h1, h2, if_false] at h
        by_cases k1 : b < c
        · have : a < c := by rw [UInt8.lt_iff_toNat_lt] at *; omega
          simp [this]
        · by_cases k2 : c < b
          · simp [k1, k2] at k
          · simp only [k1, k2, if_false] at k
            have e1 : ¬ a < c := by rw [UInt8.lt_iff_toNat_lt] at *; omega
            have e2 : ¬ c < a := by rw [UInt8.lt_iff_toNat_lt] at *; omega
            simp only [e1, e2, if_false]
            exact ih h k

/-- The document's order of good values: the kind, the number, the text. -/
def ordV (ka na kb nb : Int) (sa sb : List UInt8) : Int :=
  if ka ≠ kb then Lib.compareInt ka kb else if ka = 1 then Lib.compareInt na nb else if ka = 2 then Lib.compareBytes sa sb else 0

theorem cmpI_swap (a b : Int) : Lib.compareInt b a = - Lib.compareInt a b := by
  unfold Lib.compareInt
  repeat' split
  all_goals omega
theorem cmpI_cases (a b : Int) : Lib.compareInt a b = -1 ∨ Lib.compareInt a b = 0 ∨ Lib.compareInt a b = 1 := by
  unfold Lib.compareInt
  repeat' split
  all_goals omega
theorem cmpI_zero {a b : Int} (h : Lib.compareInt a b = 0) : a = b := by
  unfold Lib.compareInt at h
  repeat' split at h
  all_goals omega
theorem cmpI_lt {a b : Int} (h : Lib.compareInt a b = -1) : a < b := by
  unfold Lib.compareInt at h
  repeat' split at h
  all_goals omega
theorem cmpI_of_lt {a b : Int} (h : a < b) : Lib.compareInt a b = -1 := by simp [Lib.compareInt, h]

theorem ordV_swap (ka na kb nb : Int) (sa sb : List UInt8) : ordV kb nb ka na sb sa = - ordV ka na kb nb sa sb := by
  unfold ordV
  by_cases h : ka = kb
  · subst h
    simp only [ne_eq, not_true_eq_false, if_false]
    by_cases h1 : ka = 1
    · simp only [h1, if_true]; exact cmpI_swap _ _
    · by_cases h2 : ka = 2
      · simp only [h2]; exact cmpB_swap _ _
      · simp [h1, h2]
  · have h' : ¬ kb = ka := fun e => h e.symm
    simp only [ne_eq, h, h', not_false_eq_true, if_true]
    exact cmpI_swap _ _
theorem ordV_cases (ka na kb nb : Int) (sa sb : List UInt8) : ordV ka na kb nb sa sb = -1 ∨ ordV ka na kb nb sa sb = 0 ∨ ordV ka na kb nb sa sb = 1 := by
  unfold ordV
  split
  · exact cmpI_cases _ _
  · split
    · exact cmpI_cases _ _
    · split
      · exact cmpB_cases _ _
      · simp

/-- What a good value is, in plain words. -/
def GoodV (k n : Int) (s : List UInt8) : Prop := (k = 0 ∧ n = 0 ∧ s = []) ∨ (k = 1 ∧ s = []) ∨ (k = 2 ∧ n = 0)

theorem ordV_zero {ka na kb nb : Int} {sa sb : List UInt8} (ga : GoodV ka na sa) (gb : GoodV kb nb sb) (h : ordV ka na kb nb sa sb = 0) : ka = kb ∧ na = nb ∧ sa = sb := by
  unfold ordV at h
  by_cases e : ka = kb
  · subst e
    simp only [ne_eq, not_true_eq_false, if_false] at h
    rcases ga with ⟨rfl, rfl, rfl⟩ | ⟨rfl, rfl⟩ | ⟨rfl, rfl⟩
    · rcases gb with ⟨_, rfl, rfl⟩ | ⟨h1, _⟩ | ⟨h1, _⟩
      · exact ⟨rfl, rfl, rfl⟩
      · omega
      · omega
    · rcases gb with ⟨h1, _⟩ | ⟨_, rfl⟩ | ⟨h1, _⟩
      · omega
      · simp only [if_true] at h
        exact ⟨rfl, cmpI_zero h, rfl⟩
      · omega
    · rcases gb with ⟨h1, _⟩ | ⟨h1, _⟩ | ⟨_, rfl⟩
      · omega
      · omega
      · exact ⟨rfl, rfl, cmpB_zero _ _ (by simpa using h)⟩
  · simp only [ne_eq, e, not_false_eq_true, if_true] at h
    exact absurd (cmpI_zero h) e
theorem ordV_refl (ka na : Int) (sa : List UInt8) : ordV ka na ka na sa sa = 0 := by
  unfold ordV
  simp [cmpB_refl, Lib.compareInt]
theorem ordV_trans {ka na kb nb kc nc : Int} {sa sb sc : List UInt8} (h : ordV ka na kb nb sa sb = -1) (k : ordV kb nb kc nc sb sc = -1) : ordV ka na kc nc sa sc = -1 := by
  unfold ordV at *
  by_cases e : ka = kb
  · subst e
    simp only [ne_eq, not_true_eq_false, if_false] at h
    by_cases f : ka = kc
    · subst f
      simp only [ne_eq, not_true_eq_false, if_false] at k ⊢
      by_cases h1 : ka = 1
      · simp only [h1, if_true] at h k ⊢
        have := cmpI_lt h
        have := cmpI_lt k
        exact cmpI_of_lt (by omega)
      · by_cases h2 : ka = 2
        · subst h2
          exact cmpB_trans _ _ _ h k
        · simp [h1, h2] at h
    · simp only [ne_eq, f, not_false_eq_true, if_true] at k ⊢
      exact k
  · simp only [ne_eq, e, not_false_eq_true, if_true] at h
    by_cases f : kb = kc
    · subst f
      simp only [ne_eq, e, not_false_eq_true, if_true]
      exact h
    · simp only [ne_eq, f, not_false_eq_true, if_true] at k
      have h1 := cmpI_lt h
      have h2 := cmpI_lt k
      have h3 : ¬ ka = kc := by omega
      simp only [ne_eq, h3, not_false_eq_true, if_true]
      exact cmpI_of_lt (by omega)
end Go.Proofs.Ytokkmofcijfmiab
