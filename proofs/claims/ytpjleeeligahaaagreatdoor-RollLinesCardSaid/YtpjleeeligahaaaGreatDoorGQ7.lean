/-
  WHAT IS PROVED: plain facts: what is put of a good value, a good write, good writes, is taken again, whatever stands behind it. · plain facts on the order of lists of bytes and of values. No program. No condition. · plain facts on reaches: lists of prefixes that rise, none the beginning of another one; what is made of any prefixes; what both have. No program. No condition. · more words for a row of strings that the call owns: where it lies, that it may be written, a store into it. Over any program. · strings.Clone answers the same text. Conditions: those typed in the theorem. · spinneyref04.begins tells whether a text begins another one, for every two. Conditions: those typed in each theorem.
-/
import Derived.Test.YtpjleeeligahaaaGreatDoorGQ5
import Derived.Test.YtpjleeeligahaaaGreatDoorGQ6
import Derived.Lib.Bytealg
import Derived.Lib.Small
import Derived.Test.YtpjleeeligahaaaGreatDoorGQ1
import Derived.Test.YtpjleeeligahaaaGreatDoorGQ0
import Derived.Test.YtpjleeeligahaaaGreatDoorShelf
import Derived.Laws.Strings
namespace Go.Proofs.YtpjleeeligahaaaGreatDoor
open Go.RowKit

theorem take_val {k n : Int} {s : ByteArray} (r : List UInt8) (h : goodB k n s = true) (h0 : -9223372036854775808 ≤ n) (h1 : n ≤ 9223372036854775807) :
    takeValB (valB k n s.data.toList ++ r) = ((k, n, s.data.toList), (valB k n s.data.toList).length) := by
  have hl : s.data.toList.length = s.size := Array.length_toList
  unfold goodB at h
  rw [decide_eq_true_eq] at h
  rcases h with ⟨rfl, rfl, hs⟩ | ⟨rfl, hs⟩ | ⟨rfl, rfl, hs⟩
  · have e : s.data.toList = [] := List.length_eq_zero_iff.1 (by omega)
    rw [e, valB_0]
    unfold takeValB
    rw [take_num r (by omega) (by omega)]
    unfold takeValC
    rw [if_pos (Or.inr rfl)]
  · have e : s.data.toList = [] := List.length_eq_zero_iff.1 (by omega)
    rw [e, valB_1]
    unfold takeValB
    rw [List.append_assoc, take_num _ (by omega) (by omega)]
    have hp := numB_len 1
    have hz := numB_len (zig n)
    unfold takeValC
    rw [if_neg (by simp only; omega), if_pos rfl]
    simp only [List.drop_left]
    rw [take_int r h0 h1, if_neg (by simp only; omega), List.length_append]
  · rw [valB_2]
    unfold takeValB
    rw [List.append_assoc, take_num _ (by omega) (by omega)]
    have hp := numB_len 2
    have ht : (textB s.data.toList).length ≠ 0 := by unfold textB; rw [List.length_append, numB_len]; omega
    unfold takeValC
    rw [if_neg (by simp only; omega), if_neg (by decide)]
    simp only [List.drop_left]
    rw [take_text r (by omega) (by omega), if_neg (by simp only; exact ht), List.length_append]
theorem drop_pre {P R : List UInt8} {n : Nat} (h : n = P.length) : (P ++ R).drop n = R := by rw [h, List.drop_left]
set_option maxRecDepth 100000 in
theorem take_wr {x : Wr} (r : List UInt8) (h : x.good = true) (hf : x.fits) : takeWrB (wB x ++ r) = (x, (wB x).length) := by
  obtain ⟨h1, h2, h3, h4, h5, h6⟩ := good_in h
  obtain ⟨f0, f1, f2, f3, f4⟩ := hf
  have hg := h
  unfold Wr.good wrGoodB opB at hg
  simp only [Bool.and_eq_true, decide_eq_true_eq] at hg
  obtain ⟨_, ⟨⟨_, ga⟩, gb⟩, _⟩ := hg
  have hk : x.ky.data.toList.length = x.ky.size := Array.length_toList
  have eL : wB x ++ r = numB x.dev.toNat ++ (numB x.seq.toNat ++ (numB x.K.toNat ++ (textB x.ky.data.toList ++ (valB x.ka x.na x.sa.data.toList ++ (valB x.kb x.nb x.sb.data.toList ++ r))))) := by
    unfold wB wrB
    simp only [List.append_assoc]
  have eN : (wB x).length = (numB x.dev.toNat).length + (numB x.seq.toNat).length + (numB x.K.toNat).length + (textB x.ky.data.toList).length + (valB x.ka x.na x.sa.data.toList).length + (valB x.kb x.nb x.sb.data.toList).length := by
    unfold wB wrB
    simp only [List.length_append]
  have tv1 := fun r => take_val (k := x.ka) (n := x.na) (s := x.sa) r ga f3.1 f3.2
  have tv2 := fun r => take_val (k := x.kb) (n := x.nb) (s := x.sb) r gb f4.1 f4.2
  have tt := fun r => take_text (s := x.ky.data.toList) (most := 20) r (by omega) (by omega)
  have t0 := fun r => take_num (n := x.dev.toNat) (most := 1000) r (by omega) (by omega)
  have t1 := fun r => take_num (n := x.seq.toNat) (most := 1000) r (by omega) (by omega)
  have t2 := fun r => take_num (n := x.K.toNat) (most := 1000) r (by omega) (by omega)
  have l0 := numB_len x.dev.toNat
  have l1 := numB_len x.seq.toNat
  have l2 := numB_len x.K.toNat
  have l3 : (textB x.ky.data.toList).length ≠ 0 := by unfold textB; rw [List.length_append, numB_len]; omega
  have l4 : (valB x.ka x.na x.sa.data.toList).length ≠ 0 := by unfold valB; rw [List.length_append, numB_len]; omega
  have l5 : (valB x.kb x.nb x.sb.data.toList).length ≠ 0 := by unfold valB; rw [List.length_append, numB_len]; omega
  have e0 : (x.dev.toNat : Int) = x.dev := Int.toNat_of_nonneg (by omega)
  have e1 : (x.seq.toNat : Int) = x.seq := Int.toNat_of_nonneg (by omega)
  have e2 : (x.K.toNat : Int) = x.K := Int.toNat_of_nonneg (by omega)
  rw [eN, eL]
  clear eL eN
  generalize numB x.dev.toNat = D at t0 l0 ⊢
  generalize numB x.seq.toNat = Q at t1 l1 ⊢
  generalize numB x.K.toNat = K at t2 l2 ⊢
  generalize textB x.ky.data.toList = T at tt l3 ⊢
  generalize valB x.ka x.na x.sa.data.toList = VA at tv1 l4 ⊢
  generalize valB x.kb x.nb x.sb.data.toList = VB at tv2 l5 ⊢
  generalize hLL : D ++ (Q ++ (K ++ (T ++ (VA ++ (VB ++ r))))) = L
  have n0 : numW L 0 = (x.dev.toNat, D.length) := by
    show takeNum (L.drop 0) 1000 = _
    rw [List.drop_zero, ← hLL, t0]
  have p1 : posW L 1 = D.length := by rw [posW_succ, n0]; show 0 + _ = _; simp
  have n1 : numW L 1 = (x.seq.toNat, Q.length) := by
    show takeNum (L.drop (posW L 1)) 1000 = _
    rw [p1, ← hLL, List.drop_left, t1]
  have p2 : posW L 2 = D.length + Q.length := by rw [posW_succ, n1, p1]
  have n2 : numW L 2 = (x.K.toNat, K.length) := by
    show takeNum (L.drop (posW L 2)) 1000 = _
    rw [p2, ← hLL, ← List.drop_drop, List.drop_left, List.drop_left, t2]
  have p3 : posW L 3 = D.length + Q.length + K.length := by rw [posW_succ, n2, p2]
  have n3 : textW L = (x.ky.data.toList, T.length) := by
    unfold textW
    rw [p3, ← hLL, ← List.drop_drop, ← List.drop_drop, List.drop_left, List.drop_left, List.drop_left, tt]
  have n4 : val1W L = ((x.ka, x.na, x.sa.data.toList), VA.length) := by
    unfold val1W
    rw [p3, n3, ← hLL, ← List.drop_drop, ← List.drop_drop, ← List.drop_drop, List.drop_left, List.drop_left, List.drop_left, List.drop_left, tv1]
  have n5 : val2W L = ((x.kb, x.nb, x.sb.data.toList), VB.length) := by
    unfold val2W
    rw [p3, n3, n4, ← hLL, ← List.drop_drop, ← List.drop_drop, ← List.drop_drop, ← List.drop_drop, List.drop_left, List.drop_left, List.drop_left, List.drop_left, List.drop_left, tv2]
  have hgot : gotW L = x := by
    unfold gotW
    rw [n0, n1, n2, n3, n4, n5]
    simp only [e0, e1, e2]
  have hs : stdW L := by
    refine ⟨fun m hm => ?_, by rw [n3]; exact l3, by rw [n4]; exact l4, by rw [n5]; exact l5, by rw [hgot]; exact h⟩
    have e : m = 0 ∨ m = 1 ∨ m = 2 := by omega
    rcases e with rfl | rfl | rfl
    · rw [n0]; show D.length ≠ 0; omega
    · rw [n1]; show Q.length ≠ 0; omega
    · rw [n2]; show K.length ≠ 0; omega
  rw [takeWr_yes hs, hgot, p3, n3, n4, n5]
theorem nth_put {l : List Wr} {most : Nat} (r : List UInt8) (hn : l.length < 18446744073709551616) (hm : l.length ≤ most) (hg : ∀ x, x ∈ l → x.fits ∧ x.good = true) :
    ∀ j, j ≤ l.length → posWs (wsB l ++ r) most j = (numB l.length).length + ((l.take j).flatMap wB).length ∧ listWs (wsB l ++ r) most j = l.take j ∧ (∀ q x, q < j → l[q]? = some x → nthWs (wsB l ++ r) most q = (x, (wB x).length)) := by
  have hT : takeNum (wsB l ++ r) most = (l.length, (numB l.length).length) := by
    unfold wsB
    rw [List.append_assoc, take_num _ hn hm]
  intro j
  induction j with
  | zero =>
    intro _
    refine ⟨?_, rfl, fun q x hq => by omega⟩
    show (takeNum (wsB l ++ r) most).2 = _
    rw [hT]
    simp
  | succ j ih =>
    intro hj
    obtain ⟨h1, h2, h3⟩ := ih (by omega)
    have hx : l[j]? = some l[j] := List.getElem?_eq_getElem (by omega)
    generalize l[j] = x at hx
    have hxg := hg x (List.mem_of_getElem? hx)
    have hd : l.drop j = x :: l.drop (j + 1) := by
      rw [List.drop_eq_getElem_cons (by omega)]
      congr 1
      rw [List.getElem?_eq_getElem (by omega)] at hx
      injection hx
    have hL : (wsB l ++ r).drop (posWs (wsB l ++ r) most j) = wB x ++ ((l.drop (j + 1)).flatMap wB ++ r) := by
      have e : wsB l ++ r = numB l.length ++ ((l.take j).flatMap wB ++ ((l.drop j).flatMap wB ++ r)) := by
        unfold wsB
        rw [← List.append_assoc ((l.take j).flatMap wB), ← List.flatMap_append, List.take_append_drop, List.append_assoc]
      rw [h1, e, ← List.drop_drop, List.drop_left, List.drop_left, hd]
      simp
    have hN : nthWs (wsB l ++ r) most j = (x, (wB x).length) := by
      unfold nthWs
      rw [hL, take_wr _ hxg.2 hxg.1]
    have ht : l.take (j + 1) = l.take j ++ [x] := by
      rw [List.take_add_one, hx]
      rfl
    refine ⟨?_, ?_, fun q y hq hy => ?_⟩
    · rw [posWs_succ, hN, h1, ht, List.flatMap_append, List.length_append]
      simp
      omega
    · show listWs (wsB l ++ r) most j ++ [(nthWs (wsB l ++ r) most j).1] = _
      rw [h2, hN, ht]
    · by_cases e : q = j
      · subst e
        rw [hx] at hy
        injection hy with hy
        subst hy
        exact hN
      · exact h3 q y (by omega) hy
/-- Writes put are taken again. -/
theorem take_wrs {l : List Wr} {most : Nat} (r : List UInt8) (hn : l.length < 18446744073709551616) (hm : l.length ≤ most) (hg : ∀ x, x ∈ l → x.fits ∧ x.good = true) : takeWrsB (wsB l ++ r) most = (l, (wsB l).length) := by
  have hT : takeNum (wsB l ++ r) most = (l.length, (numB l.length).length) := by
    unfold wsB
    rw [List.append_assoc, take_num _ hn hm]
  obtain ⟨h1, h2, h3⟩ := nth_put (most := most) r hn hm hg l.length (Nat.le_refl _)
  rw [takeWrs_yes, hT, h1, h2, List.take_length]
  · unfold wsB
    rw [List.length_append]
  · refine ⟨by rw [hT, numB_len]; simp only; omega, fun j hj => ?_⟩
    rw [hT] at hj
    have hx : l[j]? = some l[j] := List.getElem?_eq_getElem hj
    generalize l[j] = x at hx
    rw [h3 j x hj hx]
    show (wB x).length ≠ 0
    unfold wB wrB
    simp only [List.length_append, numB_len]
    omega
/-- What a reader takes of what was put. -/
theorem wrOf_put {x : Wr} (r : List UInt8) (h : x.good = true) (hf : x.fits) : wrOf (some (wB x ++ r)) = (x, some r) := by
  have hne : (wB x).length ≠ 0 := by
    unfold wB wrB
    simp only [List.length_append, numB_len]
    omega
  unfold wrOf
  simp only [take_wr r h hf, hne, if_false, List.drop_left]
theorem wrsOf_put {l : List Wr} {most : Nat} (r : List UInt8) (hn : l.length < 18446744073709551616) (hm : l.length ≤ most) (hg : ∀ x, x ∈ l → x.fits ∧ x.good = true) : wrsOf (some (wsB l ++ r)) most = (l, some r) := by
  have hne : (wsB l).length ≠ 0 := by
    unfold wsB
    rw [List.length_append, numB_len]
    omega
  unfold wrsOf
  simp only [take_wrs r hn hm hg, hne, if_false, List.drop_left]
end Go.Proofs.YtpjleeeligahaaaGreatDoor

namespace Go.Proofs.YtpjleeeligahaaaGreatDoor
open Go

theorem cmpB_swap : ∀ a b : List UInt8, Lib.compareBytes b a = - Lib.compareBytes a b
  | [], [] => rfl
  | [], _ :: _ => rfl
  | _ :: _, [] => rfl
  | a :: as1, b :: bs => by
    have ih := cmpB_swap as1 bs
    simp only [Lib.compareBytes]
    by_cases h : a < b
    · have h' : ¬ b < a := by rw [UInt8.lt_iff_toNat_lt] at *; omega
      simp [h, h']
    · by_cases h' : b < a
      · simp [h, h']
      · simp [h, h', ih]

theorem cmpB_cases : ∀ a b : List UInt8, Lib.compareBytes a b = -1 ∨ Lib.compareBytes a b = 0 ∨ Lib.compareBytes a b = 1
  | [], [] => by simp [Lib.compareBytes]
  | [], _ :: _ => by simp [Lib.compareBytes]
  | _ :: _, [] => by simp [Lib.compareBytes]
  | a :: as1, b :: bs => by
    have ih := cmpB_cases as1 bs
    simp only [Lib.compareBytes]
    by_cases h : a < b
    · simp [h]
    · by_cases h' : b < a
      · simp [h, h']
      · simpa [h, h'] using ih

theorem cmpB_zero : ∀ a b : List UInt8, Lib.compareBytes a b = 0 → a = b
  | [], [] => fun _ => rfl
  | [], _ :: _ => fun h => by simp [Lib.compareBytes] at h
  | _ :: _, [] => fun h => by simp [Lib.compareBytes] at h
  | a :: as1, b :: bs => fun h => by
    have ih := cmpB_zero as1 bs
    simp only [Lib.compareBytes] at h
    by_cases h1 : a < b
    · simp [h1] at h
    · by_cases h2 : b < a
      · simp [h1, h2] at h
      · simp only [h1, h2, if_false] at h
        have hab : a = b := by
          rw [UInt8.lt_iff_toNat_lt] at *
          exact UInt8.toNat_inj.1 (by omega)
        rw [hab, ih h]

theorem cmpB_refl : ∀ a : List UInt8, Lib.compareBytes a a = 0
  | [] => rfl
  | a :: as1 => by
    have h : ¬ a < a := by rw [UInt8.lt_iff_toNat_lt]; omega
    simp [Lib.compareBytes, h, cmpB_refl as1]

theorem cmpB_trans : ∀ a b c : List UInt8, Lib.compareBytes a b = -1 → Lib.compareBytes b c = -1 → Lib.compareBytes a c = -1
  | [], [], c => fun h _ => by simp [Lib.compareBytes] at h
  | [], _ :: _, [] => fun _ h => by simp [Lib.compareBytes] at h
  | [], _ :: _, _ :: _ => fun _ _ => rfl
  | _ :: _, [], _ => fun h _ => by simp [Lib.compareBytes] at h
  | _ :: _, _ :: _, [] => fun _ h => by simp [Lib.compareBytes] at h
  | a :: as1, b :: bs, c :: cs => fun h k => by
    have ih := cmpB_trans as1 bs cs
    simp only [Lib.compareBytes] at h k ⊢
    by_cases h1 : a < b
    · by_cases k1 : b < c
      · have : a < c := by rw [UInt8.lt_iff_toNat_lt] at *; omega
        simp [this]
      · by_cases k2 : c < b
        · simp [k1, k2] at k
        · have : a < c := by rw [UInt8.lt_iff_toNat_lt] at *; omega
          simp [this]
    · by_cases h2 : b < a
      · simp [h1, h2] at h
      · simp only [h1, h2, if_false] at h
        by_cases k1 : b < c
        · have : a < c := by rw [UInt8.lt_iff_toNat_lt] at *; omega
          simp [this]
        · by_cases k2 : c < b
          · simp [k1, k2] at k
          · simp only [k1, k2, if_false] at k
            have e1 : ¬ a < c := by rw [UInt8.lt_iff_toNat_lt] at *; omega
            have e2 : ¬ c < a := by rw [UInt8.lt_iff_toNat_lt] at *; omega
            simp only [e1, e2, if_false]
            exact ih h k

/-- The document's order of good values: the kind, the number, the text. -/
def ordV (ka na kb nb : Int) (sa sb : List UInt8) : Int :=
  if ka ≠ kb then Lib.compareInt ka kb else if ka = 1 then Lib.compareInt na nb else if ka = 2 then Lib.compareBytes sa sb else 0

theorem cmpI_swap (a b : Int) : Lib.compareInt b a = - Lib.compareInt a b := by
  unfold Lib.compareInt
  repeat' split
  all_goals omega
theorem cmpI_cases (a b : Int) : Lib.compareInt a b = -1 ∨ Lib.compareInt a b = 0 ∨ Lib.compareInt a b = 1 := by
  unfold Lib.compareInt
  repeat' split
  all_goals omega
theorem cmpI_zero {a b : Int} (h : Lib.compareInt a b = 0) : a = b := by
  unfold Lib.compareInt at h
  repeat' split at h
  all_goals omega
theorem cmpI_lt {a b : Int} (h : Lib.compareInt a b = -1) : a < b := by
  unfold Lib.compareInt at h
  repeat' split at h
  all_goals omega
theorem cmpI_of_lt {a b : Int} (h : a < b) : Lib.compareInt a b = -1 := by simp [Lib.compareInt, h]

theorem ordV_swap (ka na kb nb : Int) (sa sb : List UInt8) : ordV kb nb ka na sb sa = - ordV ka na kb nb sa sb := by
  unfold ordV
  by_cases h : ka = kb
  · subst h
    simp only [ne_eq, not_true_eq_false, if_false]
    by_cases h1 : ka = 1
    · simp only [h1, if_true]; exact cmpI_swap _ _
    · by_cases h2 : ka = 2
      · simp only [h2]; exact cmpB_swap _ _
      · simp [h1, h2]
  · have h' : ¬ kb = ka := fun e => h e.symm
    simp only [ne_eq, h, h', not_false_eq_true, if_true]
    exact cmpI_swap _ _
theorem ordV_cases (ka na kb nb : Int) (sa sb : List UInt8) : ordV ka na kb nb sa sb = -1 ∨ ordV ka na kb nb sa sb = 0 ∨ ordV ka na kb nb sa sb = 1 := by
  unfold ordV
  split
  · exact cmpI_cases _ _
  · split
    · exact cmpI_cases _ _
    · split
      · exact cmpB_cases _ _
      · simp

/-- What a good value is, in plain words. -/
def GoodV (k n : Int) (s : List UInt8) : Prop := (k = 0 ∧ n = 0 ∧ s = []) ∨ (k = 1 ∧ s = []) ∨ (k = 2 ∧ n = 0)

theorem ordV_zero {ka na kb nb : Int} {sa sb : List UInt8} (ga : GoodV ka na sa) (gb : GoodV kb nb sb) (h : ordV ka na kb nb sa sb = 0) : ka = kb ∧ na = nb ∧ sa = sb := by
  unfold ordV at h
  by_cases e : ka = kb
  · subst e
    simp only [ne_eq, not_true_eq_false, if_false] at h
    rcases ga with ⟨rfl, rfl, rfl⟩ | ⟨rfl, rfl⟩ | ⟨rfl, rfl⟩
    · rcases gb with ⟨_, rfl, rfl⟩ | ⟨h1, _⟩ | ⟨h1, _⟩
      · exact ⟨rfl, rfl, rfl⟩
      · omega
      · omega
    · rcases gb with ⟨h1, _⟩ | ⟨_, rfl⟩ | ⟨h1, _⟩
      · omega
      · simp only [if_true] at h
        exact ⟨rfl, cmpI_zero h, rfl⟩
      · omega
    · rcases gb with ⟨h1, _⟩ | ⟨h1, _⟩ | ⟨_, rfl⟩
      · omega
      · omega
      · exact ⟨rfl, rfl, cmpB_zero _ _ (by simpa using h)⟩
  · simp only [ne_eq, e, not_false_eq_true, if_true] at h
    exact absurd (cmpI_zero h) e
theorem ordV_refl (ka na : Int) (sa : List UInt8) : ordV ka na ka na sa sa = 0 := by
  unfold ordV
  simp [cmpB_refl, Lib.compareInt]
theorem ordV_trans {ka na kb nb kc nc : Int} {sa sb sc : List UInt8} (h : ordV ka na kb nb sa sb = -1) (k : ordV kb nb kc nc sb sc = -1) : ordV ka na kc nc sa sc = -1 := by
  unfold ordV at *
  by_cases e : ka = kb
  · subst e
    simp only [ne_eq, not_true_eq_false, if_false] at h
    by_cases f : ka = kc
    · subst f
      simp only [ne_eq, not_true_eq_false, if_false] at k ⊢
      by_cases h1 : ka = 1
      · simp only [h1, if_true] at h k ⊢
        have := cmpI_lt h
        have := cmpI_lt k
        exact cmpI_of_lt (by omega)
      · by_cases h2 : ka = 2
        · subst h2
          exact cmpB_trans _ _ _ h k
        · simp [h1, h2] at h
    · simp only [ne_eq, f, not_false_eq_true, if_true] at k ⊢
      exact k
  · simp only [ne_eq, e, not_false_eq_true, if_true] at h
    by_cases f : kb = kc
    · subst f
      simp only [ne_eq, e, not_false_eq_true, if_true]
      exact h
    · simp only [ne_eq, f, not_false_eq_true, if_true] at k
      have h1 := cmpI_lt h
      have h2 := cmpI_lt k
      have h3 : ¬ ka = kc := by omega
      simp only [ne_eq, h3, not_false_eq_true, if_true]
      exact cmpI_of_lt (by omega)
end Go.Proofs.YtpjleeeligahaaaGreatDoor

namespace Go.Proofs.YtpjleeeligahaaaGreatDoor
open Go

/-- Does a text begin another one? -/
def begB (p s : List UInt8) : Bool := p.isPrefixOf s
theorem begB_iff {p s : List UInt8} : begB p s = true ↔ p <+: s := List.isPrefixOf_iff_prefix
theorem begB_refl (p : List UInt8) : begB p p = true := begB_iff.2 (List.prefix_refl p)
theorem begB_trans {p q s : List UInt8} (h : begB p q = true) (k : begB q s = true) : begB p s = true := begB_iff.2 ((begB_iff.1 h).trans (begB_iff.1 k))
theorem begB_take {p s : List UInt8} : begB p s = (decide (p.length ≤ s.length) && (s.take p.length == p)) := by
  rw [Bool.eq_iff_iff, begB_iff, Bool.and_eq_true, decide_eq_true_eq, beq_iff_eq]
  constructor
  · intro h
    exact ⟨h.length_le, (List.prefix_iff_eq_take.1 h).symm⟩
  · intro h
    exact List.prefix_iff_eq_take.2 h.2.symm
/-- May it be a prefix? -/
def preB (p : List UInt8) : Bool := p.isEmpty || keyB p
/-- Does a text stand ahead of another one? -/
def ltB (a b : List UInt8) : Bool := decide (Lib.compareBytes a b < 0)
theorem ltB_iff {a b : List UInt8} : ltB a b = true ↔ Lib.compareBytes a b = -1 := by
  unfold ltB
  rw [decide_eq_true_eq]
  rcases cmpB_cases a b with h | h | h <;> rw [h] <;> simp
theorem ltB_irrefl (a : List UInt8) : ltB a a = false := by
  unfold ltB
  rw [cmpB_refl]
  rfl
theorem ltB_trans {a b c : List UInt8} (h : ltB a b = true) (k : ltB b c = true) : ltB a c = true :=
  ltB_iff.2 (cmpB_trans _ _ _ (ltB_iff.1 h) (ltB_iff.1 k))
theorem ltB_asymm {a b : List UInt8} (h : ltB a b = true) : ltB b a = false := by
  have h1 := ltB_iff.1 h
  unfold ltB
  rw [cmpB_swap a b, h1]
  rfl
theorem ltB_total {a b : List UInt8} (h : ltB a b = false) (hne : a ≠ b) : ltB b a = true := by
  rw [ltB_iff, cmpB_swap a b]
  rcases cmpB_cases a b with e | e | e
  · exact absurd (ltB_iff.2 e) (by simp [h])
  · exact absurd (cmpB_zero _ _ e) hne
  · rw [e]

/-- The text at a place. -/
def atR (r : List (List UInt8)) (i : Nat) : List UInt8 := r.getD i []
theorem atR_get {r : List (List UInt8)} {i : Nat} {x : List UInt8} (h : r[i]? = some x) : atR r i = x := by
  unfold atR
  rw [List.getD_eq_getElem?_getD, h]
  rfl
theorem atR_mem {r : List (List UInt8)} {i : Nat} (h : i < r.length) : atR r i ∈ r := by
  rw [atR_get (List.getElem?_eq_getElem h)]
  exact List.getElem_mem h
theorem mem_atR {r : List (List UInt8)} {x : List UInt8} (h : x ∈ r) : ∃ i, i < r.length ∧ atR r i = x := by
  obtain ⟨i, hi, e⟩ := List.getElem_of_mem h
  exact ⟨i, hi, by rw [atR_get (List.getElem?_eq_getElem hi), e]⟩
/-- What Good asks of place i. -/
def okAt (r : List (List UInt8)) (i : Nat) : Bool := preB (atR r i) && (decide (i = 0) || ltB (atR r (i - 1)) (atR r i)) && (List.range r.length).all fun k => decide (k = i) || !begB (atR r k) (atR r i)
/-- Is it a reach? -/
def goodR (r : List (List UInt8)) : Bool := (List.range r.length).all (okAt r) && decide (r.length ≤ 6)
theorem okAt_iff {r : List (List UInt8)} {i : Nat} : okAt r i = true ↔ preB (atR r i) = true ∧ (i = 0 ∨ ltB (atR r (i - 1)) (atR r i) = true) ∧ ∀ k, k < r.length → k ≠ i → begB (atR r k) (atR r i) = false := by
  unfold okAt
  simp only [Bool.and_eq_true, Bool.or_eq_true, decide_eq_true_eq, List.all_eq_true, List.mem_range, Bool.not_eq_true', and_assoc]
  constructor
  · rintro ⟨h1, h2, h3⟩
    exact ⟨h1, h2, fun k hk hne => (h3 k hk).resolve_left hne⟩
  · rintro ⟨h1, h2, h3⟩
    refine ⟨h1, h2, fun k hk => ?_⟩
    by_cases e : k = i
    · exact Or.inl e
    · exact Or.inr (h3 k hk e)
theorem goodR_iff {r : List (List UInt8)} : goodR r = true ↔ (∀ i, i < r.length → okAt r i = true) ∧ r.length ≤ 6 := by
  unfold goodR
  simp only [Bool.and_eq_true, decide_eq_true_eq, List.all_eq_true, List.mem_range]
theorem goodR_bad {r : List (List UInt8)} {i : Nat} (h : i < r.length) (hb : okAt r i = false) : goodR r = false := by
  rw [Bool.eq_false_iff]
  intro hg
  rw [(goodR_iff.1 hg).1 i h] at hb
  cases hb
theorem goodR_all {r : List (List UInt8)} (h : ∀ i, i < r.length → okAt r i = true) : goodR r = decide (r.length ≤ 6) := by
  unfold goodR
  have : (List.range r.length).all (okAt r) = true := by
    rw [List.all_eq_true]
    intro i hi
    exact h i (List.mem_range.1 hi)
  rw [this, Bool.true_and]

/-- They rise. -/
def Rises (r : List (List UInt8)) : Prop := r.Pairwise fun a b => ltB a b = true
/-- Rising lists with the same members are the same. -/
theorem rises_uniq : ∀ (r s : List (List UInt8)), Rises r → Rises s → (∀ x, x ∈ r ↔ x ∈ s) → r = s
  | [], [], _, _, _ => rfl
  | [], b :: s, _, _, h => absurd ((h b).2 (List.mem_cons_self)) (by simp)
  | a :: r, [], _, _, h => absurd ((h a).1 (List.mem_cons_self)) (by simp)
  | a :: r, b :: s, hr, hs, h => by
    have hr' := List.pairwise_cons.1 hr
    have hs' := List.pairwise_cons.1 hs
    have hab : a = b := by
      rcases List.mem_cons.1 ((h a).1 List.mem_cons_self) with e | e
      · exact e
      · rcases List.mem_cons.1 ((h b).2 List.mem_cons_self) with f | f
        · exact f.symm
        · have h1 := hs'.1 a e
          have h2 := hr'.1 b f
          rw [ltB_asymm h1] at h2
          cases h2
    subst hab
    have hx : ∀ x, x ∈ r ↔ x ∈ s := by
      intro x
      constructor
      · intro hm
        rcases List.mem_cons.1 ((h x).1 (List.mem_cons_of_mem _ hm)) with e | e
        · have h1 := hr'.1 x hm
          rw [e, ltB_irrefl] at h1
          cases h1
        · exact e
      · intro hm
        rcases List.mem_cons.1 ((h x).2 (List.mem_cons_of_mem _ hm)) with e | e
        · have h1 := hs'.1 x hm
          rw [e, ltB_irrefl] at h1
          cases h1
        · exact e
    rw [rises_uniq r s hr'.2 hs'.2 hx]

/-- r is the reach of the prefixes that S has: those that have no other one as a beginning, rising. -/
def IsMade (S : List UInt8 → Prop) (r : List (List UInt8)) : Prop := Rises r ∧ ∀ x, x ∈ r ↔ S x ∧ ∀ y, S y → begB y x = true → y = x
theorem made_uniq {S T : List UInt8 → Prop} {r s : List (List UInt8)} (h : IsMade S r) (k : IsMade T s) (e : ∀ x, S x ↔ T x) : r = s := by
  refine rises_uniq r s h.1 k.1 fun x => ?_
  rw [h.2, k.2]
  constructor
  · rintro ⟨h1, h2⟩
    exact ⟨(e x).1 h1, fun y hy => h2 y ((e y).2 hy)⟩
  · rintro ⟨h1, h2⟩
    exact ⟨(e x).2 h1, fun y hy => h2 y ((e y).1 hy)⟩
theorem made_congr {S T : List UInt8 → Prop} {r : List (List UInt8)} (h : IsMade S r) (e : ∀ x, S x ↔ T x) : IsMade T r := by
  refine ⟨h.1, fun x => ?_⟩
  rw [h.2]
  constructor
  · rintro ⟨h1, h2⟩
    exact ⟨(e x).1 h1, fun y hy => h2 y ((e y).2 hy)⟩
  · rintro ⟨h1, h2⟩
    exact ⟨(e x).2 h1, fun y hy => h2 y ((e y).1 hy)⟩

theorem rises_at {r : List (List UInt8)} (h : Rises r) {i j : Nat} (hij : i < j) (hj : j < r.length) : ltB (atR r i) (atR r j) = true := by
  have hi : i < r.length := by omega
  rw [atR_get (List.getElem?_eq_getElem hi), atR_get (List.getElem?_eq_getElem hj)]
  exact List.pairwise_iff_getElem.1 h i j hi hj hij
theorem rises_of_steps {r : List (List UInt8)} (h : ∀ i, 0 < i → i < r.length → ltB (atR r (i - 1)) (atR r i) = true) : Rises r := by
  refine List.pairwise_iff_getElem.2 fun i j hi hj hij => ?_
  have key : ∀ d, i + d + 1 < r.length → ltB (atR r i) (atR r (i + d + 1)) = true := by
    intro d
    induction d with
    | zero => intro hd; exact h (i + 1) (by omega) hd
    | succ d ih =>
      intro hd
      exact ltB_trans (ih (by omega)) (h (i + d + 1 + 1) (by omega) hd)
  have := key (j - i - 1) (by omega)
  have e : i + (j - i - 1) + 1 = j := by omega
  rw [e, atR_get (List.getElem?_eq_getElem hi), atR_get (List.getElem?_eq_getElem hj)] at this
  exact this
theorem goodR_rises {r : List (List UInt8)} (h : goodR r = true) : Rises r := by
  refine rises_of_steps fun i h0 hi => ?_
  rcases (okAt_iff.1 ((goodR_iff.1 h).1 i hi)).2.1 with e | e
  · omega
  · exact e
theorem goodR_mem {r : List (List UInt8)} (h : goodR r = true) {x y : List UInt8} (hx : x ∈ r) (hy : y ∈ r) (hb : begB y x = true) : y = x := by
  obtain ⟨i, hi, rfl⟩ := mem_atR hx
  obtain ⟨k, hk, rfl⟩ := mem_atR hy
  by_cases e : k = i
  · rw [e]
  · rw [(okAt_iff.1 ((goodR_iff.1 h).1 i hi)).2.2 k hk e] at hb
    cases hb
theorem goodR_pre {r : List (List UInt8)} (h : goodR r = true) {x : List UInt8} (hx : x ∈ r) : preB x = true := by
  obtain ⟨i, hi, rfl⟩ := mem_atR hx
  exact (okAt_iff.1 ((goodR_iff.1 h).1 i hi)).1
theorem goodR_of {r : List (List UInt8)} (h1 : ∀ x, x ∈ r → preB x = true) (h2 : Rises r) (h3 : ∀ x y, x ∈ r → y ∈ r → begB y x = true → y = x) (h4 : r.length ≤ 6) : goodR r = true := by
  refine goodR_iff.2 ⟨fun i hi => okAt_iff.2 ⟨h1 _ (atR_mem hi), ?_, fun k hk hne => ?_⟩, h4⟩
  · by_cases e : i = 0
    · exact Or.inl e
    · exact Or.inr (rises_at h2 (by omega) hi)
  · rw [Bool.eq_false_iff]
    intro hb
    have e := h3 _ _ (atR_mem hi) (atR_mem hk) hb
    rcases Nat.lt_or_ge k i with hl | hl
    · have := rises_at h2 hl hi
      rw [e, ltB_irrefl] at this
      cases this
    · have := rises_at h2 (show i < k by omega) hk
      rw [e, ltB_irrefl] at this
      cases this
/-- What is made of prefixes is a reach, if it is not too long. -/
theorem made_good {S : List UInt8 → Prop} {r : List (List UInt8)} (h : IsMade S r) (hp : ∀ x, S x → preB x = true) (hl : r.length ≤ 6) : goodR r = true := by
  refine goodR_of (fun x hx => hp x ((h.2 x).1 hx).1) h.1 (fun x y hx hy hb => ?_) hl
  exact ((h.2 x).1 hx).2 y ((h.2 y).1 hy).1 hb
theorem goodR_made {r : List (List UInt8)} (h : goodR r = true) : IsMade (· ∈ r) r :=
  ⟨goodR_rises h, fun _ => ⟨fun hx => ⟨hx, fun _ hy hb => goodR_mem h hx hy hb⟩, fun hx => hx.1⟩⟩

/-- Has it a key? -/
def hasB (r : List (List UInt8)) (s : List UInt8) : Bool := r.any fun p => begB p s
theorem hasB_iff {r : List (List UInt8)} {s : List UInt8} : hasB r s = true ↔ ∃ p, p ∈ r ∧ begB p s = true := by
  unfold hasB
  rw [List.any_eq_true]
theorem hasB_yes {r : List (List UInt8)} {s p : List UInt8} {k : Nat} (h : r[k]? = some p) (hb : begB p s = true) : hasB r s = true := hasB_iff.2 ⟨p, List.mem_of_getElem? h, hb⟩
theorem hasB_no {r : List (List UInt8)} {s : List UInt8} (h : ∀ k, k < r.length → begB (atR r k) s = false) : hasB r s = false := by
  rw [Bool.eq_false_iff]
  intro hh
  obtain ⟨p, hp, hb⟩ := hasB_iff.1 hh
  obtain ⟨i, hi, rfl⟩ := mem_atR hp
  rw [h i hi] at hb
  cases hb
/-- Has it all that another one has? -/
def covB (a b : List (List UInt8)) : Bool := b.all fun q => hasB a q
theorem covB_no {a b : List (List UInt8)} {k : Nat} {q : List UInt8} (h : b[k]? = some q) (hb : hasB a q = false) : covB a b = false := by
  unfold covB
  rw [List.all_eq_false]
  exact ⟨q, List.mem_of_getElem? h, by simp [hb]⟩
theorem covB_yes {a b : List (List UInt8)} (h : ∀ k, k < b.length → hasB a (atR b k) = true) : covB a b = true := by
  unfold covB
  rw [List.all_eq_true]
  intro q hq
  obtain ⟨i, hi, rfl⟩ := mem_atR hq
  exact h i hi
/-- The prefixes out of which that is made which both have. -/
def BothS (a b : List (List UInt8)) (x : List UInt8) : Prop := (x ∈ b ∧ hasB a x = true) ∨ (x ∈ a ∧ hasB b x = true)
theorem bothS_swap (a b : List (List UInt8)) (x : List UInt8) : BothS a b x ↔ BothS b a x := Or.comm

/-- Prefixes that have no other one as a beginning; each once. -/
def loneB (l : List (List UInt8)) (i : Nat) : Bool := (List.range l.length).all fun k => !(begB (atR l k) (atR l i) && (atR l k != atR l i || decide (k < i)))
theorem loneB_iff {l : List (List UInt8)} {i : Nat} : loneB l i = true ↔ ∀ k, k < l.length → begB (atR l k) (atR l i) = true → atR l k = atR l i ∧ i ≤ k := by
  unfold loneB
  simp only [List.all_eq_true, List.mem_range, Bool.not_eq_true', Bool.and_eq_false_iff, Bool.or_eq_false_iff, bne_eq_false_iff_eq, decide_eq_false_iff_not, Nat.not_lt]
  constructor
  · intro h k hk hb
    rcases h k hk with e | e
    · rw [hb] at e; cases e
    · exact e
  · intro h k hk
    by_cases hb : begB (atR l k) (atR l i) = true
    · exact Or.inr (h k hk hb)
    · exact Or.inl (by simpa using hb)
/-- What was made of the first m. -/
def MadeTo (l : List (List UInt8)) (m : Nat) (r : List (List UInt8)) : Prop := Rises r ∧ ∀ x, x ∈ r ↔ ∃ i, i < m ∧ loneB l i = true ∧ atR l i = x
theorem madeTo_zero (l : List (List UInt8)) : MadeTo l 0 [] := ⟨List.Pairwise.nil, fun x => ⟨fun h => by simp at h, fun ⟨_, h, _⟩ => by omega⟩⟩
theorem madeTo_skip {l : List (List UInt8)} {m : Nat} {r : List (List UInt8)} (h : MadeTo l m r) (hl : loneB l m = false) : MadeTo l (m + 1) r := by
  refine ⟨h.1, fun x => ?_⟩
  rw [h.2]
  constructor
  · rintro ⟨i, hi, h1, h2⟩
    exact ⟨i, by omega, h1, h2⟩
  · rintro ⟨i, hi, h1, h2⟩
    by_cases e : i = m
    · rw [e, hl] at h1; cases h1
    · exact ⟨i, by omega, h1, h2⟩
/-- It is put at the place ahead of which all are ahead of it. -/
theorem madeTo_put {l : List (List UInt8)} {m t : Nat} {r : List (List UInt8)} (h : MadeTo l m r) (hm : m < l.length) (hl : loneB l m = true) (ht : t ≤ r.length)
    (h1 : ∀ j, j < t → ltB (atR r j) (atR l m) = true) (h2 : t < r.length → ltB (atR r t) (atR l m) = false) : MadeTo l (m + 1) (r.take t ++ [atR l m] ++ r.drop t) := by
  have hnot : atR l m ∉ r := by
    intro hmem
    obtain ⟨i, hi, hli, e⟩ := (h.2 _).1 hmem
    have := (loneB_iff.1 hl) i (by omega) (by rw [e]; exact begB_refl _)
    omega
  have hhigh : ∀ y, y ∈ r.drop t → ltB (atR l m) y = true := by
    intro y hy
    obtain ⟨j, hj, e⟩ := List.getElem_of_mem hy
    rw [List.length_drop] at hj
    rw [List.getElem_drop] at e
    have htl : t < r.length := by omega
    have h3 := ltB_total (h2 htl) (fun e2 => hnot (e2 ▸ atR_mem htl))
    by_cases e0 : j = 0
    · subst e0
      rw [← e]
      rw [atR_get (List.getElem?_eq_getElem htl)] at h3
      exact h3
    · have h4 := rises_at h.1 (show t < t + j by omega) (by omega)
      rw [atR_get (r := r) (i := t + j) (List.getElem?_eq_getElem (by omega)), e] at h4
      exact ltB_trans h3 h4
  have hlow : ∀ y, y ∈ r.take t → ltB y (atR l m) = true := by
    intro y hy
    obtain ⟨j, hj, e⟩ := List.getElem_of_mem hy
    rw [List.length_take] at hj
    rw [List.getElem_take] at e
    have := h1 j (by omega)
    rw [atR_get (List.getElem?_eq_getElem (show j < r.length by omega)), e] at this
    exact this
  refine ⟨?_, fun x => ?_⟩
  · refine List.pairwise_append.2 ⟨List.pairwise_append.2 ⟨h.1.sublist (List.take_sublist _ _), List.pairwise_singleton _ _, ?_⟩, h.1.sublist (List.drop_sublist _ _), ?_⟩
    · intro y hy z hz
      rw [List.mem_singleton] at hz
      rw [hz]
      exact hlow y hy
    · intro y hy z hz
      rcases List.mem_append.1 hy with hy | hy
      · exact ltB_trans (hlow y hy) (hhigh z hz)
      · rw [List.mem_singleton] at hy
        rw [hy]
        exact hhigh z hz
  · have e : x ∈ r.take t ++ [atR l m] ++ r.drop t ↔ x ∈ r ∨ x = atR l m := by
      have e2 : x ∈ r ↔ x ∈ r.take t ∨ x ∈ r.drop t := by
        conv => lhs; rw [← List.take_append_drop t r]
        exact List.mem_append
      rw [List.mem_append, List.mem_append, List.mem_singleton, e2]
      constructor
      · rintro ((h | h) | h)
        · exact Or.inl (Or.inl h)
        · exact Or.inr h
        · exact Or.inl (Or.inr h)
      · rintro ((h | h) | h)
        · exact Or.inl (Or.inl h)
        · exact Or.inr h
        · exact Or.inl (Or.inr h)
    rw [e, h.2]
    constructor
    · rintro (⟨i, hi, ha, hb⟩ | hx)
      · exact ⟨i, by omega, ha, hb⟩
      · exact ⟨m, by omega, hl, hx.symm⟩
    · rintro ⟨i, hi, ha, hb⟩
      by_cases e0 : i = m
      · subst e0
        exact Or.inr hb.symm
      · exact Or.inl ⟨i, by omega, ha, hb⟩
/-- All of them: what is made. -/
theorem madeTo_all {l r : List (List UInt8)} (h : MadeTo l l.length r) : IsMade (· ∈ l) r := by
  refine ⟨h.1, fun x => ?_⟩
  rw [h.2]
  constructor
  · rintro ⟨i, hi, hl, rfl⟩
    refine ⟨atR_mem hi, fun y hy hb => ?_⟩
    obtain ⟨k, hk, rfl⟩ := mem_atR hy
    exact ((loneB_iff.1 hl) k hk hb).1
  · rintro ⟨hx, hy⟩
    have key : ∀ n, ∀ i, i < n → i < l.length → atR l i = x → ∃ j, j < l.length ∧ loneB l j = true ∧ atR l j = x := by
      intro n
      induction n with
      | zero => intro i hi; omega
      | succ n ih =>
        intro i hi hil e
        by_cases hb : loneB l i = true
        · exact ⟨i, hil, hb, e⟩
        · have hb' : ¬ ∀ k, k < l.length → begB (atR l k) (atR l i) = true → atR l k = atR l i ∧ i ≤ k := fun h => hb (loneB_iff.2 h)
          have : ∃ k, k < l.length ∧ begB (atR l k) (atR l i) = true ∧ ¬ (atR l k = atR l i ∧ i ≤ k) := by
            apply Classical.byContradiction
            intro hn
            apply hb'
            intro k hk hbk
            apply Classical.byContradiction
            intro hc
            exact hn ⟨k, hk, hbk, hc⟩
          obtain ⟨k, hk, hbk, hnk⟩ := this
          have ek : atR l k = x := by
            rw [e] at hbk
            exact hy _ (atR_mem hk) hbk
          have hki : k < i := by
            apply Classical.byContradiction
            intro hc
            exact hnk ⟨by rw [ek, e], by omega⟩
          exact ih k (by omega) hk ek
    obtain ⟨i, hi, e⟩ := mem_atR hx
    exact key (i + 1) i (by omega) hi e
theorem loneB_no {l : List (List UInt8)} {i k : Nat} (hk : k < l.length) (h1 : begB (atR l k) (atR l i) = true) (h2 : atR l k ≠ atR l i ∨ k < i) : loneB l i = false := by
  rw [Bool.eq_false_iff]
  intro h
  have h3 := loneB_iff.1 h k hk h1
  rcases h2 with h2 | h2
  · exact h2 h3.1
  · omega
end Go.Proofs.YtpjleeeligahaaaGreatDoor

namespace Go.Proofs.YtpjleeeligahaaaGreatDoor
open Go.RowKit

theorem OwnS.form {base : Nat} {W : World} {A : Option Addr} {n c : Nat} {l : List ByteArray} (h : OwnS base W A n c l) (hn : 0 < n) : ∃ g, A = some ⟨g, 0, none⟩ ∧ base ≤ g ∧ g < W.heap.size := by
  obtain ⟨g, cap, hv, hb, hlt⟩ := World.ownsRow.form h hn
  injection hv with hv
  exact ⟨g, hv, hb, hlt⟩
theorem OwnS.free {base : Nat} {W : World} {g n c : Nat} {l : List ByteArray} (h : OwnS base W (some ⟨g, 0, none⟩) n c l) (i : Nat) : W.frozen? ⟨g, i, none⟩ = false := by
  rcases h.2 with ⟨hv, _⟩ | ⟨g', cap, cur, hv, hb, hg, h1, h2, h3, h4⟩
  · cases hv
  · injection hv with hv1 hv2 hv3
    injection hv1 with hv1
    injection hv1 with hv1
    subst hv1
    simp [World.frozen?, hg]
theorem sF0 {W : World} {p : Addr} {v : Value} (h : W.cell? p = some v) (hf : W.frozen? p = false) : W.drew.cell? p = some v ∧ W.drew.frozen? p = false ∧ Below W.heap.size W W.drew := ⟨h, hf, (Below.refl _ _).drew⟩
theorem sFA {H : Nat} {W w' : World} {p : Addr} {v : Value} (h : w'.cell? p = some v ∧ w'.frozen? p = false ∧ Below H W w') (hl : p.block < H) (hH : H ≤ W.heap.size) (o : Obj) : (w'.alloc o).cell? p = some v ∧ (w'.alloc o).frozen? p = false ∧ Below H W (w'.alloc o) := by
  have hz := h.2.2.size
  exact ⟨((b0 w' o).cell (by omega)).trans h.1, ((b0 w' o).frozen (by omega)).trans h.2.1, h.2.2.alloc (by omega) o⟩
/-- A store into a row of the call's own. -/
theorem OwnS.set {base : Nat} {W : World} {g n c : Nat} {l : List ByteArray} (h : OwnS base W (some ⟨g, 0, none⟩) n c l) (i : Nat) (x : ByteArray) : OwnS base (W.setCell ⟨g, i, none⟩ (.string x)) (some ⟨g, 0, none⟩) n c (l.set i x) := by
  rcases h.2 with ⟨hv, _⟩ | ⟨g', cap, cur, hv, hb, hg, h1, h2, h3, h4⟩
  · cases hv
  · injection hv with hv1 hv2 hv3
    injection hv1 with hv1
    injection hv1 with hv1
    subst hv1
    subst hv3
    refine ⟨by simpa using h.1, .inr ⟨g, c, cur.setIfInBounds i (.string x), rfl, hb, ?_, h1, h2, by simpa using h3, ?_⟩⟩
    · simp [World.setCell, Array.getElem?_modify, hg]
    · rw [Array.toList_setIfInBounds, List.take_set, h4]
      simp [strV, List.map_set]
end Go.Proofs.YtpjleeeligahaaaGreatDoor

namespace Go.Proofs.YtpjleeeligahaaaGreatDoor
open Go.RowKit

theorem sclone_any (s : ByteArray) (w : World) (hs : s.size ≤ 1000000) :
    Calls Tryz.prog 82 #[.string s] w fun e w' => e = .returned (.string s) ∧ Below w.heap.size w w' := by
  go_enter Tryz.func82, Tryz.ntmps82
  go_wp2_with fail
  refine (Tryz.stringslite_Clone s w (by omega)).mono ?_
  rintro e w2 ⟨rfl, hb2⟩
  go_wp2_with fail
  go_ret
  exact ⟨rfl, hb2⟩

end Go.Proofs.YtpjleeeligahaaaGreatDoor

namespace Go.Proofs.YtpjleeeligahaaaGreatDoor
open Go.RowKit

theorem str_eqB (a b : ByteArray) : (a.toList == b.toList) = (a.data.toList == b.data.toList) := by rw [ByteArray.toList_eq, ByteArray.toList_eq]
theorem beg_data {p s : ByteArray} (h : p.size ≤ s.size) : begB p.data.toList s.data.toList = ((s.extract 0 p.size).toList == p.toList) := by
  have h1 : p.data.toList.length = p.size := Array.length_toList
  have h2 : s.data.toList.length = s.size := Array.length_toList
  rw [begB_take, h1, h2, decide_eq_true h, Bool.true_and, str_eqB]
  simp
theorem beg_long {p s : ByteArray} (h : ¬ p.size ≤ s.size) : begB p.data.toList s.data.toList = false := by
  have h1 : p.data.toList.length = p.size := Array.length_toList
  have h2 : s.data.toList.length = s.size := Array.length_toList
  rw [begB_take, h1, h2, decide_eq_false h, Bool.false_and]

end Go.Proofs.YtpjleeeligahaaaGreatDoor
