/-
  WHAT IS PROVED: how many bytes cells and lines come to (own work: plain facts), and words on strings of bytes. · the chapter's examples hold (awake answers true), if package pack's calls answer as PackC says. · the statement PackStays' law answers true for every slice of bytes, if package pack's calls answer as PackC says. Conditions: those typed in the theorem. · the statement PackGoes' law answers true for every number, int and text, if package pack's calls answer as PackC says. Conditions: those typed in the theorem. · the law PackWrites answers true where not all writes are good, or there are too many, if package pack's calls answer as PackC2 says; how long good writes' bytes are at most. Conditions: those typed in the theorem. · plain facts: a frame of which one byte is another one isn't opened. · the law of FrameTurned answers true for every kind, all bytes and every bit, if package frame's calls answer as FrameC says. Conditions: those typed in the theorem.
-/
import Derived.Test.YtpjleeeligahaaaGreatDoorGQ6
import Derived.Test.YtpjleeeligahaaaGreatDoorGQ0
import Derived.Test.YtpjleeeligahaaaGreatDoorGQ2
import Derived.Test.YtpjleeeligahaaaGreatDoorGQ4
import Derived.Deep.Cut
import Derived.Test.YtpjleeeligahaaaGreatDoorGQ16
import Derived.Test.YtpjleeeligahaaaGreatDoorGQ14
namespace Go.Proofs.YtpjleeeligahaaaGreatDoor
open Go.RowKit

theorem text_most {s : ByteArray} (h : s.size ≤ 100) : (textB s.data.toList).length ≤ 109 := by
  have hl : s.data.toList.length = s.size := Array.length_toList
  have := numB_small (n := s.size) (by omega)
  unfold textB
  rw [List.length_append, hl]
  omega
theorem val_most {k n : Int} {s : ByteArray} (hk : k = 0 ∨ k = 1 ∨ k = 2) (h0 : -9223372036854775808 ≤ n) (h1 : n ≤ 9223372036854775807) (hs : s.size ≤ 100) : (valB k n s.data.toList).length ≤ 118 := by
  rcases hk with rfl | rfl | rfl
  · rw [valB_0]
    have := numB_small (n := 0) (by omega)
    omega
  · rw [valB_1, List.length_append]
    have := numB_small (n := 1) (by omega)
    have := numB_small (zig_lt h0 h1)
    omega
  · rw [valB_2, List.length_append]
    have := numB_small (n := 2) (by omega)
    have := text_most hs
    omega
theorem clB_most {c : Cl} (h : c.good = true) (hf : c.fits) : (clB c).length ≤ 300 := by
  obtain ⟨h1, h2, h3, h4, h5⟩ := cl_in h
  have a := text_most (s := c.ky) (by omega)
  have b := val_most (s := c.s) (goodB_in h5).1 hf.2.2.1 hf.2.2.2 (by omega)
  unfold clB
  rw [List.length_append]
  omega
theorem flat_most {α : Type} {E : α → List UInt8} {m : Nat} : ∀ (l : List α), (∀ x, x ∈ l → (E x).length ≤ m) → (l.flatMap E).length ≤ l.length * m
  | [], _ => by simp
  | x :: t, h => by
    have h1 := h x (List.mem_cons_self ..)
    have h2 := flat_most t fun y hy => h y (List.mem_cons_of_mem _ hy)
    rw [List.flatMap_cons, List.length_append, List.length_cons, Nat.succ_mul]
    omega
/-- A byte ahead of bytes, as strings. -/
theorem cat_one (b : UInt8) (m : List UInt8) (hm : m.length ≤ 90000) : ∃ sa sb : ByteArray, (⟨([b] ++ m).toArray⟩ : ByteArray) = sa ∧ (⟨m.toArray⟩ : ByteArray) = sb ∧ Op.stringOp .add ⟨#[b]⟩ sb = pure (.string ((⟨#[b]⟩ : ByteArray) ++ sb)) ∧ (sa.toList == ((⟨#[b]⟩ : ByteArray) ++ sb).toList) = true :=
  ⟨_, _, rfl, rfl, str_add' (by show (1 : Nat) ≤ _; omega) (by show m.toArray.size ≤ _; rw [List.size_toArray]; omega), by
    rw [ByteArray.toList_eq, ByteArray.toList_eq]
    simp⟩
theorem end_cases {bh : List UInt8} {m : Nat} (h : bh.length = m) : (endOf (some bh) = 0 ∧ m = 0) ∨ (endOf (some bh) = 2 ∧ m ≠ 0) := by
  subst h
  cases bh with
  | nil => exact .inl ⟨rfl, rfl⟩
  | cons => exact .inr ⟨rfl, by simp⟩
end Go.Proofs.YtpjleeeligahaaaGreatDoor

namespace Go.Proofs.YtpjleeeligahaaaGreatDoor
open Go.RowKit

theorem beB_one {n : Nat} (h : 0 < n) (h2 : n < 256) : beB n = [UInt8.ofNat n] := by
  rw [beB_pos (by omega), show n / 256 = 0 by omega, beB_zero, show n % 256 = n by omega]
  rfl
theorem numB_300 : numB 300 = [2, 1, 44] := by
  unfold numB
  rw [beB_pos (by omega), show 300 / 256 = 1 by omega, beB_one (by omega) (by omega)]
  decide
theorem numB_zig : numB (zig (-1)) = [1, 1] := by
  unfold numB
  rw [show zig (-1) = 1 by decide, beB_one (by omega) (by omega)]
  decide
theorem numB_2 : numB 2 = [1, 2] := by
  unfold numB
  rw [beB_one (by omega) (by omega)]
  decide
theorem textB_ab : textB [97, 98] = [1, 2, 97, 98] := by
  unfold textB
  rw [show ([97, 98] : List UInt8).length = 2 from rfl, numB_2]
  rfl
theorem str_is {l m : List UInt8} (h : l = m) : ((⟨l.toArray⟩ : ByteArray).toList == m) = true := by
  rw [ByteArray.toList_eq, h]
  simp

theorem num_10 : numOf (some [1, 0]) 9 = (0, none) := by decide
theorem grown_of {w w' : World} (h : Below w.heap.size w w') : w.grownBy w' none := ⟨h.os, h.tape, h.output, h.size, fun k hk _ => h.block k hk⟩

end Go.Proofs.YtpjleeeligahaaaGreatDoor

namespace Go.Proofs.YtpjleeeligahaaaGreatDoor
open Go.RowKit

theorem takeNum_nine (l : List UInt8) (most : Nat) : takeNum (9 :: l) most = (0, 0) := by
  rw [takeNum_cons, if_pos (Or.inl (by decide))]
theorem numOf_nine (l : List UInt8) (most : Nat) : numOf (some (9 :: l)) most = (0, none) := by
  unfold numOf
  simp only [takeNum_nine, if_true]

end Go.Proofs.YtpjleeeligahaaaGreatDoor

namespace Go.Proofs.YtpjleeeligahaaaGreatDoor
open Go.RowKit

theorem numB_pos (n : Nat) : (numB n).length ≠ 0 := by rw [numB_len]; omega
theorem numOf_put {n most : Nat} (r : List UInt8) (h : n < 18446744073709551616) (hm : n ≤ most) : numOf (some (numB n ++ r)) most = (n, some r) := by
  unfold numOf
  simp only [take_num r h hm, numB_pos, if_false, List.drop_left]
theorem intOf_put {n : Int} (r : List UInt8) (h0 : -9223372036854775808 ≤ n) (h1 : n ≤ 9223372036854775807) : intOfR (some (numB (zig n) ++ r)) = (n, some r) := by
  unfold intOfR
  simp only [take_int r h0 h1, numB_pos, if_false, List.drop_left]
theorem textOf_put {s : List UInt8} {most : Nat} (r : List UInt8) (h : s.length < 18446744073709551616) (hm : s.length ≤ most) : textOf (some (textB s ++ r)) most = (s, some r) := by
  have hne : (textB s).length ≠ 0 := by unfold textB; rw [List.length_append, numB_len]; omega
  unfold textOf
  simp only [take_text r h hm, hne, if_false, List.drop_left]
theorem flagOf_put (f : Bool) (r : List UInt8) : flagOf (some (flagB f ++ r)) = (f, some r) := by cases f <;> rfl
theorem flagB_len (f : Bool) : (flagB f).length = 1 := by cases f <;> rfl

end Go.Proofs.YtpjleeeligahaaaGreatDoor

namespace Go.Proofs.YtpjleeeligahaaaGreatDoor
open Go.RowKit
attribute [local go_sem ↓] Go.wp_at_zero Go.wp_at_succ

theorem goodAll_all {l : List Wr} (h : goodAll l = true) {x : Wr} (hx : x ∈ l) : x.good = true := by
  unfold goodAll at h
  rw [List.all_eq_true] at h
  exact h x hx

theorem wB_200 {x : Wr} (h : x.good = true) (hf : x.fits) : (wB x).length ≤ 200 := by
  obtain ⟨h1, h2, h3, h4, h5, h6⟩ := good_in h
  obtain ⟨_, _, _, f1, f2⟩ := hf
  have val : ∀ (k n : Int) (s : ByteArray), (k = 0 ∨ k = 1 ∨ k = 2) → -9223372036854775808 ≤ n → n ≤ 9223372036854775807 → s.size ≤ 40 → (valB k n s.data.toList).length ≤ 58 := by
    intro k n s hk g0 g1 hs
    have hl : s.data.toList.length = s.size := Array.length_toList
    rcases hk with rfl | rfl | rfl
    · rw [valB_0]
      have := numB_small (n := 0) (by omega)
      omega
    · rw [valB_1, List.length_append]
      have := numB_small (n := 1) (by omega)
      have := numB_small (zig_lt g0 g1)
      omega
    · rw [valB_2, List.length_append]
      have := numB_small (n := 2) (by omega)
      unfold textB
      rw [List.length_append]
      have := numB_small (n := s.data.toList.length) (by omega)
      omega
  have hl : x.ky.data.toList.length = x.ky.size := Array.length_toList
  unfold wB wrB
  simp only [List.length_append]
  have a1 := numB_small (n := x.dev.toNat) (by omega)
  have a2 := numB_small (n := x.seq.toNat) (by omega)
  have a3 := numB_small (n := x.K.toNat) (by omega)
  have a4 := numB_small (n := x.ky.data.toList.length) (by omega)
  have a5 := val x.ka x.na x.sa h5.1 f1.1 f1.2 h5.2
  have a6 := val x.kb x.nb x.sb h6.1 f2.1 f2.2 h6.2
  unfold textB
  rw [List.length_append]
  omega
theorem wsB_small {l : List Wr} (hg : ∀ x, x ∈ l → x.fits ∧ x.good = true) (hn : l.length ≤ 1000) : (wsB l).length ≤ 9 + 200 * l.length := by
  have key : ∀ l : List Wr, (∀ x, x ∈ l → x.fits ∧ x.good = true) → (l.flatMap wB).length ≤ 200 * l.length := by
    intro l
    induction l with
    | nil => intro _; simp
    | cons x t ih =>
      intro h
      have h1 := ih fun y hy => h y (List.mem_cons_of_mem _ hy)
      have h2 := wB_200 (h x List.mem_cons_self).2 (h x List.mem_cons_self).1
      rw [List.flatMap_cons, List.length_append, List.length_cons]
      omega
  unfold wsB
  rw [List.length_append]
  have := key l hg
  have := numB_small (n := l.length) (by omega)
  omega

end Go.Proofs.YtpjleeeligahaaaGreatDoor

namespace Go.Proofs.YtpjleeeligahaaaGreatDoor
open Go.RowKit

theorem ofNat_inj {x y : Nat} (hx : x < 256) (hy : y < 256) (h : UInt8.ofNat x = UInt8.ofNat y) : x = y := by
  have := congrArg UInt8.toNat h
  rw [UInt8.toNat_ofNat', UInt8.toNat_ofNat'] at this
  omega
theorem fourB_inj {c d : Nat} (hc : c < 4294967296) (hd : d < 4294967296) (h : fourB c = fourB d) : c = d := by
  unfold fourB at h
  simp only [List.cons.injEq, and_true] at h
  obtain ⟨h1, h2, h3, h4⟩ := h
  have e1 := ofNat_inj (by omega) (by omega) h1
  have e2 := ofNat_inj (by omega) (by omega) h2
  have e3 := ofNat_inj (by omega) (by omega) h3
  have e4 := ofNat_inj (by omega) (by omega) h4
  omega
/-- What Open answers: a piece, or a wrong and nothing inside. -/
theorem open_ways (x : List UInt8) : (∃ k b, openF x = (k, b, 0)) ∨ ((openF x).2.1 = [] ∧ ((openF x).2.2 = 2 ∨ (openF x).2.2 = 4)) := by
  unfold openF
  split
  · exact Or.inr ⟨rfl, Or.inl rfl⟩
  · unfold takeF
    split
    · exact Or.inr ⟨rfl, Or.inl rfl⟩
    · split
      · exact Or.inr ⟨rfl, Or.inl rfl⟩
      · split
        · exact Or.inr ⟨rfl, Or.inr rfl⟩
        · exact Or.inl ⟨_, _, rfl⟩
theorem body_inj {k k' : UInt8} {b b' : List UInt8} (h : bodyL k b = bodyL k' b') : k = k' ∧ b = b' := by
  unfold bodyL at h
  simp only [List.cons_append, List.nil_append, List.cons.injEq] at h
  exact ⟨h.2.1, h.2.2.2.2.2⟩
/-- One byte is another one. -/
theorem open_turned {k : UInt8} {b : List UInt8} (_h : b.length ≤ 100000) {j : Nat} {c : UInt8} (hj : j < b.length + 9) (hc : (sealL k b)[j]? ≠ some c) :
    (openF ((sealL k b).set j c)).2.1 = [] ∧ ((openF ((sealL k b).set j c)).2.2 = 2 ∨ (openF ((sealL k b).set j c)).2.2 = 4) := by
  rcases open_ways ((sealL k b).set j c) with ⟨k', b', e⟩ | e
  · exfalso
    obtain ⟨hx, hl⟩ := open_is e
    have hlen : b'.length = b.length := by
      have := congrArg List.length hx
      rw [List.length_set, sealL_len, sealL_len] at this
      omega
    have hbl := bodyL_len k b
    have hbl' := bodyL_len k' b'
    unfold sealL at hx hc
    by_cases hjb : j < b.length + 5
    · rw [List.set_append_left _ _ (by omega)] at hx
      have h1 := List.append_inj_left hx (by rw [List.length_set]; omega)
      have h2 := List.append_inj_right hx (by rw [List.length_set]; omega)
      have h3 := fourB_inj (crcL_lt _) (crcL_lt _) h2
      rw [← h1] at h3
      rw [List.getElem?_append_left (by omega)] at hc
      have hjl : j < (bodyL k b).length := by omega
      have hd : bodyL k b = (bodyL k b).take j ++ (bodyL k b)[j] :: (bodyL k b).drop (j + 1) := by
        rw [← List.drop_eq_getElem_cons hjl, List.take_append_drop]
      have hs : (bodyL k b).set j c = (bodyL k b).take j ++ c :: (bodyL k b).drop (j + 1) := List.set_eq_take_append_cons_drop.trans (if_pos hjl)
      rw [hs] at h3
      rw [List.getElem?_eq_getElem hjl] at hc
      generalize (bodyL k b)[j] = old at hd hc
      have h4 : crcL ((bodyL k b).take j ++ old :: (bodyL k b).drop (j + 1)) = crcL ((bodyL k b).take j ++ c :: (bodyL k b).drop (j + 1)) := by
        rw [← hd]
        exact h3
      have h5 := crcL_one h4
      exact hc (by rw [h5])
    · rw [List.set_append_right _ _ (by omega)] at hx
      have h1 := List.append_inj_left hx (by omega)
      have h2 := List.append_inj_right hx (by omega)
      rw [← h1] at h2
      rw [List.getElem?_append_right (by omega)] at hc
      have hf : (fourB (crcL (bodyL k b))).length = 4 := rfl
      have h6 : ((fourB (crcL (bodyL k b))).set (j - (bodyL k b).length) c)[j - (bodyL k b).length]? = some c := by
        rw [List.getElem?_set_self (by omega)]
      rw [h2] at h6
      exact hc h6
  · exact e
end Go.Proofs.YtpjleeeligahaaaGreatDoor

namespace Go.Proofs.YtpjleeeligahaaaGreatDoor
open Go.RowKit

theorem byteAt_take {x : List UInt8} {m i : Nat} (h : i < m) : byteAt (x.take m) i = byteAt x i := by
  unfold byteAt
  rw [List.getD_eq_getElem?_getD, List.getD_eq_getElem?_getD, List.getElem?_take, if_pos h]
/-- With a byte fewer. -/
theorem open_less (k : UInt8) (b : List UInt8) (h : b.length ≤ 100000) : openF ((sealL k b).take (b.length + 8)) = (0, [], 2) := by
  have hl : ((sealL k b).take (b.length + 8)).length = b.length + 8 := by rw [List.length_take, sealL_len]; omega
  unfold openF
  rw [if_pos]
  refine Or.inr (Classical.byContradiction fun hne => ?_)
  obtain ⟨_, _, _, q4, _⟩ := takeF_size hne
  have e : lenF ((sealL k b).take (b.length + 8)) = b.length := by
    have h1 := lenF_seal k b [] h
    rw [List.append_nil] at h1
    unfold lenF at h1 ⊢
    rw [byteAt_take (by omega), byteAt_take (by omega), byteAt_take (by omega)]
    exact h1
  rw [e, hl] at q4
  omega

set_option maxRecDepth 100000 in
theorem flip8 : ∀ (r : Fin 8) (x : Fin 256), 0 ≤ bits .xor .u8 (x.val : Int) (2 ^ r.val % 256) ∧ bits .xor .u8 (x.val : Int) (2 ^ r.val % 256) < 256 ∧ bits .xor .u8 (x.val : Int) (2 ^ r.val % 256) ≠ (x.val : Int) := by decide +kernel
theorem flip_is (x : UInt8) {r : Nat} (h : r < 8) : ∃ y : UInt8, bits .xor .u8 (x.toNat : Int) (2 ^ r % 256) = (y.toNat : Int) ∧ y ≠ x := by
  obtain ⟨h1, h2, h3⟩ := flip8 ⟨r, h⟩ ⟨x.toNat, x.toNat_lt⟩
  simp only at h1 h2 h3
  refine ⟨UInt8.ofNat (bits .xor .u8 (x.toNat : Int) (2 ^ r % 256)).toNat, ?_, fun e => h3 ?_⟩
  · rw [UInt8.toNat_ofNat']
    omega
  · have := congrArg UInt8.toNat e
    rw [UInt8.toNat_ofNat'] at this
    omega

end Go.Proofs.YtpjleeeligahaaaGreatDoor
