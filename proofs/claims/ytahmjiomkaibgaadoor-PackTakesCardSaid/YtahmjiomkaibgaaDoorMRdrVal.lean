/-
  WHAT IS PROVED: plain facts: the steps by which package pack's reader takes a value come to what the chapter says is taken. No program is spoken of. · package pack's reader: Value: what it answers and leaves, as the chapter says. Conditions: those typed in each theorem. · plain facts: the steps by which package pack's reader takes a write come to what the chapter says is taken. No program is spoken of. · package pack's reader: Write: what it answers and leaves, as the chapter says. Conditions: those typed in each theorem.
-/
import Derived.Test.YtahmjiomkaibgaaDoorMRdr
import Derived.Test.YtahmjiomkaibgaaDoorMTakeWr
import Derived.Test.YtahmjiomkaibgaaDoorMGood
import Derived.Test.YtahmjiomkaibgaaDoorMWrs
namespace Go.Proofs.YtahmjiomkaibgaaDoor

/-- A number of at most less. -/
theorem num_most (b : List UInt8) {m M : Nat} (h : m ≤ M) : takeNum b m = if (takeNum b M).2 = 0 then (0, 0) else if (takeNum b M).1 ≤ m then takeNum b M else (0, 0) := by
  cases b with
  | nil => rfl
  | cons c t =>
    rw [takeNum_cons, takeNum_cons]
    by_cases hc : 8 < c.toNat ∨ t.length < c.toNat ∨ (0 < c.toNat ∧ t.head? = some 0)
    · simp only [if_pos hc]
      rfl
    · simp only [if_neg hc]
      by_cases h1 : M < beV (t.take c.toNat)
      · have h2 : m < beV (t.take c.toNat) := by omega
        simp [h1, h2]
      · by_cases h2 : m < beV (t.take c.toNat)
        · have h3 : ¬ beV (t.take c.toNat) ≤ m := by omega
          simp [h1, h2, h3]
        · have h3 : beV (t.take c.toNat) ≤ m := by omega
          simp [h1, h2, h3]
/-- .. as a reader has it. -/
theorem numOf_most (st : Rest) {m M : Nat} (h : m ≤ M) : numOf st m = if (numOf st M).1 ≤ m then numOf st M else (0, none) := by
  cases st with
  | none => exact (if_pos (Nat.zero_le m)).symm
  | some b =>
    unfold numOf
    dsimp only
    rw [num_most b h]
    by_cases h0 : (takeNum b M).2 = 0
    · simp [h0]
    · by_cases h1 : (takeNum b M).1 ≤ m
      · simp [h0, h1]
      · simp [h0, h1]
theorem numOf_none {st : Rest} {m : Nat} (h : (numOf st m).2 = none) : (numOf st m).1 = 0 := by
  cases st with
  | none => rfl
  | some b =>
    revert h
    unfold numOf
    dsimp only
    by_cases h0 : (takeNum b m).2 = 0
    · simp [h0]
    · simp [h0]

abbrev valZ : Int × Int × List UInt8 := (0, 0, [])
/-- What a reader takes of a value, step by step. -/
def valM (st : Rest) : (Int × Int × List UInt8) × Rest :=
  if (numOf st 9223372036854775807).1 = 1 then (soundM valZ (intOfR (numOf st 9223372036854775807).2).2 (1, (intOfR (numOf st 9223372036854775807).2).1, []), (intOfR (numOf st 9223372036854775807).2).2)
  else if (numOf st 9223372036854775807).1 = 2 then (soundM valZ (textOf (numOf st 9223372036854775807).2 40).2 (2, 0, (textOf (numOf st 9223372036854775807).2 40).1), (textOf (numOf st 9223372036854775807).2 40).2)
  else (valZ, mustM (decide ((numOf st 9223372036854775807).1 = 0)) (numOf st 9223372036854775807).2)
theorem val_is (st : Rest) : valM st = valOf st := by
  cases st with
  | none => rfl
  | some b =>
    have hm := numOf_most (some b) (show 2 ≤ 9223372036854775807 by omega)
    have hv : valOf (some b) = if (takeValC (takeNum b 2).1 (takeNum b 2).2 b).2 = 0 then (valZ, none) else ((takeValC (takeNum b 2).1 (takeNum b 2).2 b).1, some (b.drop (takeValC (takeNum b 2).1 (takeNum b 2).2 b).2)) := rfl
    have hn : numOf (some b) 2 = if (takeNum b 2).2 = 0 then (0, none) else ((takeNum b 2).1, some (b.drop (takeNum b 2).2)) := rfl
    rw [hn] at hm
    rw [hv]
    unfold valM
    generalize numOf (some b) 9223372036854775807 = p at hm ⊢
    generalize takeNum b 2 = T at hm ⊢
    clear hv hn
    obtain ⟨k, st1⟩ := p
    obtain ⟨v, q⟩ := T
    dsimp only at hm ⊢
    by_cases hk : k ≤ 2
    · rw [if_pos hk] at hm
      by_cases hq : q = 0
      · rw [if_pos hq] at hm
        injection hm with h1 h2
        subst h1 h2 hq
        simp [takeValC, mustM_none]
      · rw [if_neg hq] at hm
        injection hm with h1 h2
        subst h1 h2
        have hk3 : v = 0 ∨ v = 1 ∨ v = 2 := by omega
        rcases hk3 with rfl | rfl | rfl
        · simp [takeValC, mustM, hq]
        · by_cases hi : (takeIntB (b.drop q)).2 = 0
          · simp [takeValC, hq, intOfR, soundM, hi]
          · simp [takeValC, hq, intOfR, soundM, hi, List.drop_drop]
        · by_cases hi : (takeTextB (b.drop q) 40).2 = 0
          · simp [takeValC, hq, textOf, soundM, hi]
          · simp [takeValC, hq, textOf, soundM, hi, List.drop_drop]
    · rw [if_neg hk] at hm
      by_cases hq : q = 0
      · subst hq
        have h0 : ¬ k = 0 := by omega
        have h1 : ¬ k = 1 := by omega
        have h2 : ¬ k = 2 := by omega
        simp [takeValC, mustM, h0, h1, h2]
      · rw [if_neg hq] at hm
        injection hm with _ h2
        cases h2
end Go.Proofs.YtahmjiomkaibgaaDoor

namespace Go.Proofs.YtahmjiomkaibgaaDoor
open Go.RowKit

theorem below3_at {B b : Nat} {w W : World} (h : Below B w W) (hb : B ≤ b) (v0 v1 v2 : Value) : Below B w (((W.setCell ⟨b, 0, none⟩ v0).setCell ⟨b, 1, none⟩ v1).setCell ⟨b, 2, none⟩ v2) :=
  ((h.setCell (p := ⟨b, 0, none⟩) hb v0).setCell (p := ⟨b, 1, none⟩) hb v1).setCell (p := ⟨b, 2, none⟩) hb v2

set_option maxRecDepth 100000 in
set_option maxHeartbeats 1000000 in
theorem soundV_any (S : Addr) (g : Nat) (st : Rest) (k x : Int) (s : ByteArray) (w : World) (hR : RdrP S w g st) :
    Calls Tryd.prog 65 #[.pointer (some ⟨g, 0, none⟩), .agg #[.int .i64 k, .int .i64 x, .string s]] w fun e w' => e = .returned (soundM (.agg #[.int .i64 0, .int .i64 0, .string ⟨#[]⟩]) st (.agg #[.int .i64 k, .int .i64 x, .string s])) ∧ Below w.heap.size w w' := by
  have hlt := hR.lt
  cases st with
  | none =>
    obtain ⟨e1, he1, hb⟩ := hR
    obtain ⟨t1, v1, rfl⟩ := errP_nil he1
    have c1 := hb.cell 1
    go_enter Tryd.func65, Tryd.ntmps65
    go_wp2_with fail
    exact bodyPost_ret (v := .agg #[.int .i64 0, .int .i64 0, .string ⟨#[]⟩]) (by simp [results, Tryd.results65, go_sem]) rfl ⟨rfl, by repeat (first | exact Below.refl _ _ | (refine Below.alloc ?_ (by simp <;> omega) _) | (refine Below.setCell ?_ (by simp <;> omega) _))⟩
  | some b =>
    obtain ⟨hl, s1, hs, hb⟩ := hR
    have c1 := hb.cell 1
    go_enter Tryd.func65, Tryd.ntmps65
    go_wp2_with fail
    exact bodyPost_ret (v := .agg #[.int .i64 k, .int .i64 x, .string s]) (by simp [results, Tryd.results65, go_sem]) rfl ⟨rfl, by repeat (first | exact Below.refl _ _ | (refine Below.alloc ?_ (by simp <;> omega) _) | (refine Below.setCell ?_ (by simp <;> omega) _))⟩

theorem getM (st : Rest) (k x : Int) (l : List UInt8) (s : ByteArray) (hs : s.data.toList = l) :
    ∃ s2 : ByteArray, soundM (.agg #[.int .i64 0, .int .i64 0, .string ⟨#[]⟩]) st (.agg #[.int .i64 k, .int .i64 x, .string s]) = Value.agg #[.int .i64 (soundM valZ st (k, x, l)).1, .int .i64 (soundM valZ st (k, x, l)).2.1, .string s2] ∧ s2.data.toList = (soundM valZ st (k, x, l)).2.2 := by
  cases st with
  | none => exact ⟨⟨#[]⟩, rfl, rfl⟩
  | some b => exact ⟨s, rfl, hs⟩
theorem RdrP.set3 {S : Addr} {W : World} {g b : Nat} {st : Rest} (h : RdrP S W g st) (hne : b ≠ g) (v0 v1 v2 : Value) : RdrP S (((W.setCell ⟨b, 0, none⟩ v0).setCell ⟨b, 1, none⟩ v1).setCell ⟨b, 2, none⟩ v2) g st := by
  have hr : some b ≠ some g := by intro e; injection e; omega
  exact ((h.keep set_grown hr).keep set_grown hr).keep set_grown hr
theorem grown_set {w W : World} {g b i : Nat} {v : Value} (h : w.grownBy W (some g)) (hb : w.heap.size ≤ b) : w.grownBy (W.setCell ⟨b, i, none⟩ v) (some g) :=
  h.andThen (set_grown (g := b)) (fun j e => by injection e with e; exact .inl (by omega))
theorem textOf_most (st : Rest) (most : Nat) : (textOf st most).1.length ≤ most := by
  rw [← text_is]
  exact Nat.le_trans (takeM_len _ _) (numOf_lt st most).1
theorem good_one (x : Int) : goodB 1 x ⟨#[]⟩ = true := by
  unfold goodB
  simp
  rfl
theorem good_two (s : ByteArray) (h : s.size ≤ 40) : goodB 2 0 s = true := by
  unfold goodB
  simp [h]
theorem good_nat (k : Nat) (h1 : ¬ k = 1) (h2 : ¬ k = 2) : goodB (k : Int) 0 ⟨#[]⟩ = decide (k = 0) := by
  have h1' : ¬ (k : Int) = 1 := by omega
  have h2' : ¬ (k : Int) = 2 := by omega
  unfold goodB
  rw [Bool.eq_iff_iff]
  simp [h1', h2']
  intro _
  rfl
set_option maxRecDepth 100000 in
set_option maxHeartbeats 2000000 in
theorem rValue_any (S : Addr) (g : Nat) (st : Rest) (w : World) (hL : LaidP S w) (hR : RdrP S w g st) :
    Calls Tryd.prog 39 #[.pointer (some ⟨g, 0, none⟩)] w fun e w' => (∃ s : ByteArray, e = .returned (.agg #[.int .i64 (valOf st).1.1, .int .i64 (valOf st).1.2.1, .string s]) ∧ s.data.toList = (valOf st).1.2.2) ∧ RdrP S w' g (valOf st).2 ∧ w.grownBy w' (some g) := by
  rw [← val_is]
  unfold valM
  have hlt := hR.lt
  have hB := b0 w (.cells #[.int .i64 0, .int .i64 0, .string ⟨#[]⟩] 44)
  have hK0 := blk_new w #[.int .i64 0, .int .i64 0, .string ⟨#[]⟩] 44
  have HL := Lib.hid (fun W' (hg : w.grownBy W' (some g)) => hL.grown hR hg)
  have HM := Lib.hid (fun W (hb : Below w.heap.size w W) => small_any S g st W (hL.keep hb) (hR.below hb))
  have hn := (numOf_lt st 9223372036854775807).1
  generalize numOf st 9223372036854775807 = p at HM hn ⊢
  obtain ⟨k, st1⟩ := p
  dsimp only at HM hn ⊢
  clear hL hR
  have hk3 : k = 1 ∨ k = 2 ∨ (¬ k = 1 ∧ ¬ k = 2) := by omega
  rcases hk3 with rfl | rfl | ⟨hk1, hk2⟩
  · rw [if_pos rfl]
    have HI := Lib.hid (fun W hL hR => rInt_any S g st1 W hL hR)
    generalize intOfR st1 = q at HI ⊢
    obtain ⟨x, st2⟩ := q
    dsimp only at HI ⊢
    go_enter Tryd.func39, Tryd.ntmps39
    go_wp2_with fail
    have hM := HM.out _ hB
    generalize w.alloc (.cells #[.int .i64 0, .int .i64 0, .string ⟨#[]⟩] 44) = W at hB hK0 hM ⊢
    have hG0 := grown_below hB (some g)
    refine hM.mono ?_
    rintro e w1 ⟨rfl, hR1, hg1⟩
    have hK1 := blk_grown hK0 hg1 (by intro e; injection e; omega)
    have hG1 := hG0.trans hg1
    have hvb := hG1.size
    clear hM hK0 hG0 hg1 hB
    generalize hrb : w.heap.size = rb at hK1 hlt ⊢
    go_wp2_with fail
    have hB1 := b0 w1 (.cells #[.int .i64 1, .int .i64 0, .string ⟨#[]⟩] 44)
    have hV1 := blk_new w1 #[.int .i64 1, .int .i64 0, .string ⟨#[]⟩] 44
    have hlg1 := hR1.lt
    have hlb1 := hK1.lt
    replace hK1 := hK1.keep hB1
    replace hR1 := hR1.below hB1
    replace hG1 := hG1.trans (grown_below hB1 (some g))
    generalize w1.alloc (.cells #[.int .i64 1, .int .i64 0, .string ⟨#[]⟩] 44) = W1 at hV1 hK1 hR1 hG1 ⊢
    generalize w1.heap.size = vb at hV1 hlg1 hlb1 hvb ⊢
    have hne1 : vb ≠ g := by omega
    have hne2 : vb ≠ rb := by omega
    have hne3 : rb ≠ g := by omega
    refine (HI.out W1 (HL.out W1 hG1) hR1).mono ?_
    rintro e w2 ⟨rfl, hR2, hg2⟩
    have hV2 := blk_grown hV1 hg2 (by intro e; injection e; omega)
    have hK2 := blk_grown hK1 hg2 (by intro e; injection e; omega)
    have hG2 := hG1.trans hg2
    clear hV1 hK1 hg2 hG1 hR1 hB1
    obtain ⟨c0, c1, c2, c3⟩ := hV2.c3
    obtain ⟨f0, f1, f2⟩ := hV2.f3
    go_wp2_with fail
    have hV3 : Blk (w2.setCell ⟨vb, 1, none⟩ (.int .i64 x)) vb #[.int .i64 1, .int .i64 x, .string ⟨#[]⟩] 44 := hV2.set 1 (.int .i64 x)
    have hK3 := blk_grown hK2 (set_grown (W := w2) (g := vb) (i := 1) (v := (.int .i64 x))) (by intro e; injection e; omega)
    have hR3 := hR2.keep (set_grown (W := w2) (g := vb) (i := 1) (v := (.int .i64 x))) (by intro e; injection e; omega)
    have hG3 := grown_set (i := 1) (v := (.int .i64 x)) hG2 hvb
    clear c0 c1 c2 c3 f0 f1 f2 hV2 hK2 hR2 hG2
    generalize w2.setCell ⟨vb, 1, none⟩ (.int .i64 x) = W2 at hV3 hK3 hR3 hG3 ⊢
    refine (good_any 1 x ⟨#[]⟩ W2 (by decide)).mono ?_
    rintro e w3 ⟨rfl, hb3⟩
    rw [good_one x]
    replace hV3 := hV3.keep hb3
    replace hK3 := hK3.keep hb3
    replace hR3 := hR3.below hb3
    replace hG3 := hG3.trans (grown_below hb3 (some g))
    clear hb3
    obtain ⟨c0, c1, c2, c3⟩ := hV3.c3
    go_wp2_with fail
    refine (must_any S g _ _ _ w3 hR3).mono ?_
    rintro e w4 ⟨rfl, hR4, hg4⟩
    replace hV3 := blk_grown hV3 hg4 (by intro e; injection e; omega)
    replace hK3 := blk_grown hK3 hg4 (by intro e; injection e; omega)
    replace hG3 := hG3.trans hg4
    clear hg4 hR3 c0 c1 c2 c3
    obtain ⟨c0, c1, c2, c3⟩ := hV3.c3
    go_wp2_with fail
    refine (soundV_any S g _ 1 x ⟨#[]⟩ w4 hR4).mono ?_
    rintro e w5 ⟨rfl, hb5⟩
    obtain ⟨s9, e9, hs9⟩ := getM (mustM true st2) 1 x [] ⟨#[]⟩ rfl
    rw [e9]
    replace hK3 := hK3.keep hb5
    replace hR4 := hR4.below hb5
    replace hG3 := hG3.trans (grown_below hb5 (some g))
    have hS9 := Lib.hid hs9
    clear hb5 c0 c1 c2 c3 hV3 e9 hs9
    obtain ⟨c0, c1, c2, c3⟩ := hK3.c3
    obtain ⟨f0, f1, f2⟩ := hK3.f3
    go_wp2_with fail
    exact bodyPost_ret (v := .agg #[.int .i64 (soundM valZ (mustM true st2) (1, x, [])).1, .int .i64 (soundM valZ (mustM true st2) (1, x, [])).2.1, .string s9]) (by simp [results, Tryd.results39, go_sem, c0, c1, c2]) rfl ⟨⟨s9, rfl, hS9.out⟩, hR4.set3 hne3 _ _ _, grown_set (grown_set (grown_set hG3 (by omega)) (by omega)) (by omega)⟩
  · rw [if_neg (by omega), if_pos rfl]
    have HI := Lib.hid (fun W hL hR => rText_any S g st1 40 W hL hR (by omega))
    have h40 := textOf_most st1 40
    generalize textOf st1 40 = q at HI h40 ⊢
    obtain ⟨l, st2⟩ := q
    dsimp only at HI h40 ⊢
    go_enter Tryd.func39, Tryd.ntmps39
    go_wp2_with fail
    have hM := HM.out _ hB
    generalize w.alloc (.cells #[.int .i64 0, .int .i64 0, .string ⟨#[]⟩] 44) = W at hB hK0 hM ⊢
    have hG0 := grown_below hB (some g)
    refine hM.mono ?_
    rintro e w1 ⟨rfl, hR1, hg1⟩
    have hK1 := blk_grown hK0 hg1 (by intro e; injection e; omega)
    have hG1 := hG0.trans hg1
    have hvb := hG1.size
    clear hM hK0 hG0 hg1 hB
    generalize hrb : w.heap.size = rb at hK1 hlt ⊢
    go_wp2_with fail
    have hB1 := b0 w1 (.cells #[.int .i64 2, .int .i64 0, .string ⟨#[]⟩] 44)
    have hV1 := blk_new w1 #[.int .i64 2, .int .i64 0, .string ⟨#[]⟩] 44
    have hlg1 := hR1.lt
    have hlb1 := hK1.lt
    replace hK1 := hK1.keep hB1
    replace hR1 := hR1.below hB1
    replace hG1 := hG1.trans (grown_below hB1 (some g))
    generalize w1.alloc (.cells #[.int .i64 2, .int .i64 0, .string ⟨#[]⟩] 44) = W1 at hV1 hK1 hR1 hG1 ⊢
    generalize w1.heap.size = vb at hV1 hlg1 hlb1 hvb ⊢
    have hne1 : vb ≠ g := by omega
    have hne2 : vb ≠ rb := by omega
    have hne3 : rb ≠ g := by omega
    refine (HI.out W1 (HL.out W1 hG1) hR1).mono ?_
    rintro e w2 ⟨⟨s, rfl, hs⟩, hR2, hg2⟩
    have hV2 := blk_grown hV1 hg2 (by intro e; injection e; omega)
    have hK2 := blk_grown hK1 hg2 (by intro e; injection e; omega)
    have hG2 := hG1.trans hg2
    clear hV1 hK1 hg2 hG1 hR1 hB1
    obtain ⟨c0, c1, c2, c3⟩ := hV2.c3
    obtain ⟨f0, f1, f2⟩ := hV2.f3
    go_wp2_with fail
    have hV3 : Blk (w2.setCell ⟨vb, 2, none⟩ (.string s)) vb #[.int .i64 2, .int .i64 0, .string s] 44 := hV2.set 2 (.string s)
    have hK3 := blk_grown hK2 (set_grown (W := w2) (g := vb) (i := 2) (v := (.string s))) (by intro e; injection e; omega)
    have hR3 := hR2.keep (set_grown (W := w2) (g := vb) (i := 2) (v := (.string s))) (by intro e; injection e; omega)
    have hG3 := grown_set (i := 2) (v := (.string s)) hG2 hvb
    clear c0 c1 c2 c3 f0 f1 f2 hV2 hK2 hR2 hG2
    generalize w2.setCell ⟨vb, 2, none⟩ (.string s) = W2 at hV3 hK3 hR3 hG3 ⊢
    have hs40 : s.size ≤ 40 := by
      have : s.size = s.data.toList.length := Array.length_toList.symm
      rw [this, hs]
      exact h40
    refine (good_any 2 0 s W2 (by unfold maxLen; omega)).mono ?_
    rintro e w3 ⟨rfl, hb3⟩
    rw [good_two s hs40]
    replace hV3 := hV3.keep hb3
    replace hK3 := hK3.keep hb3
    replace hR3 := hR3.below hb3
    replace hG3 := hG3.trans (grown_below hb3 (some g))
    clear hb3
    obtain ⟨c0, c1, c2, c3⟩ := hV3.c3
    go_wp2_with fail
    refine (must_any S g _ _ _ w3 hR3).mono ?_
    rintro e w4 ⟨rfl, hR4, hg4⟩
    replace hV3 := blk_grown hV3 hg4 (by intro e; injection e; omega)
    replace hK3 := blk_grown hK3 hg4 (by intro e; injection e; omega)
    replace hG3 := hG3.trans hg4
    clear hg4 hR3 c0 c1 c2 c3
    obtain ⟨c0, c1, c2, c3⟩ := hV3.c3
    go_wp2_with fail
    refine (soundV_any S g _ 2 0 s w4 hR4).mono ?_
    rintro e w5 ⟨rfl, hb5⟩
    obtain ⟨s9, e9, hs9⟩ := getM (mustM true st2) 2 0 l s hs
    rw [e9]
    replace hK3 := hK3.keep hb5
    replace hR4 := hR4.below hb5
    replace hG3 := hG3.trans (grown_below hb5 (some g))
    have hS9 := Lib.hid hs9
    clear hb5 c0 c1 c2 c3 hV3 e9 hs9
    obtain ⟨c0, c1, c2, c3⟩ := hK3.c3
    obtain ⟨f0, f1, f2⟩ := hK3.f3
    go_wp2_with fail
    exact bodyPost_ret (v := .agg #[.int .i64 (soundM valZ (mustM true st2) (2, 0, l)).1, .int .i64 (soundM valZ (mustM true st2) (2, 0, l)).2.1, .string s9]) (by simp [results, Tryd.results39, go_sem, c0, c1, c2]) rfl ⟨⟨s9, rfl, hS9.out⟩, hR4.set3 hne3 _ _ _, grown_set (grown_set (grown_set hG3 (by omega)) (by omega)) (by omega)⟩
  · rw [if_neg hk1, if_neg hk2]
    have hq1 : ¬ (k : Int) = 1 := by omega
    have hq2 : ¬ (k : Int) = 2 := by omega
    go_enter Tryd.func39, Tryd.ntmps39
    go_wp2_with fail
    have hM := HM.out _ hB
    generalize w.alloc (.cells #[.int .i64 0, .int .i64 0, .string ⟨#[]⟩] 44) = W at hB hK0 hM ⊢
    have hG0 := grown_below hB (some g)
    refine hM.mono ?_
    rintro e w1 ⟨rfl, hR1, hg1⟩
    have hK1 := blk_grown hK0 hg1 (by intro e; injection e; omega)
    have hG1 := hG0.trans hg1
    have hvb := hG1.size
    clear hM hK0 hG0 hg1 hB
    generalize hrb : w.heap.size = rb at hK1 hlt ⊢
    go_wp2_with fail
    have hB1 := b0 w1 (.cells #[.int .i64 k, .int .i64 0, .string ⟨#[]⟩] 44)
    have hV1 := blk_new w1 #[.int .i64 k, .int .i64 0, .string ⟨#[]⟩] 44
    have hlg1 := hR1.lt
    have hlb1 := hK1.lt
    replace hK1 := hK1.keep hB1
    replace hR1 := hR1.below hB1
    replace hG1 := hG1.trans (grown_below hB1 (some g))
    generalize w1.alloc (.cells #[.int .i64 k, .int .i64 0, .string ⟨#[]⟩] 44) = W1 at hV1 hK1 hR1 hG1 ⊢
    generalize w1.heap.size = vb at hV1 hlg1 hlb1 hvb ⊢
    have hne1 : vb ≠ g := by omega
    have hne2 : vb ≠ rb := by omega
    have hne3 : rb ≠ g := by omega
    have hV3 := hV1
    have hK3 := hK1
    have hR3 := hR1
    have hG3 := hG1
    clear hV1 hK1 hR1 hG1 hB1
    have hzz : soundM valZ (mustM (decide (k = 0)) st1) ((k : Int), 0, []) = valZ := by
      by_cases hk0 : k = 0
      · subst hk0
        cases st1 <;> rfl
      · simp [mustM, hk0, soundM]
    generalize W1 = W2 at hV3 hK3 hR3 hG3 ⊢
    refine (good_any k 0 ⟨#[]⟩ W2 (by decide)).mono ?_
    rintro e w3 ⟨rfl, hb3⟩
    rw [good_nat k hk1 hk2]
    replace hV3 := hV3.keep hb3
    replace hK3 := hK3.keep hb3
    replace hR3 := hR3.below hb3
    replace hG3 := hG3.trans (grown_below hb3 (some g))
    clear hb3
    obtain ⟨c0, c1, c2, c3⟩ := hV3.c3
    go_wp2_with fail
    refine (must_any S g _ _ _ w3 hR3).mono ?_
    rintro e w4 ⟨rfl, hR4, hg4⟩
    replace hV3 := blk_grown hV3 hg4 (by intro e; injection e; omega)
    replace hK3 := blk_grown hK3 hg4 (by intro e; injection e; omega)
    replace hG3 := hG3.trans hg4
    clear hg4 hR3 c0 c1 c2 c3
    obtain ⟨c0, c1, c2, c3⟩ := hV3.c3
    go_wp2_with fail
    refine (soundV_any S g _ k 0 ⟨#[]⟩ w4 hR4).mono ?_
    rintro e w5 ⟨rfl, hb5⟩
    obtain ⟨s9, e9, hs9⟩ := getM (mustM (decide (k = 0)) st1) k 0 [] ⟨#[]⟩ rfl
    rw [hzz] at e9 hs9
    rw [e9]
    replace hK3 := hK3.keep hb5
    replace hR4 := hR4.below hb5
    replace hG3 := hG3.trans (grown_below hb5 (some g))
    have hS9 := Lib.hid hs9
    clear hb5 c0 c1 c2 c3 hV3 e9 hs9
    obtain ⟨c0, c1, c2, c3⟩ := hK3.c3
    obtain ⟨f0, f1, f2⟩ := hK3.f3
    go_wp2_with fail
    exact bodyPost_ret (v := .agg #[.int .i64 valZ.1, .int .i64 valZ.2.1, .string s9]) (by simp [results, Tryd.results39, go_sem, c0, c1, c2]) rfl ⟨⟨s9, rfl, hS9.out⟩, hR4.set3 hne3 _ _ _, grown_set (grown_set (grown_set hG3 (by omega)) (by omega)) (by omega)⟩
end Go.Proofs.YtahmjiomkaibgaaDoor

namespace Go.Proofs.YtahmjiomkaibgaaDoor

/-- What a reader takes of a write behind its three numbers. -/
def wrX (d q kk : Nat) (st3 : Rest) : Wr := ⟨(d : Int), (q : Int), (kk : Int), ⟨(textOf st3 20).1.toArray⟩, (valOf (textOf st3 20).2).1.1, (valOf (textOf st3 20).2).1.2.1, ⟨(valOf (textOf st3 20).2).1.2.2.toArray⟩, (valOf (valOf (textOf st3 20).2).2).1.1, (valOf (valOf (textOf st3 20).2).2).1.2.1, ⟨(valOf (valOf (textOf st3 20).2).2).1.2.2.toArray⟩⟩
def wrS (d q kk : Nat) (st3 : Rest) : Rest := mustM (wrX d q kk st3).good (valOf (valOf (textOf st3 20).2).2).2
def wrC2 (d q kk : Nat) (st3 : Rest) : Wr × Rest := (soundM wrNo (wrS d q kk st3) (wrX d q kk st3), wrS d q kk st3)
def wrM (m : Nat) (st : Rest) : Wr × Rest := wrC2 (numOf st m).1 (numOf (numOf st m).2 m).1 (numOf (numOf (numOf st m).2 m).2 m).1 (numOf (numOf (numOf st m).2 m).2 m).2
theorem wrC_none (d q kk : Nat) : wrC2 d q kk none = (wrNo, none) := by
  have e : wrS d q kk none = none := mustM_none _
  unfold wrC2
  rw [e]
  rfl
theorem wrC_bad {d q kk : Nat} {st3 : Rest} (h : (wrX d q kk st3).good = false) : wrC2 d q kk st3 = (wrNo, none) := by
  have e : wrS d q kk st3 = none := by unfold wrS; rw [h]; rfl
  unfold wrC2
  rw [e]
  rfl
theorem wrC_big {d q kk : Nat} (st3 : Rest) (h : 1000 < d ∨ 1000 < q ∨ 1000 < kk) : wrC2 d q kk st3 = (wrNo, none) := by
  refine wrC_bad ?_
  cases hg : (wrX d q kk st3).good with
  | false => rfl
  | true =>
    have := good_in hg
    have h1 : (wrX d q kk st3).dev = (d : Int) := rfl
    have h2 : (wrX d q kk st3).seq = (q : Int) := rfl
    have h3 : (wrX d q kk st3).K = (kk : Int) := rfl
    rw [h1, h2, h3] at this
    omega
theorem wrM_less (st : Rest) : wrM 9223372036854775807 st = wrM 1000 st := by
  have hM : (1000 : Nat) ≤ 9223372036854775807 := by omega
  unfold wrM
  have e1 := numOf_most st hM
  by_cases h1 : (numOf st 9223372036854775807).1 ≤ 1000
  · rw [if_pos h1] at e1
    rw [e1]
    generalize numOf st 9223372036854775807 = p1
    have e2 := numOf_most p1.2 hM
    by_cases h2 : (numOf p1.2 9223372036854775807).1 ≤ 1000
    · rw [if_pos h2] at e2
      rw [e2]
      generalize numOf p1.2 9223372036854775807 = p2
      have e3 := numOf_most p2.2 hM
      by_cases h3 : (numOf p2.2 9223372036854775807).1 ≤ 1000
      · rw [if_pos h3] at e3
        rw [e3]
      · rw [if_neg h3] at e3
        rw [e3, wrC_big _ (by omega)]
        exact (wrC_none _ _ _).symm
    · rw [if_neg h2] at e2
      rw [e2, wrC_big _ (by omega)]
      exact (wrC_none _ _ _).symm
  · rw [if_neg h1] at e1
    rw [e1, wrC_big _ (by omega)]
    exact (wrC_none _ _ _).symm

theorem numOf_at (l : List UInt8) (j : Nat) : numOf (some (l.drop (posW l j))) 1000 = if (numW l j).2 = 0 then (0, none) else ((numW l j).1, some (l.drop (posW l (j + 1)))) := by
  rw [posW_succ, ← List.drop_drop]
  rfl
theorem wr_is (st : Rest) : wrM 9223372036854775807 st = wrOf st := by
  rw [wrM_less]
  cases st with
  | none => exact wrC_none _ _ _
  | some l =>
    have hno : ¬ stdW l → wrOf (some l) = (wrNo, none) := fun h => by
      unfold wrOf
      dsimp only
      rw [takeWr_no h]
      rfl
    unfold wrM
    have e0 : numOf (some l) 1000 = if (numW l 0).2 = 0 then (0, none) else ((numW l 0).1, some (l.drop (posW l 1))) := numOf_at l 0
    by_cases h0 : (numW l 0).2 = 0
    · rw [if_pos h0] at e0
      rw [e0, hno (fun h => h.1 0 (by omega) h0)]
      exact wrC_none _ _ _
    rw [if_neg h0] at e0
    rw [e0]
    dsimp only
    have e1 : numOf (some (l.drop (posW l 1))) 1000 = if (numW l 1).2 = 0 then (0, none) else ((numW l 1).1, some (l.drop (posW l 2))) := numOf_at l 1
    by_cases h1 : (numW l 1).2 = 0
    · rw [if_pos h1] at e1
      rw [e1, hno (fun h => h.1 1 (by omega) h1)]
      exact wrC_none _ _ _
    rw [if_neg h1] at e1
    rw [e1]
    dsimp only
    have e2 : numOf (some (l.drop (posW l 2))) 1000 = if (numW l 2).2 = 0 then (0, none) else ((numW l 2).1, some (l.drop (posW l 3))) := numOf_at l 2
    by_cases h2 : (numW l 2).2 = 0
    · rw [if_pos h2] at e2
      rw [e2, hno (fun h => h.1 2 (by omega) h2)]
      exact wrC_none _ _ _
    rw [if_neg h2] at e2
    rw [e2]
    dsimp only
    have e3 : textOf (some (l.drop (posW l 3))) 20 = if (textW l).2 = 0 then ([], none) else ((textW l).1, some (l.drop (posW l 3 + (textW l).2))) := by
      rw [← List.drop_drop]
      rfl
    have e4 : valOf (some (l.drop (posW l 3 + (textW l).2))) = if (val1W l).2 = 0 then (valZ, none) else ((val1W l).1, some (l.drop (posW l 3 + (textW l).2 + (val1W l).2))) := by
      rw [show l.drop (posW l 3 + (textW l).2 + (val1W l).2) = (l.drop (posW l 3 + (textW l).2)).drop (val1W l).2 from List.drop_drop.symm]
      rfl
    have e5 : valOf (some (l.drop (posW l 3 + (textW l).2 + (val1W l).2))) = if (val2W l).2 = 0 then (valZ, none) else ((val2W l).1, some (l.drop (posW l 3 + (textW l).2 + (val1W l).2 + (val2W l).2))) := by
      rw [show l.drop (posW l 3 + (textW l).2 + (val1W l).2 + (val2W l).2) = (l.drop (posW l 3 + (textW l).2 + (val1W l).2)).drop (val2W l).2 from List.drop_drop.symm]
      rfl
    have hz : valOf none = (valZ, none) := rfl
    by_cases h3 : (textW l).2 = 0
    · rw [if_pos h3] at e3
      rw [hno (fun h => h.2.1 h3)]
      unfold wrC2 wrS
      rw [e3]
      dsimp only
      rw [hz]
      dsimp only
      rw [hz, mustM_none]
      rfl
    rw [if_neg h3] at e3
    by_cases h4 : (val1W l).2 = 0
    · rw [if_pos h4] at e4
      rw [hno (fun h => h.2.2.1 h4)]
      unfold wrC2 wrS
      rw [e3]
      dsimp only
      rw [e4]
      dsimp only
      rw [hz, mustM_none]
      rfl
    rw [if_neg h4] at e4
    by_cases h5 : (val2W l).2 = 0
    · rw [if_pos h5] at e5
      rw [hno (fun h => h.2.2.2.1 h5)]
      unfold wrC2 wrS
      rw [e3]
      dsimp only
      rw [e4]
      dsimp only
      rw [e5, mustM_none]
      rfl
    rw [if_neg h5] at e5
    have ex : wrX (numW l 0).1 (numW l 1).1 (numW l 2).1 (some (l.drop (posW l 3))) = gotW l := by
      simp only [wrX, e3, e4, e5, gotW]
    have es : wrS (numW l 0).1 (numW l 1).1 (numW l 2).1 (some (l.drop (posW l 3))) = mustM (gotW l).good (some (l.drop (posW l 3 + (textW l).2 + (val1W l).2 + (val2W l).2))) := by
      unfold wrS
      rw [ex, e3]
      dsimp only
      rw [e4]
      dsimp only
      rw [e5]
    unfold wrC2
    rw [ex, es]
    cases hg : (gotW l).good with
    | false =>
      rw [hno (fun h => by have h9 := h.2.2.2.2; rw [hg] at h9; cases h9)]
      rfl
    | true =>
      have hstd : stdW l := ⟨fun m hm => by
        have : m = 0 ∨ m = 1 ∨ m = 2 := by omega
        rcases this with rfl | rfl | rfl
        · exact h0
        · exact h1
        · exact h2, h3, h4, h5, hg⟩
      unfold wrOf
      dsimp only
      rw [takeWr_yes hstd]
      have hpos : ¬ posW l 3 + (textW l).2 + (val1W l).2 + (val2W l).2 = 0 := by omega
      rw [if_neg hpos]
      rfl

theorem int_fits (st : Rest) : -9223372036854775808 ≤ (intOfR st).1 ∧ (intOfR st).1 ≤ 9223372036854775807 := by
  cases st with
  | none => exact ⟨by show (-9223372036854775808 : Int) ≤ 0; omega, by show (0 : Int) ≤ 9223372036854775807; omega⟩
  | some b =>
    unfold intOfR takeIntB
    dsimp only
    by_cases h : (takeNum b 18446744073709551615).2 = 0
    · rw [if_pos h]
      exact ⟨by show (-9223372036854775808 : Int) ≤ 0; omega, by show (0 : Int) ≤ 9223372036854775807; omega⟩
    · rw [if_neg h]
      exact unzig_in (num_take (show takeNum b 18446744073709551615 = ((takeNum b 18446744073709551615).1, (takeNum b 18446744073709551615).2) from rfl) h).2.1
theorem val_fits (st : Rest) : (-9223372036854775808 ≤ (valOf st).1.2.1 ∧ (valOf st).1.2.1 ≤ 9223372036854775807) ∧ (valOf st).1.2.2.length ≤ 40 := by
  have hz : ((-9223372036854775808 : Int) ≤ valZ.2.1 ∧ valZ.2.1 ≤ 9223372036854775807) ∧ valZ.2.2.length ≤ 40 := ⟨⟨by show (-9223372036854775808 : Int) ≤ 0; omega, by show (0 : Int) ≤ 9223372036854775807; omega⟩, Nat.zero_le _⟩
  have hs : ∀ (st : Rest) (v : Int × Int × List UInt8), ((-9223372036854775808 ≤ v.2.1 ∧ v.2.1 ≤ 9223372036854775807) ∧ v.2.2.length ≤ 40) → ((-9223372036854775808 ≤ (soundM valZ st v).2.1 ∧ (soundM valZ st v).2.1 ≤ 9223372036854775807) ∧ (soundM valZ st v).2.2.length ≤ 40) := by
    intro st v hv
    cases st with
    | none => exact hz
    | some b => exact hv
  rw [← val_is]
  unfold valM
  split
  · exact hs _ _ ⟨int_fits _, Nat.zero_le _⟩
  · split
    · exact hs _ _ ⟨⟨by show (-9223372036854775808 : Int) ≤ 0; omega, by show (0 : Int) ≤ 9223372036854775807; omega⟩, by rw [← text_is]; exact Nat.le_trans (takeM_len _ _) (numOf_lt _ 40).1⟩
    · exact hz
end Go.Proofs.YtahmjiomkaibgaaDoor

namespace Go.Proofs.YtahmjiomkaibgaaDoor
open Go.RowKit

theorem RdrP.set1 {S : Addr} {W : World} {g b i : Nat} {v : Value} {st : Rest} (h : RdrP S W g st) (hne : b ≠ g) : RdrP S (W.setCell ⟨b, i, none⟩ v) g st :=
  h.keep set_grown (by intro e; injection e; omega)
theorem grown10 {w W : World} {g b : Nat} (h : w.grownBy W (some g)) (hb : w.heap.size ≤ b) (v0 v1 v2 v3 v4 v5 v6 v7 v8 v9 : Value) : w.grownBy ((((((((((W.setCell ⟨b, 0, none⟩ v0).setCell ⟨b, 1, none⟩ v1).setCell ⟨b, 2, none⟩ v2).setCell ⟨b, 3, none⟩ v3).setCell ⟨b, 4, none⟩ v4).setCell ⟨b, 5, none⟩ v5).setCell ⟨b, 6, none⟩ v6).setCell ⟨b, 7, none⟩ v7).setCell ⟨b, 8, none⟩ v8).setCell ⟨b, 9, none⟩ v9) (some g) :=
  grown_set (grown_set (grown_set (grown_set (grown_set (grown_set (grown_set (grown_set (grown_set (grown_set h hb) hb) hb) hb) hb) hb) hb) hb) hb) hb
theorem RdrP.set10 {S : Addr} {W : World} {g b : Nat} {st : Rest} (h : RdrP S W g st) (hne : b ≠ g) (v0 v1 v2 v3 v4 v5 v6 v7 v8 v9 : Value) : RdrP S ((((((((((W.setCell ⟨b, 0, none⟩ v0).setCell ⟨b, 1, none⟩ v1).setCell ⟨b, 2, none⟩ v2).setCell ⟨b, 3, none⟩ v3).setCell ⟨b, 4, none⟩ v4).setCell ⟨b, 5, none⟩ v5).setCell ⟨b, 6, none⟩ v6).setCell ⟨b, 7, none⟩ v7).setCell ⟨b, 8, none⟩ v8).setCell ⟨b, 9, none⟩ v9) g st :=
  (((((((((h.set1 hne).set1 hne).set1 hne).set1 hne).set1 hne).set1 hne).set1 hne).set1 hne).set1 hne).set1 hne
theorem below10_at {B b : Nat} {w W : World} (h : Below B w W) (hb : B ≤ b) (v0 v1 v2 v3 v4 v5 v6 v7 v8 v9 : Value) : Below B w ((((((((((W.setCell ⟨b, 0, none⟩ v0).setCell ⟨b, 1, none⟩ v1).setCell ⟨b, 2, none⟩ v2).setCell ⟨b, 3, none⟩ v3).setCell ⟨b, 4, none⟩ v4).setCell ⟨b, 5, none⟩ v5).setCell ⟨b, 6, none⟩ v6).setCell ⟨b, 7, none⟩ v7).setCell ⟨b, 8, none⟩ v8).setCell ⟨b, 9, none⟩ v9) := below10 h hb v0 v1 v2 v3 v4 v5 v6 v7 v8 v9

set_option maxRecDepth 100000 in
set_option maxHeartbeats 2000000 in
theorem soundW_any (S : Addr) (g : Nat) (st : Rest) (x : Wr) (w : World) (hR : RdrP S w g st) :
    Calls Tryd.prog 54 #[.pointer (some ⟨g, 0, none⟩), .agg x.cells] w fun e w' => e = .returned (.agg (soundM wrNo st x).cells) ∧ Below w.heap.size w w' := by
  obtain ⟨dev, seq, K, ky, ka, na, sa, kb, nb, sb⟩ := x
  have hlt := hR.lt
  cases st with
  | none =>
    obtain ⟨e1, he1, hb⟩ := hR
    obtain ⟨t1, v1, rfl⟩ := errP_nil he1
    have c1 := hb.cell 1
    go_enter Tryd.func54, Tryd.ntmps54
    go_wp2_with fail
    exact bodyPost_ret (v := .agg (wrI 0 0 0 ⟨#[]⟩ 0 0 ⟨#[]⟩ 0 0 ⟨#[]⟩)) (by simp [results, Tryd.results54, go_sem]) rfl ⟨rfl, by repeat (first | exact Below.refl _ _ | (refine Below.alloc ?_ (by simp <;> omega) _) | (refine Below.setCell ?_ (by simp <;> omega) _))⟩
  | some b =>
    obtain ⟨hl, s1, hs, hb⟩ := hR
    have c1 := hb.cell 1
    go_enter Tryd.func54, Tryd.ntmps54
    go_wp2_with fail
    exact bodyPost_ret (v := .agg (wrI dev seq K ky ka na sa kb nb sb)) (by simp [results, Tryd.results54, go_sem]) rfl ⟨rfl, by repeat (first | exact Below.refl _ _ | (refine Below.alloc ?_ (by simp <;> omega) _) | (refine Below.setCell ?_ (by simp <;> omega) _))⟩

set_option maxRecDepth 100000 in
set_option maxHeartbeats 4000000 in
theorem rWrite_any (S : Addr) (g : Nat) (st : Rest) (w : World) (hL : LaidP S w) (hR : RdrP S w g st) :
    Calls Tryd.prog 24 #[.pointer (some ⟨g, 0, none⟩)] w fun e w' => e = .returned (.agg (wrOf st).1.cells) ∧ RdrP S w' g (wrOf st).2 ∧ w.grownBy w' (some g) := by
  rw [← wr_is]
  unfold wrM wrC2 wrS wrX
  have hlt := hR.lt
  have HL := Lib.hid (fun W' (hg : w.grownBy W' (some g)) => hL.grown hR hg)
  have H1 := Lib.hid (fun W hL hR => small_any S g st W hL hR)
  have n1 := (numOf_lt st 9223372036854775807).1
  generalize numOf st 9223372036854775807 = p1 at H1 n1 ⊢
  obtain ⟨d1, st1⟩ := p1
  dsimp only at H1 n1 ⊢
  have H2 := Lib.hid (fun W hL hR => small_any S g st1 W hL hR)
  have n2 := (numOf_lt st1 9223372036854775807).1
  generalize numOf st1 9223372036854775807 = p2 at H2 n2 ⊢
  obtain ⟨d2, st2⟩ := p2
  dsimp only at H2 n2 ⊢
  have H3 := Lib.hid (fun W hL hR => small_any S g st2 W hL hR)
  have n3 := (numOf_lt st2 9223372036854775807).1
  generalize numOf st2 9223372036854775807 = p3 at H3 n3 ⊢
  obtain ⟨d3, st3⟩ := p3
  dsimp only at H3 n3 ⊢
  have H4 := Lib.hid (fun W hL hR => rText_any S g st3 20 W hL hR (by omega))
  have n4 := textOf_most st3 20
  generalize textOf st3 20 = p4 at H4 n4 ⊢
  obtain ⟨ty, st4⟩ := p4
  dsimp only at H4 n4 ⊢
  have H5 := Lib.hid (fun W hL hR => rValue_any S g st4 W hL hR)
  have n5 := val_fits st4
  generalize valOf st4 = p5 at H5 n5 ⊢
  obtain ⟨⟨ka, na, la⟩, st5⟩ := p5
  dsimp only at H5 n5 ⊢
  have H6 := Lib.hid (fun W hL hR => rValue_any S g st5 W hL hR)
  have n6 := val_fits st5
  generalize valOf st5 = p6 at H6 n6 ⊢
  obtain ⟨⟨kb, nb, lb⟩, st6⟩ := p6
  dsimp only at H6 n6 ⊢
  have hfit : Hid (Wr.fits ⟨(d1 : Int), (d2 : Int), (d3 : Int), ⟨ty.toArray⟩, ka, na, ⟨la.toArray⟩, kb, nb, ⟨lb.toArray⟩⟩) := by
    refine ⟨?_, ?_, ?_, n5.1, n6.1⟩
    · show ty.toArray.size ≤ maxLen
      unfold maxLen
      simp
      omega
    · show la.toArray.size ≤ maxLen
      unfold maxLen
      simp
      omega
    · show lb.toArray.size ≤ maxLen
      unfold maxLen
      simp
      omega
  clear n4 n5 n6
  go_enter Tryd.func24, Tryd.ntmps24
  go_wp2_with fail
  have hB := ba (b0 w (.cells #[.int .i64 0, .int .i64 0, .int .i64 0, .string ⟨#[]⟩, .int .i64 0, .int .i64 0, .string ⟨#[]⟩, .int .i64 0, .int .i64 0, .string ⟨#[]⟩] 48)) (.cells #[.int .i64 0, .int .i64 0, .int .i64 0, .string ⟨#[]⟩, .int .i64 0, .int .i64 0, .string ⟨#[]⟩, .int .i64 0, .int .i64 0, .string ⟨#[]⟩] 48)
  have hK := (blk_new w #[.int .i64 0, .int .i64 0, .int .i64 0, .string ⟨#[]⟩, .int .i64 0, .int .i64 0, .string ⟨#[]⟩, .int .i64 0, .int .i64 0, .string ⟨#[]⟩] 48).alloc (.cells #[.int .i64 0, .int .i64 0, .int .i64 0, .string ⟨#[]⟩, .int .i64 0, .int .i64 0, .string ⟨#[]⟩, .int .i64 0, .int .i64 0, .string ⟨#[]⟩] 48)
  have hV := blk_at (w := w.alloc (.cells #[.int .i64 0, .int .i64 0, .int .i64 0, .string ⟨#[]⟩, .int .i64 0, .int .i64 0, .string ⟨#[]⟩, .int .i64 0, .int .i64 0, .string ⟨#[]⟩] 48)) (b := w.heap.size + 1) (by simp) #[.int .i64 0, .int .i64 0, .int .i64 0, .string ⟨#[]⟩, .int .i64 0, .int .i64 0, .string ⟨#[]⟩, .int .i64 0, .int .i64 0, .string ⟨#[]⟩] 48
  replace hR := hR.below hB
  have hG := grown_below hB (some g)
  clear hL
  generalize (w.alloc (.cells #[.int .i64 0, .int .i64 0, .int .i64 0, .string ⟨#[]⟩, .int .i64 0, .int .i64 0, .string ⟨#[]⟩, .int .i64 0, .int .i64 0, .string ⟨#[]⟩] 48)).alloc (.cells #[.int .i64 0, .int .i64 0, .int .i64 0, .string ⟨#[]⟩, .int .i64 0, .int .i64 0, .string ⟨#[]⟩, .int .i64 0, .int .i64 0, .string ⟨#[]⟩] 48) = W at hK hV hR hG ⊢
  clear hB
  have hrb0 : w.heap.size ≤ w.heap.size := Nat.le_refl _
  have hvb0 : w.heap.size ≤ w.heap.size + 1 := by omega
  have hne1 : w.heap.size + 1 ≠ g := by omega
  have hne2 : w.heap.size + 1 ≠ w.heap.size := by omega
  have hne3 : w.heap.size ≠ g := by omega
  generalize hvq : w.heap.size + 1 = vb at hV hne1 hne2 hvb0 ⊢
  generalize hrq : w.heap.size = rb at hK hne2 hne3 ⊢
  refine (H1.out _ (HL.out _ hG) hR).mono ?_
  rintro e w1 ⟨rfl, hR2, hg⟩
  replace hV := blk_grown hV hg (by intro e; injection e; omega)
  replace hK := blk_grown hK hg (by intro e; injection e; omega)
  replace hG := hG.trans hg
  clear hR hg
  obtain ⟨c0, c1, c2, c3, c4, c5, c6, c7, c8, c9, cl⟩ := blk_c10 hV
  obtain ⟨f0, f1, f2, f3, f4, f5, f6, f7, f8, f9⟩ := blk_f10 hV
  go_wp2_with fail
  have hV2 : Blk (w1.setCell ⟨vb, 0, none⟩ (.int .i64 (d1 : Int))) vb #[.int .i64 (d1 : Int), .int .i64 0, .int .i64 0, .string ⟨#[]⟩, .int .i64 0, .int .i64 0, .string ⟨#[]⟩, .int .i64 0, .int .i64 0, .string ⟨#[]⟩] 48 := (hV).set 0 (.int .i64 (d1 : Int))
  have hK2 : Blk (w1.setCell ⟨vb, 0, none⟩ (.int .i64 (d1 : Int))) rb #[.int .i64 0, .int .i64 0, .int .i64 0, .string ⟨#[]⟩, .int .i64 0, .int .i64 0, .string ⟨#[]⟩, .int .i64 0, .int .i64 0, .string ⟨#[]⟩] 48 := (blk_grown hK set_grown (by intro e; injection e; omega))
  have hR3 : RdrP S (w1.setCell ⟨vb, 0, none⟩ (.int .i64 (d1 : Int))) g st1 := (RdrP.set1 hR2 hne1)
  have hG2 : w.grownBy (w1.setCell ⟨vb, 0, none⟩ (.int .i64 (d1 : Int))) (some g) := (grown_set hG hvb0)
  clear c0 c1 c2 c3 c4 c5 c6 c7 c8 c9 cl f0 f1 f2 f3 f4 f5 f6 f7 f8 f9 hV hK hR2 hG
  generalize (w1.setCell ⟨vb, 0, none⟩ (.int .i64 (d1 : Int))) = X1 at hV2 hK2 hR3 hG2 ⊢
  have hV := hV2
  have hK := hK2
  have hR := hR3
  have hG := hG2
  clear hV2 hK2 hR3 hG2
  refine (H2.out _ (HL.out _ hG) hR).mono ?_
  rintro e w2 ⟨rfl, hR2, hg⟩
  replace hV := blk_grown hV hg (by intro e; injection e; omega)
  replace hK := blk_grown hK hg (by intro e; injection e; omega)
  replace hG := hG.trans hg
  clear hR hg
  obtain ⟨c0, c1, c2, c3, c4, c5, c6, c7, c8, c9, cl⟩ := blk_c10 hV
  obtain ⟨f0, f1, f2, f3, f4, f5, f6, f7, f8, f9⟩ := blk_f10 hV
  go_wp2_with fail
  have hV2 : Blk (w2.setCell ⟨vb, 1, none⟩ (.int .i64 (d2 : Int))) vb #[.int .i64 (d1 : Int), .int .i64 (d2 : Int), .int .i64 0, .string ⟨#[]⟩, .int .i64 0, .int .i64 0, .string ⟨#[]⟩, .int .i64 0, .int .i64 0, .string ⟨#[]⟩] 48 := (hV).set 1 (.int .i64 (d2 : Int))
  have hK2 : Blk (w2.setCell ⟨vb, 1, none⟩ (.int .i64 (d2 : Int))) rb #[.int .i64 0, .int .i64 0, .int .i64 0, .string ⟨#[]⟩, .int .i64 0, .int .i64 0, .string ⟨#[]⟩, .int .i64 0, .int .i64 0, .string ⟨#[]⟩] 48 := (blk_grown hK set_grown (by intro e; injection e; omega))
  have hR3 : RdrP S (w2.setCell ⟨vb, 1, none⟩ (.int .i64 (d2 : Int))) g st2 := (RdrP.set1 hR2 hne1)
  have hG2 : w.grownBy (w2.setCell ⟨vb, 1, none⟩ (.int .i64 (d2 : Int))) (some g) := (grown_set hG hvb0)
  clear c0 c1 c2 c3 c4 c5 c6 c7 c8 c9 cl f0 f1 f2 f3 f4 f5 f6 f7 f8 f9 hV hK hR2 hG
  generalize (w2.setCell ⟨vb, 1, none⟩ (.int .i64 (d2 : Int))) = X2 at hV2 hK2 hR3 hG2 ⊢
  have hV := hV2
  have hK := hK2
  have hR := hR3
  have hG := hG2
  clear hV2 hK2 hR3 hG2
  refine (H3.out _ (HL.out _ hG) hR).mono ?_
  rintro e w3 ⟨rfl, hR2, hg⟩
  replace hV := blk_grown hV hg (by intro e; injection e; omega)
  replace hK := blk_grown hK hg (by intro e; injection e; omega)
  replace hG := hG.trans hg
  clear hR hg
  obtain ⟨c0, c1, c2, c3, c4, c5, c6, c7, c8, c9, cl⟩ := blk_c10 hV
  obtain ⟨f0, f1, f2, f3, f4, f5, f6, f7, f8, f9⟩ := blk_f10 hV
  go_wp2_with fail
  have hV2 : Blk (w3.setCell ⟨vb, 2, none⟩ (.int .i64 (d3 : Int))) vb #[.int .i64 (d1 : Int), .int .i64 (d2 : Int), .int .i64 (d3 : Int), .string ⟨#[]⟩, .int .i64 0, .int .i64 0, .string ⟨#[]⟩, .int .i64 0, .int .i64 0, .string ⟨#[]⟩] 48 := (hV).set 2 (.int .i64 (d3 : Int))
  have hK2 : Blk (w3.setCell ⟨vb, 2, none⟩ (.int .i64 (d3 : Int))) rb #[.int .i64 0, .int .i64 0, .int .i64 0, .string ⟨#[]⟩, .int .i64 0, .int .i64 0, .string ⟨#[]⟩, .int .i64 0, .int .i64 0, .string ⟨#[]⟩] 48 := (blk_grown hK set_grown (by intro e; injection e; omega))
  have hR3 : RdrP S (w3.setCell ⟨vb, 2, none⟩ (.int .i64 (d3 : Int))) g st3 := (RdrP.set1 hR2 hne1)
  have hG2 : w.grownBy (w3.setCell ⟨vb, 2, none⟩ (.int .i64 (d3 : Int))) (some g) := (grown_set hG hvb0)
  clear c0 c1 c2 c3 c4 c5 c6 c7 c8 c9 cl f0 f1 f2 f3 f4 f5 f6 f7 f8 f9 hV hK hR2 hG
  generalize (w3.setCell ⟨vb, 2, none⟩ (.int .i64 (d3 : Int))) = X3 at hV2 hK2 hR3 hG2 ⊢
  have hV := hV2
  have hK := hK2
  have hR := hR3
  have hG := hG2
  clear hV2 hK2 hR3 hG2
  refine (H4.out _ (HL.out _ hG) hR).mono ?_
  rintro e w4 ⟨⟨s4, rfl, hs⟩, hR2, hg⟩
  obtain rfl := ba_of hs
  clear hs
  replace hV := blk_grown hV hg (by intro e; injection e; omega)
  replace hK := blk_grown hK hg (by intro e; injection e; omega)
  replace hG := hG.trans hg
  clear hR hg
  obtain ⟨c0, c1, c2, c3, c4, c5, c6, c7, c8, c9, cl⟩ := blk_c10 hV
  obtain ⟨f0, f1, f2, f3, f4, f5, f6, f7, f8, f9⟩ := blk_f10 hV
  go_wp2_with fail
  have hV2 : Blk (w4.setCell ⟨vb, 3, none⟩ (.string ⟨ty.toArray⟩)) vb #[.int .i64 (d1 : Int), .int .i64 (d2 : Int), .int .i64 (d3 : Int), .string ⟨ty.toArray⟩, .int .i64 0, .int .i64 0, .string ⟨#[]⟩, .int .i64 0, .int .i64 0, .string ⟨#[]⟩] 48 := (hV).set 3 (.string ⟨ty.toArray⟩)
  have hK2 : Blk (w4.setCell ⟨vb, 3, none⟩ (.string ⟨ty.toArray⟩)) rb #[.int .i64 0, .int .i64 0, .int .i64 0, .string ⟨#[]⟩, .int .i64 0, .int .i64 0, .string ⟨#[]⟩, .int .i64 0, .int .i64 0, .string ⟨#[]⟩] 48 := (blk_grown hK set_grown (by intro e; injection e; omega))
  have hR3 : RdrP S (w4.setCell ⟨vb, 3, none⟩ (.string ⟨ty.toArray⟩)) g st4 := (RdrP.set1 hR2 hne1)
  have hG2 : w.grownBy (w4.setCell ⟨vb, 3, none⟩ (.string ⟨ty.toArray⟩)) (some g) := (grown_set hG hvb0)
  clear c0 c1 c2 c3 c4 c5 c6 c7 c8 c9 cl f0 f1 f2 f3 f4 f5 f6 f7 f8 f9 hV hK hR2 hG
  generalize (w4.setCell ⟨vb, 3, none⟩ (.string ⟨ty.toArray⟩)) = X4 at hV2 hK2 hR3 hG2 ⊢
  have hV := hV2
  have hK := hK2
  have hR := hR3
  have hG := hG2
  clear hV2 hK2 hR3 hG2
  refine (H5.out _ (HL.out _ hG) hR).mono ?_
  rintro e w5 ⟨⟨s5, rfl, hs⟩, hR2, hg⟩
  obtain rfl := ba_of hs
  clear hs
  replace hV := blk_grown hV hg (by intro e; injection e; omega)
  replace hK := blk_grown hK hg (by intro e; injection e; omega)
  replace hG := hG.trans hg
  clear hR hg
  obtain ⟨c0, c1, c2, c3, c4, c5, c6, c7, c8, c9, cl⟩ := blk_c10 hV
  obtain ⟨f0, f1, f2, f3, f4, f5, f6, f7, f8, f9⟩ := blk_f10 hV
  go_wp2_with fail
  have hV2 : Blk (((w5.setCell ⟨vb, 4, none⟩ (.int .i64 ka)).setCell ⟨vb, 5, none⟩ (.int .i64 na)).setCell ⟨vb, 6, none⟩ (.string ⟨la.toArray⟩)) vb #[.int .i64 (d1 : Int), .int .i64 (d2 : Int), .int .i64 (d3 : Int), .string ⟨ty.toArray⟩, .int .i64 ka, .int .i64 na, .string ⟨la.toArray⟩, .int .i64 0, .int .i64 0, .string ⟨#[]⟩] 48 := (((hV).set 4 (.int .i64 ka)).set 5 (.int .i64 na)).set 6 (.string ⟨la.toArray⟩)
  have hK2 : Blk (((w5.setCell ⟨vb, 4, none⟩ (.int .i64 ka)).setCell ⟨vb, 5, none⟩ (.int .i64 na)).setCell ⟨vb, 6, none⟩ (.string ⟨la.toArray⟩)) rb #[.int .i64 0, .int .i64 0, .int .i64 0, .string ⟨#[]⟩, .int .i64 0, .int .i64 0, .string ⟨#[]⟩, .int .i64 0, .int .i64 0, .string ⟨#[]⟩] 48 := (blk_grown (blk_grown (blk_grown hK set_grown (by intro e; injection e; omega)) set_grown (by intro e; injection e; omega)) set_grown (by intro e; injection e; omega))
  have hR3 : RdrP S (((w5.setCell ⟨vb, 4, none⟩ (.int .i64 ka)).setCell ⟨vb, 5, none⟩ (.int .i64 na)).setCell ⟨vb, 6, none⟩ (.string ⟨la.toArray⟩)) g st5 := (RdrP.set1 (RdrP.set1 (RdrP.set1 hR2 hne1) hne1) hne1)
  have hG2 : w.grownBy (((w5.setCell ⟨vb, 4, none⟩ (.int .i64 ka)).setCell ⟨vb, 5, none⟩ (.int .i64 na)).setCell ⟨vb, 6, none⟩ (.string ⟨la.toArray⟩)) (some g) := (grown_set (grown_set (grown_set hG hvb0) hvb0) hvb0)
  clear c0 c1 c2 c3 c4 c5 c6 c7 c8 c9 cl f0 f1 f2 f3 f4 f5 f6 f7 f8 f9 hV hK hR2 hG
  generalize (((w5.setCell ⟨vb, 4, none⟩ (.int .i64 ka)).setCell ⟨vb, 5, none⟩ (.int .i64 na)).setCell ⟨vb, 6, none⟩ (.string ⟨la.toArray⟩)) = X5 at hV2 hK2 hR3 hG2 ⊢
  have hV := hV2
  have hK := hK2
  have hR := hR3
  have hG := hG2
  clear hV2 hK2 hR3 hG2
  refine (H6.out _ (HL.out _ hG) hR).mono ?_
  rintro e w6 ⟨⟨s6, rfl, hs⟩, hR2, hg⟩
  obtain rfl := ba_of hs
  clear hs
  replace hV := blk_grown hV hg (by intro e; injection e; omega)
  replace hK := blk_grown hK hg (by intro e; injection e; omega)
  replace hG := hG.trans hg
  clear hR hg
  obtain ⟨c0, c1, c2, c3, c4, c5, c6, c7, c8, c9, cl⟩ := blk_c10 hV
  obtain ⟨f0, f1, f2, f3, f4, f5, f6, f7, f8, f9⟩ := blk_f10 hV
  go_wp2_with fail
  have hV2 : Blk (((w6.setCell ⟨vb, 7, none⟩ (.int .i64 kb)).setCell ⟨vb, 8, none⟩ (.int .i64 nb)).setCell ⟨vb, 9, none⟩ (.string ⟨lb.toArray⟩)) vb #[.int .i64 (d1 : Int), .int .i64 (d2 : Int), .int .i64 (d3 : Int), .string ⟨ty.toArray⟩, .int .i64 ka, .int .i64 na, .string ⟨la.toArray⟩, .int .i64 kb, .int .i64 nb, .string ⟨lb.toArray⟩] 48 := (((hV).set 7 (.int .i64 kb)).set 8 (.int .i64 nb)).set 9 (.string ⟨lb.toArray⟩)
  have hK2 : Blk (((w6.setCell ⟨vb, 7, none⟩ (.int .i64 kb)).setCell ⟨vb, 8, none⟩ (.int .i64 nb)).setCell ⟨vb, 9, none⟩ (.string ⟨lb.toArray⟩)) rb #[.int .i64 0, .int .i64 0, .int .i64 0, .string ⟨#[]⟩, .int .i64 0, .int .i64 0, .string ⟨#[]⟩, .int .i64 0, .int .i64 0, .string ⟨#[]⟩] 48 := (blk_grown (blk_grown (blk_grown hK set_grown (by intro e; injection e; omega)) set_grown (by intro e; injection e; omega)) set_grown (by intro e; injection e; omega))
  have hR3 : RdrP S (((w6.setCell ⟨vb, 7, none⟩ (.int .i64 kb)).setCell ⟨vb, 8, none⟩ (.int .i64 nb)).setCell ⟨vb, 9, none⟩ (.string ⟨lb.toArray⟩)) g st6 := (RdrP.set1 (RdrP.set1 (RdrP.set1 hR2 hne1) hne1) hne1)
  have hG2 : w.grownBy (((w6.setCell ⟨vb, 7, none⟩ (.int .i64 kb)).setCell ⟨vb, 8, none⟩ (.int .i64 nb)).setCell ⟨vb, 9, none⟩ (.string ⟨lb.toArray⟩)) (some g) := (grown_set (grown_set (grown_set hG hvb0) hvb0) hvb0)
  clear c0 c1 c2 c3 c4 c5 c6 c7 c8 c9 cl f0 f1 f2 f3 f4 f5 f6 f7 f8 f9 hV hK hR2 hG
  generalize (((w6.setCell ⟨vb, 7, none⟩ (.int .i64 kb)).setCell ⟨vb, 8, none⟩ (.int .i64 nb)).setCell ⟨vb, 9, none⟩ (.string ⟨lb.toArray⟩)) = X6 at hV2 hK2 hR3 hG2 ⊢
  have hV := hV2
  have hK := hK2
  have hR := hR3
  have hG := hG2
  clear hV2 hK2 hR3 hG2
  refine (stampGood_any ⟨(d1 : Int), (d2 : Int), (d3 : Int), ⟨ty.toArray⟩, ka, na, ⟨la.toArray⟩, kb, nb, ⟨lb.toArray⟩⟩ _ hfit.out).mono ?_
  rintro e w7 ⟨rfl, hb7⟩
  replace hV := hV.keep hb7
  replace hK := hK.keep hb7
  replace hR := hR.below hb7
  replace hG := hG.trans (grown_below hb7 (some g))
  clear hb7
  obtain ⟨c0, c1, c2, c3, c4, c5, c6, c7, c8, c9, cl⟩ := blk_c10 hV
  go_wp2_with fail
  refine (must_any S g _ _ _ w7 hR).mono ?_
  rintro e w8 ⟨rfl, hR2, hg⟩
  replace hV := blk_grown hV hg (by intro e; injection e; omega)
  replace hK := blk_grown hK hg (by intro e; injection e; omega)
  replace hG := hG.trans hg
  clear hR hg c0 c1 c2 c3 c4 c5 c6 c7 c8 c9 cl
  obtain ⟨c0, c1, c2, c3, c4, c5, c6, c7, c8, c9, cl⟩ := blk_c10 hV
  go_wp2_with fail
  refine (soundW_any S g _ ⟨(d1 : Int), (d2 : Int), (d3 : Int), ⟨ty.toArray⟩, ka, na, ⟨la.toArray⟩, kb, nb, ⟨lb.toArray⟩⟩ w8 hR2).mono ?_
  rintro e w9 ⟨rfl, hb9⟩
  replace hK := hK.keep hb9
  replace hR2 := hR2.below hb9
  replace hG := hG.trans (grown_below hb9 (some g))
  clear hV hb9 c0 c1 c2 c3 c4 c5 c6 c7 c8 c9 cl
  obtain ⟨c0, c1, c2, c3, c4, c5, c6, c7, c8, c9, cl⟩ := blk_c10 hK
  obtain ⟨f0, f1, f2, f3, f4, f5, f6, f7, f8, f9⟩ := blk_f10 hK
  go_wp2_with fail
  have h9 := fun v0 v1 v2 v3 v4 v5 v6 v7 v8 v9 => RdrP.set10 hR2 hne3 v0 v1 v2 v3 v4 v5 v6 v7 v8 v9
  have hg9 := fun v0 v1 v2 v3 v4 v5 v6 v7 v8 v9 => grown10 (b := rb) hG (Nat.le_of_eq hrq) v0 v1 v2 v3 v4 v5 v6 v7 v8 v9
  exact bodyPost_ret (v := .agg (soundM wrNo (mustM (Wr.good ⟨(d1 : Int), (d2 : Int), (d3 : Int), ⟨ty.toArray⟩, ka, na, ⟨la.toArray⟩, kb, nb, ⟨lb.toArray⟩⟩) st6) ⟨(d1 : Int), (d2 : Int), (d3 : Int), ⟨ty.toArray⟩, ka, na, ⟨la.toArray⟩, kb, nb, ⟨lb.toArray⟩⟩).cells) (by simp [results, Tryd.results24, go_sem, c0, c1, c2, c3, c4, c5, c6, c7, c8, c9]) rfl ⟨rfl, h9 _ _ _ _ _ _ _ _ _ _, hg9 _ _ _ _ _ _ _ _ _ _⟩
end Go.Proofs.YtahmjiomkaibgaaDoor
