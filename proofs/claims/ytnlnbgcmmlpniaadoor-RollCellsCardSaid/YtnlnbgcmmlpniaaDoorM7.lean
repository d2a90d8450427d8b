/-
  WHAT IS PROVED: cell.Good answers what the document's Good does, goodB, for every value. No condition. · package pack's reader: Value: what it answers and leaves, as the chapter says. Conditions: those typed in each theorem. · plain facts: the steps by which package pack's reader takes a write come to what the chapter says is taken. No program is spoken of. · deed.Good answers what the document's Good does, opB, for every operation. Condition: the texts are no longer than the form's reach. · stamp.Good answers what the document's Good of a write does. Condition: the texts are no longer than the form's reach. · package pack's reader: Write: what it answers and leaves, as the chapter says. Conditions: those typed in each theorem. · package roll's calls that take lists from a reader (takeList, sound of each kind of element): what they answer, and leave of what the reader has. Conditions: those typed in each theorem.
-/
import Derived.Test.YtnlnbgcmmlpniaaDoorM0
import Derived.WalkKit
import Derived.WalkSpells
import Derived.WalkLawsBesides
import Derived.Lib.Hide
import Derived.Test.YtnlnbgcmmlpniaaDoorM3
import Derived.Test.YtnlnbgcmmlpniaaDoorM1
import Derived.Test.YtnlnbgcmmlpniaaDoorM5
namespace Go.Proofs.YtnlnbgcmmlpniaaDoor
open Go.RowKit

set_option maxHeartbeats 1000000 in
theorem good_any (k n : Int) (s : ByteArray) (w : World) (hs : s.size ≤ maxLen) :
    Calls Tryd.prog 46 #[.agg #[.int .i64 k, .int .i64 n, .string s]] w fun e w' => e = .returned (.bool (goodB k n s)) ∧ Below w.heap.size w w' := by
  unfold maxLen at hs
  go_enter Tryd.func46, Tryd.ntmps46
  go_wp2
  all_goals go_ret
  all_goals refine ⟨ret_bool ?_, b0 _ _⟩
  all_goals unfold goodB
  all_goals rw [Bool.eq_iff_iff]
  all_goals simp only [beq_iff_eq, beq_eq_false_iff_ne, decide_eq_true_eq, isEmpty_iff, Bool.false_eq_true, false_iff] at *
  all_goals omega
end Go.Proofs.YtnlnbgcmmlpniaaDoor

namespace Go.Proofs.YtnlnbgcmmlpniaaDoor
open Go.RowKit

theorem below3_at {B b : Nat} {w W : World} (h : Below B w W) (hb : B ≤ b) (v0 v1 v2 : Value) : Below B w (((W.setCell ⟨b, 0, none⟩ v0).setCell ⟨b, 1, none⟩ v1).setCell ⟨b, 2, none⟩ v2) :=
  ((h.setCell (p := ⟨b, 0, none⟩) hb v0).setCell (p := ⟨b, 1, none⟩) hb v1).setCell (p := ⟨b, 2, none⟩) hb v2

set_option maxRecDepth 100000 in
set_option maxHeartbeats 1000000 in
theorem soundV_any (S : Addr) (g : Nat) (st : Rest) (k x : Int) (s : ByteArray) (w : World) (hR : RdrP S w g st) :
    Calls Tryd.prog 47 #[.pointer (some ⟨g, 0, none⟩), .agg #[.int .i64 k, .int .i64 x, .string s]] w fun e w' => e = .returned (soundM (.agg #[.int .i64 0, .int .i64 0, .string ⟨#[]⟩]) st (.agg #[.int .i64 k, .int .i64 x, .string s])) ∧ Below w.heap.size w w' := by
  have hlt := hR.lt
  cases st with
  | none =>
    obtain ⟨e1, he1, hb⟩ := hR
    obtain ⟨t1, v1, rfl⟩ := errP_nil he1
    have c1 := hb.cell 1
    go_enter Tryd.func47, Tryd.ntmps47
    go_wp2_with fail
    exact bodyPost_ret (v := .agg #[.int .i64 0, .int .i64 0, .string ⟨#[]⟩]) (by simp [results, Tryd.results47, go_sem]) rfl ⟨rfl, by repeat (first | exact Below.refl _ _ | (refine Below.alloc ?_ (by simp <;> omega) _) | (refine Below.setCell ?_ (by simp <;> omega) _))⟩
  | some b =>
    obtain ⟨hl, s1, hs, hb⟩ := hR
    have c1 := hb.cell 1
    go_enter Tryd.func47, Tryd.ntmps47
    go_wp2_with fail
    exact bodyPost_ret (v := .agg #[.int .i64 k, .int .i64 x, .string s]) (by simp [results, Tryd.results47, go_sem]) rfl ⟨rfl, by repeat (first | exact Below.refl _ _ | (refine Below.alloc ?_ (by simp <;> omega) _) | (refine Below.setCell ?_ (by simp <;> omega) _))⟩

theorem getM (st : Rest) (k x : Int) (l : List UInt8) (s : ByteArray) (hs : s.data.toList = l) :
    ∃ s2 : ByteArray, soundM (.agg #[.int .i64 0, .int .i64 0, .string ⟨#[]⟩]) st (.agg #[.int .i64 k, .int .i64 x, .string s]) = Value.agg #[.int .i64 (soundM valZ st (k, x, l)).1, .int .i64 (soundM valZ st (k, x, l)).2.1, .string s2] ∧ s2.data.toList = (soundM valZ st (k, x, l)).2.2 := by
  cases st with
  | none => exact ⟨⟨#[]⟩, rfl, rfl⟩
  | some b => exact ⟨s, rfl, hs⟩
theorem RdrP.set3 {S : Addr} {W : World} {g b : Nat} {st : Rest} (h : RdrP S W g st) (hne : b ≠ g) (v0 v1 v2 : Value) : RdrP S (((W.setCell ⟨b, 0, none⟩ v0).setCell ⟨b, 1, none⟩ v1).setCell ⟨b, 2, none⟩ v2) g st := by
  have hr : some b ≠ some g := by intro e; injection e; omega
  exact ((h.keep set_grown hr).keep set_grown hr).keep set_grown hr
theorem grown_set {w W : World} {g b i : Nat} {v : Value} (h : w.grownBy W (some g)) (hb : w.heap.size ≤ b) : w.grownBy (W.setCell ⟨b, i, none⟩ v) (some g) :=
  h.andThen (set_grown (g := b)) (fun j e => by injection e with e; exact .inl (by omega))
theorem textOf_most (st : Rest) (most : Nat) : (textOf st most).1.length ≤ most := by
  rw [← text_is]
  exact Nat.le_trans (takeM_len _ _) (numOf_lt st most).1
theorem good_one (x : Int) : goodB 1 x ⟨#[]⟩ = true := by
  unfold goodB
  simp
  rfl
theorem good_two (s : ByteArray) (h : s.size ≤ 40) : goodB 2 0 s = true := by
  unfold goodB
  simp [h]
theorem good_nat (k : Nat) (h1 : ¬ k = 1) (h2 : ¬ k = 2) : goodB (k : Int) 0 ⟨#[]⟩ = decide (k = 0) := by
  have h1' : ¬ (k : Int) = 1 := by omega
  have h2' : ¬ (k : Int) = 2 := by omega
  unfold goodB
  rw [Bool.eq_iff_iff]
  simp [h1', h2']
  intro _
  rfl
set_option maxRecDepth 100000 in
set_option maxHeartbeats 2000000 in
theorem rValue_any (S : Addr) (g : Nat) (st : Rest) (w : World) (hL : LaidS S w) (hR : RdrP S w g st) :
    Calls Tryd.prog 23 #[.pointer (some ⟨g, 0, none⟩)] w fun e w' => (∃ s : ByteArray, e = .returned (.agg #[.int .i64 (valOf st).1.1, .int .i64 (valOf st).1.2.1, .string s]) ∧ s.data.toList = (valOf st).1.2.2) ∧ RdrP S w' g (valOf st).2 ∧ w.grownBy w' (some g) := by
  rw [← val_is]
  unfold valM
  have hlt := hR.lt
  have hB := b0 w (.cells #[.int .i64 0, .int .i64 0, .string ⟨#[]⟩] 42)
  have hK0 := blk_new w #[.int .i64 0, .int .i64 0, .string ⟨#[]⟩] 42
  have HL := Lib.hid (fun W' (hg : w.grownBy W' (some g)) => hL.grown hR hg)
  have HM := Lib.hid (fun W (hb : Below w.heap.size w W) => small_any S g st W (hL.keep hb) (hR.below hb))
  have hn := (numOf_lt st 9223372036854775807).1
  generalize numOf st 9223372036854775807 = p at HM hn ⊢
  obtain ⟨k, st1⟩ := p
  dsimp only at HM hn ⊢
  clear hL hR
  have hk3 : k = 1 ∨ k = 2 ∨ (¬ k = 1 ∧ ¬ k = 2) := by omega
  rcases hk3 with rfl | rfl | ⟨hk1, hk2⟩
  · rw [if_pos rfl]
    have HI := Lib.hid (fun W hL hR => rInt_any S g st1 W hL hR)
    generalize intOfR st1 = q at HI ⊢
    obtain ⟨x, st2⟩ := q
    dsimp only at HI ⊢
    go_enter Tryd.func23, Tryd.ntmps23
    go_wp2_with fail
    have hM := HM.out _ hB
    generalize w.alloc (.cells #[.int .i64 0, .int .i64 0, .string ⟨#[]⟩] 42) = W at hB hK0 hM ⊢
    have hG0 := grown_below hB (some g)
    refine hM.mono ?_
    rintro e w1 ⟨rfl, hR1, hg1⟩
    have hK1 := blk_grown hK0 hg1 (by intro e; injection e; omega)
    have hG1 := hG0.trans hg1
    have hvb := hG1.size
    clear hM hK0 hG0 hg1 hB
    generalize hrb : w.heap.size = rb at hK1 hlt ⊢
    go_wp2_with fail
    have hB1 := b0 w1 (.cells #[.int .i64 1, .int .i64 0, .string ⟨#[]⟩] 42)
    have hV1 := blk_new w1 #[.int .i64 1, .int .i64 0, .string ⟨#[]⟩] 42
    have hlg1 := hR1.lt
    have hlb1 := hK1.lt
    replace hK1 := hK1.keep hB1
    replace hR1 := hR1.below hB1
    replace hG1 := hG1.trans (grown_below hB1 (some g))
    generalize w1.alloc (.cells #[.int .i64 1, .int .i64 0, .string ⟨#[]⟩] 42) = W1 at hV1 hK1 hR1 hG1 ⊢
    generalize w1.heap.size = vb at hV1 hlg1 hlb1 hvb ⊢
    have hne1 : vb ≠ g := by omega
    have hne2 : vb ≠ rb := by omega
    have hne3 : rb ≠ g := by omega
    refine (HI.out W1 (HL.out W1 hG1) hR1).mono ?_
    rintro e w2 ⟨rfl, hR2, hg2⟩
    have hV2 := blk_grown hV1 hg2 (by intro e; injection e; omega)
    have hK2 := blk_grown hK1 hg2 (by intro e; injection e; omega)
    have hG2 := hG1.trans hg2
    clear hV1 hK1 hg2 hG1 hR1 hB1
    obtain ⟨c0, c1, c2, c3⟩ := hV2.c3
    obtain ⟨f0, f1, f2⟩ := hV2.f3
    go_wp2_with fail
    have hV3 : Blk (w2.setCell ⟨vb, 1, none⟩ (.int .i64 x)) vb #[.int .i64 1, .int .i64 x, .string ⟨#[]⟩] 42 := hV2.set 1 (.int .i64 x)
    have hK3 := blk_grown hK2 (set_grown (W := w2) (g := vb) (i := 1) (v := (.int .i64 x))) (by intro e; injection e; omega)
    have hR3 := hR2.keep (set_grown (W := w2) (g := vb) (i := 1) (v := (.int .i64 x))) (by intro e; injection e; omega)
    have hG3 := grown_set (i := 1) (v := (.int .i64 x)) hG2 hvb
    clear c0 c1 c2 c3 f0 f1 f2 hV2 hK2 hR2 hG2
    generalize w2.setCell ⟨vb, 1, none⟩ (.int .i64 x) = W2 at hV3 hK3 hR3 hG3 ⊢
    refine (good_any 1 x ⟨#[]⟩ W2 (by decide)).mono ?_
    rintro e w3 ⟨rfl, hb3⟩
    rw [good_one x]
    replace hV3 := hV3.keep hb3
    replace hK3 := hK3.keep hb3
    replace hR3 := hR3.below hb3
    replace hG3 := hG3.trans (grown_below hb3 (some g))
    clear hb3
    obtain ⟨c0, c1, c2, c3⟩ := hV3.c3
    go_wp2_with fail
    refine (must_any S g _ _ _ w3 hR3).mono ?_
    rintro e w4 ⟨rfl, hR4, hg4⟩
    replace hV3 := blk_grown hV3 hg4 (by intro e; injection e; omega)
    replace hK3 := blk_grown hK3 hg4 (by intro e; injection e; omega)
    replace hG3 := hG3.trans hg4
    clear hg4 hR3 c0 c1 c2 c3
    obtain ⟨c0, c1, c2, c3⟩ := hV3.c3
    go_wp2_with fail
    refine (soundV_any S g _ 1 x ⟨#[]⟩ w4 hR4).mono ?_
    rintro e w5 ⟨rfl, hb5⟩
    obtain ⟨s9, e9, hs9⟩ := getM (mustM true st2) 1 x [] ⟨#[]⟩ rfl
    rw [e9]
    replace hK3 := hK3.keep hb5
    replace hR4 := hR4.below hb5
    replace hG3 := hG3.trans (grown_below hb5 (some g))
    have hS9 := Lib.hid hs9
    clear hb5 c0 c1 c2 c3 hV3 e9 hs9
    obtain ⟨c0, c1, c2, c3⟩ := hK3.c3
    obtain ⟨f0, f1, f2⟩ := hK3.f3
    go_wp2_with fail
    exact bodyPost_ret (v := .agg #[.int .i64 (soundM valZ (mustM true st2) (1, x, [])).1, .int .i64 (soundM valZ (mustM true st2) (1, x, [])).2.1, .string s9]) (by simp [results, Tryd.results23, go_sem, c0, c1, c2]) rfl ⟨⟨s9, rfl, hS9.out⟩, hR4.set3 hne3 _ _ _, grown_set (grown_set (grown_set hG3 (by omega)) (by omega)) (by omega)⟩
  · rw [if_neg (by omega), if_pos rfl]
    have HI := Lib.hid (fun W hL hR => rText_any S g st1 40 W hL hR (by omega))
    have h40 := textOf_most st1 40
    generalize textOf st1 40 = q at HI h40 ⊢
    obtain ⟨l, st2⟩ := q
    dsimp only at HI h40 ⊢
    go_enter Tryd.func23, Tryd.ntmps23
    go_wp2_with fail
    have hM := HM.out _ hB
    generalize w.alloc (.cells #[.int .i64 0, .int .i64 0, .string ⟨#[]⟩] 42) = W at hB hK0 hM ⊢
    have hG0 := grown_below hB (some g)
    refine hM.mono ?_
    rintro e w1 ⟨rfl, hR1, hg1⟩
    have hK1 := blk_grown hK0 hg1 (by intro e; injection e; omega)
    have hG1 := hG0.trans hg1
    have hvb := hG1.size
    clear hM hK0 hG0 hg1 hB
    generalize hrb : w.heap.size = rb at hK1 hlt ⊢
    go_wp2_with fail
    have hB1 := b0 w1 (.cells #[.int .i64 2, .int .i64 0, .string ⟨#[]⟩] 42)
    have hV1 := blk_new w1 #[.int .i64 2, .int .i64 0, .string ⟨#[]⟩] 42
    have hlg1 := hR1.lt
    have hlb1 := hK1.lt
    replace hK1 := hK1.keep hB1
    replace hR1 := hR1.below hB1
    replace hG1 := hG1.trans (grown_below hB1 (some g))
    generalize w1.alloc (.cells #[.int .i64 2, .int .i64 0, .string ⟨#[]⟩] 42) = W1 at hV1 hK1 hR1 hG1 ⊢
    generalize w1.heap.size = vb at hV1 hlg1 hlb1 hvb ⊢
    have hne1 : vb ≠ g := by omega
    have hne2 : vb ≠ rb := by omega
    have hne3 : rb ≠ g := by omega
    refine (HI.out W1 (HL.out W1 hG1) hR1).mono ?_
    rintro e w2 ⟨⟨s, rfl, hs⟩, hR2, hg2⟩
    have hV2 := blk_grown hV1 hg2 (by intro e; injection e; omega)
    have hK2 := blk_grown hK1 hg2 (by intro e; injection e; omega)
    have hG2 := hG1.trans hg2
    clear hV1 hK1 hg2 hG1 hR1 hB1
    obtain ⟨c0, c1, c2, c3⟩ := hV2.c3
    obtain ⟨f0, f1, f2⟩ := hV2.f3
    go_wp2_with fail
    have hV3 : Blk (w2.setCell ⟨vb, 2, none⟩ (.string s)) vb #[.int .i64 2, .int .i64 0, .string s] 42 := hV2.set 2 (.string s)
    have hK3 := blk_grown hK2 (set_grown (W := w2) (g := vb) (i := 2) (v := (.string s))) (by intro e; injection e; omega)
    have hR3 := hR2.keep (set_grown (W := w2) (g := vb) (i := 2) (v := (.string s))) (by intro e; injection e; omega)
    have hG3 := grown_set (i := 2) (v := (.string s)) hG2 hvb
    clear c0 c1 c2 c3 f0 f1 f2 hV2 hK2 hR2 hG2
    generalize w2.setCell ⟨vb, 2, none⟩ (.string s) = W2 at hV3 hK3 hR3 hG3 ⊢
    have hs40 : s.size ≤ 40 := by
      have : s.size = s.data.toList.length := Array.length_toList.symm
      rw [this, hs]
      exact h40
    refine (good_any 2 0 s W2 (by unfold maxLen; omega)).mono ?_
    rintro e w3 ⟨rfl, hb3⟩
    rw [good_two s hs40]
    replace hV3 := hV3.keep hb3
    replace hK3 := hK3.keep hb3
    replace hR3 := hR3.below hb3
    replace hG3 := hG3.trans (grown_below hb3 (some g))
    clear hb3
    obtain ⟨c0, c1, c2, c3⟩ := hV3.c3
    go_wp2_with fail
    refine (must_any S g _ _ _ w3 hR3).mono ?_
    rintro e w4 ⟨rfl, hR4, hg4⟩
    replace hV3 := blk_grown hV3 hg4 (by intro e; injection e; omega)
    replace hK3 := blk_grown hK3 hg4 (by intro e; injection e; omega)
    replace hG3 := hG3.trans hg4
    clear hg4 hR3 c0 c1 c2 c3
    obtain ⟨c0, c1, c2, c3⟩ := hV3.c3
    go_wp2_with fail
    refine (soundV_any S g _ 2 0 s w4 hR4).mono ?_
    rintro e w5 ⟨rfl, hb5⟩
    obtain ⟨s9, e9, hs9⟩ := getM (mustM true st2) 2 0 l s hs
    rw [e9]
    replace hK3 := hK3.keep hb5
    replace hR4 := hR4.below hb5
    replace hG3 := hG3.trans (grown_below hb5 (some g))
    have hS9 := Lib.hid hs9
    clear hb5 c0 c1 c2 c3 hV3 e9 hs9
    obtain ⟨c0, c1, c2, c3⟩ := hK3.c3
    obtain ⟨f0, f1, f2⟩ := hK3.f3
    go_wp2_with fail
    exact bodyPost_ret (v := .agg #[.int .i64 (soundM valZ (mustM true st2) (2, 0, l)).1, .int .i64 (soundM valZ (mustM true st2) (2, 0, l)).2.1, .string s9]) (by simp [results, Tryd.results23, go_sem, c0, c1, c2]) rfl ⟨⟨s9, rfl, hS9.out⟩, hR4.set3 hne3 _ _ _, grown_set (grown_set (grown_set hG3 (by omega)) (by omega)) (by omega)⟩
  · rw [if_neg hk1, if_neg hk2]
    have hq1 : ¬ (k : Int) = 1 := by omega
    have hq2 : ¬ (k : Int) = 2 := by omega
    go_enter Tryd.func23, Tryd.ntmps23
    go_wp2_with fail
    have hM := HM.out _ hB
    generalize w.alloc (.cells #[.int .i64 0, .int .i64 0, .string ⟨#[]⟩] 42) = W at hB hK0 hM ⊢
    have hG0 := grown_below hB (some g)
    refine hM.mono ?_
    rintro e w1 ⟨rfl, hR1, hg1⟩
    have hK1 := blk_grown hK0 hg1 (by intro e; injection e; omega)
    have hG1 := hG0.trans hg1
    have hvb := hG1.size
    clear hM hK0 hG0 hg1 hB
    generalize hrb : w.heap.size = rb at hK1 hlt ⊢
    go_wp2_with fail
    have hB1 := b0 w1 (.cells #[.int .i64 k, .int .i64 0, .string ⟨#[]⟩] 42)
    have hV1 := blk_new w1 #[.int .i64 k, .int .i64 0, .string ⟨#[]⟩] 42
    have hlg1 := hR1.lt
    have hlb1 := hK1.lt
    replace hK1 := hK1.keep hB1
    replace hR1 := hR1.below hB1
    replace hG1 := hG1.trans (grown_below hB1 (some g))
    generalize w1.alloc (.cells #[.int .i64 k, .int .i64 0, .string ⟨#[]⟩] 42) = W1 at hV1 hK1 hR1 hG1 ⊢
    generalize w1.heap.size = vb at hV1 hlg1 hlb1 hvb ⊢
    have hne1 : vb ≠ g := by omega
    have hne2 : vb ≠ rb := by omega
    have hne3 : rb ≠ g := by omega
    have hV3 := hV1
    have hK3 := hK1
    have hR3 := hR1
    have hG3 := hG1
    clear hV1 hK1 hR1 hG1 hB1
    have hzz : soundM valZ (mustM (decide (k = 0)) st1) ((k : Int), 0, []) = valZ := by
      by_cases hk0 : k = 0
      · subst hk0
        cases st1 <;> rfl
      · simp [mustM, hk0, soundM]
    generalize W1 = W2 at hV3 hK3 hR3 hG3 ⊢
    refine (good_any k 0 ⟨#[]⟩ W2 (by decide)).mono ?_
    rintro e w3 ⟨rfl, hb3⟩
    rw [good_nat k hk1 hk2]
    replace hV3 := hV3.keep hb3
    replace hK3 := hK3.keep hb3
    replace hR3 := hR3.below hb3
    replace hG3 := hG3.trans (grown_below hb3 (some g))
    clear hb3
    obtain ⟨c0, c1, c2, c3⟩ := hV3.c3
    go_wp2_with fail
    refine (must_any S g _ _ _ w3 hR3).mono ?_
    rintro e w4 ⟨rfl, hR4, hg4⟩
    replace hV3 := blk_grown hV3 hg4 (by intro e; injection e; omega)
    replace hK3 := blk_grown hK3 hg4 (by intro e; injection e; omega)
    replace hG3 := hG3.trans hg4
    clear hg4 hR3 c0 c1 c2 c3
    obtain ⟨c0, c1, c2, c3⟩ := hV3.c3
    go_wp2_with fail
    refine (soundV_any S g _ k 0 ⟨#[]⟩ w4 hR4).mono ?_
    rintro e w5 ⟨rfl, hb5⟩
    obtain ⟨s9, e9, hs9⟩ := getM (mustM (decide (k = 0)) st1) k 0 [] ⟨#[]⟩ rfl
    rw [hzz] at e9 hs9
    rw [e9]
    replace hK3 := hK3.keep hb5
    replace hR4 := hR4.below hb5
    replace hG3 := hG3.trans (grown_below hb5 (some g))
    have hS9 := Lib.hid hs9
    clear hb5 c0 c1 c2 c3 hV3 e9 hs9
    obtain ⟨c0, c1, c2, c3⟩ := hK3.c3
    obtain ⟨f0, f1, f2⟩ := hK3.f3
    go_wp2_with fail
    exact bodyPost_ret (v := .agg #[.int .i64 valZ.1, .int .i64 valZ.2.1, .string s9]) (by simp [results, Tryd.results23, go_sem, c0, c1, c2]) rfl ⟨⟨s9, rfl, hS9.out⟩, hR4.set3 hne3 _ _ _, grown_set (grown_set (grown_set hG3 (by omega)) (by omega)) (by omega)⟩
end Go.Proofs.YtnlnbgcmmlpniaaDoor

namespace Go.Proofs.YtnlnbgcmmlpniaaDoor

/-- What a reader takes of a write behind its three numbers. -/
def wrX (d q kk : Nat) (st3 : Rest) : Wr := ⟨(d : Int), (q : Int), (kk : Int), ⟨(textOf st3 20).1.toArray⟩, (valOf (textOf st3 20).2).1.1, (valOf (textOf st3 20).2).1.2.1, ⟨(valOf (textOf st3 20).2).1.2.2.toArray⟩, (valOf (valOf (textOf st3 20).2).2).1.1, (valOf (valOf (textOf st3 20).2).2).1.2.1, ⟨(valOf (valOf (textOf st3 20).2).2).1.2.2.toArray⟩⟩
def wrS (d q kk : Nat) (st3 : Rest) : Rest := mustM (wrX d q kk st3).good (valOf (valOf (textOf st3 20).2).2).2
def wrC2 (d q kk : Nat) (st3 : Rest) : Wr × Rest := (soundM wrNo (wrS d q kk st3) (wrX d q kk st3), wrS d q kk st3)
def wrM (m : Nat) (st : Rest) : Wr × Rest := wrC2 (numOf st m).1 (numOf (numOf st m).2 m).1 (numOf (numOf (numOf st m).2 m).2 m).1 (numOf (numOf (numOf st m).2 m).2 m).2
theorem wrC_none (d q kk : Nat) : wrC2 d q kk none = (wrNo, none) := by
  have e : wrS d q kk none = none := mustM_none _
  unfold wrC2
  rw [e]
  rfl
theorem wrC_bad {d q kk : Nat} {st3 : Rest} (h : (wrX d q kk st3).good = false) : wrC2 d q kk st3 = (wrNo, none) := by
  have e : wrS d q kk st3 = none := by unfold wrS; rw [h]; rfl
  unfold wrC2
  rw [e]
  rfl
theorem wrC_big {d q kk : Nat} (st3 : Rest) (h : 1000 < d ∨ 1000 < q ∨ 1000 < kk) : wrC2 d q kk st3 = (wrNo, none) := by
  refine wrC_bad ?_
  cases hg : (wrX d q kk st3).good with
  | false => rfl
  | true =>
    have := good_in hg
    have h1 : (wrX d q kk st3).dev = (d : Int) := rfl
    have h2 : (wrX d q kk st3).seq = (q : Int) := rfl
    have h3 : (wrX d q kk st3).K = (kk : Int) := rfl
    rw [h1, h2, h3] at this
    omega
theorem wrM_less (st : Rest) : wrM 9223372036854775807 st = wrM 1000 st := by
  have hM : (1000 : Nat) ≤ 9223372036854775807 := by omega
  unfold wrM
  have e1 := numOf_most st hM
  by_cases h1 : (numOf st 9223372036854775807).1 ≤ 1000
  · rw [if_pos h1] at e1
    rw [e1]
    generalize numOf st 9223372036854775807 = p1
    have e2 := numOf_most p1.2 hM
    by_cases h2 : (numOf p1.2 9223372036854775807).1 ≤ 1000
    · rw [if_pos h2] at e2
      rw [e2]
      generalize numOf p1.2 9223372036854775807 = p2
      have e3 := numOf_most p2.2 hM
      by_cases h3 : (numOf p2.2 9223372036854775807).1 ≤ 1000
      · rw [if_pos h3] at e3
        rw [e3]
      · rw [if_neg h3] at e3
        rw [e3, wrC_big _ (by omega)]
        exact (wrC_none _ _ _).symm
    · rw [if_neg h2] at e2
      rw [e2, wrC_big _ (by omega)]
      exact (wrC_none _ _ _).symm
  · rw [if_neg h1] at e1
    rw [e1, wrC_big _ (by omega)]
    exact (wrC_none _ _ _).symm

theorem numOf_at (l : List UInt8) (j : Nat) : numOf (some (l.drop (posW l j))) 1000 = if (numW l j).2 = 0 then (0, none) else ((numW l j).1, some (l.drop (posW l (j + 1)))) := by
  rw [posW_succ, ← List.drop_drop]
  rfl
theorem wr_is (st : Rest) : wrM 9223372036854775807 st = wrOf st := by
  rw [wrM_less]
  cases st with
  | none => exact wrC_none _ _ _
  | some l =>
    have hno : ¬ stdW l → wrOf (some l) = (wrNo, none) := fun h => by
      unfold wrOf
      dsimp only
      rw [takeWr_no h]
      rfl
    unfold wrM
    have e0 : numOf (some l) 1000 = if (numW l 0).2 = 0 then (0, none) else ((numW l 0).1, some (l.drop (posW l 1))) := numOf_at l 0
    by_cases h0 : (numW l 0).2 = 0
    · rw [if_pos h0] at e0
      rw [e0, hno (fun h => h.1 0 (by omega) h0)]
      exact wrC_none _ _ _
    rw [if_neg h0] at e0
    rw [e0]
    dsimp only
    have e1 : numOf (some (l.drop (posW l 1))) 1000 = if (numW l 1).2 = 0 then (0, none) else ((numW l 1).1, some (l.drop (posW l 2))) := numOf_at l 1
    by_cases h1 : (numW l 1).2 = 0
    · rw [if_pos h1] at e1
      rw [e1, hno (fun h => h.1 1 (by omega) h1)]
      exact wrC_none _ _ _
    rw [if_neg h1] at e1
    rw [e1]
    dsimp only
    have e2 : numOf (some (l.drop (posW l 2))) 1000 = if (numW l 2).2 = 0 then (0, none) else ((numW l 2).1, some (l.drop (posW l 3))) := numOf_at l 2
    by_cases h2 : (numW l 2).2 = 0
    · rw [if_pos h2] at e2
      rw [e2, hno (fun h => h.1 2 (by omega) h2)]
      exact wrC_none _ _ _
    rw [if_neg h2] at e2
    rw [e2]
    dsimp only
    have e3 : textOf (some (l.drop (posW l 3))) 20 = if (textW l).2 = 0 then ([], none) else ((textW l).1, some (l.drop (posW l 3 + (textW l).2))) := by
      rw [← List.drop_drop]
      rfl
    have e4 : valOf (some (l.drop (posW l 3 + (textW l).2))) = if (val1W l).2 = 0 then (valZ, none) else ((val1W l).1, some (l.drop (posW l 3 + (textW l).2 + (val1W l).2))) := by
      rw [show l.drop (posW l 3 + (textW l).2 + (val1W l).2) = (l.drop (posW l 3 + (textW l).2)).drop (val1W l).2 from List.drop_drop.symm]
      rfl
    have e5 : valOf (some (l.drop (posW l 3 + (textW l).2 + (val1W l).2))) = if (val2W l).2 = 0 then (valZ, none) else ((val2W l).1, some (l.drop (posW l 3 + (textW l).2 + (val1W l).2 + (val2W l).2))) := by
      rw [show l.drop (posW l 3 + (textW l).2 + (val1W l).2 + (val2W l).2) = (l.drop (posW l 3 + (textW l).2 + (val1W l).2)).drop (val2W l).2 from List.drop_drop.symm]
      rfl
    have hz : valOf none = (valZ, none) := rfl
    by_cases h3 : (textW l).2 = 0
    · rw [if_pos h3] at e3
      rw [hno (fun h => h.2.1 h3)]
      unfold wrC2 wrS
      rw [e3]
      dsimp only
      rw [hz]
      dsimp only
      rw [hz, mustM_none]
      rfl
    rw [if_neg h3] at e3
    by_cases h4 : (val1W l).2 = 0
    · rw [if_pos h4] at e4
      rw [hno (fun h => h.2.2.1 h4)]
      unfold wrC2 wrS
      rw [e3]
      dsimp only
      rw [e4]
      dsimp only
      rw [hz, mustM_none]
      rfl
    rw [if_neg h4] at e4
    by_cases h5 : (val2W l).2 = 0
    · rw [if_pos h5] at e5
      rw [hno (fun h => h.2.2.2.1 h5)]
      unfold wrC2 wrS
      rw [e3]
      dsimp only
      rw [e4]
      dsimp only
      rw [e5, mustM_none]
      rfl
    rw [if_neg h5] at e5
    have ex : wrX (numW l 0).1 (numW l 1).1 (numW l 2).1 (some (l.drop (posW l 3))) = gotW l := by
      simp only [wrX, e3, e4, e5, gotW]
    have es : wrS (numW l 0).1 (numW l 1).1 (numW l 2).1 (some (l.drop (posW l 3))) = mustM (gotW l).good (some (l.drop (posW l 3 + (textW l).2 + (val1W l).2 + (val2W l).2))) := by
      unfold wrS
      rw [ex, e3]
      dsimp only
      rw [e4]
      dsimp only
      rw [e5]
    unfold wrC2
    rw [ex, es]
    cases hg : (gotW l).good with
    | false =>
      rw [hno (fun h => by have h9 := h.2.2.2.2; rw [hg] at h9; cases h9)]
      rfl
    | true =>
      have hstd : stdW l := ⟨fun m hm => by
        have : m = 0 ∨ m = 1 ∨ m = 2 := by omega
        rcases this with rfl | rfl | rfl
        · exact h0
        · exact h1
        · exact h2, h3, h4, h5, hg⟩
      unfold wrOf
      dsimp only
      rw [takeWr_yes hstd]
      have hpos : ¬ posW l 3 + (textW l).2 + (val1W l).2 + (val2W l).2 = 0 := by omega
      rw [if_neg hpos]
      rfl

theorem int_fits (st : Rest) : -9223372036854775808 ≤ (intOfR st).1 ∧ (intOfR st).1 ≤ 9223372036854775807 := by
  cases st with
  | none => exact ⟨by show (-9223372036854775808 : Int) ≤ 0; omega, by show (0 : Int) ≤ 9223372036854775807; omega⟩
  | some b =>
    unfold intOfR takeIntB
    dsimp only
    by_cases h : (takeNum b 18446744073709551615).2 = 0
    · rw [if_pos h]
      exact ⟨by show (-9223372036854775808 : Int) ≤ 0; omega, by show (0 : Int) ≤ 9223372036854775807; omega⟩
    · rw [if_neg h]
      exact unzig_in (num_take (show takeNum b 18446744073709551615 = ((takeNum b 18446744073709551615).1, (takeNum b 18446744073709551615).2) from rfl) h).2.1
theorem val_fits (st : Rest) : (-9223372036854775808 ≤ (valOf st).1.2.1 ∧ (valOf st).1.2.1 ≤ 9223372036854775807) ∧ (valOf st).1.2.2.length ≤ 40 := by
  have hz : ((-9223372036854775808 : Int) ≤ valZ.2.1 ∧ valZ.2.1 ≤ 9223372036854775807) ∧ valZ.2.2.length ≤ 40 := ⟨⟨by show (-9223372036854775808 : Int) ≤ 0; omega, by show (0 : Int) ≤ 9223372036854775807; omega⟩, Nat.zero_le _⟩
  have hs : ∀ (st : Rest) (v : Int × Int × List UInt8), ((-9223372036854775808 ≤ v.2.1 ∧ v.2.1 ≤ 9223372036854775807) ∧ v.2.2.length ≤ 40) → ((-9223372036854775808 ≤ (soundM valZ st v).2.1 ∧ (soundM valZ st v).2.1 ≤ 9223372036854775807) ∧ (soundM valZ st v).2.2.length ≤ 40) := by
    intro st v hv
    cases st with
    | none => exact hz
    | some b => exact hv
  rw [← val_is]
  unfold valM
  split
  · exact hs _ _ ⟨int_fits _, Nat.zero_le _⟩
  · split
    · exact hs _ _ ⟨⟨by show (-9223372036854775808 : Int) ≤ 0; omega, by show (0 : Int) ≤ 9223372036854775807; omega⟩, by rw [← text_is]; exact Nat.le_trans (takeM_len _ _) (numOf_lt _ 40).1⟩
    · exact hz
end Go.Proofs.YtnlnbgcmmlpniaaDoor

namespace Go.Proofs.YtnlnbgcmmlpniaaDoor
open Go.RowKit

/-- A value is nothing. -/
def noneB (k n : Int) (s : ByteArray) : Bool := decide (k = 0 ∧ n = 0 ∧ s.size = 0)
end Go.Proofs.YtnlnbgcmmlpniaaDoor

namespace Go.Proofs.YtnlnbgcmmlpniaaDoor
open Go.RowKit

end Go.Proofs.YtnlnbgcmmlpniaaDoor

namespace Go.Proofs.YtnlnbgcmmlpniaaDoor
open Go.RowKit

theorem RdrP.set1 {S : Addr} {W : World} {g b i : Nat} {v : Value} {st : Rest} (h : RdrP S W g st) (hne : b ≠ g) : RdrP S (W.setCell ⟨b, i, none⟩ v) g st :=
  h.keep set_grown (by intro e; injection e; omega)
theorem grown10 {w W : World} {g b : Nat} (h : w.grownBy W (some g)) (hb : w.heap.size ≤ b) (v0 v1 v2 v3 v4 v5 v6 v7 v8 v9 : Value) : w.grownBy ((((((((((W.setCell ⟨b, 0, none⟩ v0).setCell ⟨b, 1, none⟩ v1).setCell ⟨b, 2, none⟩ v2).setCell ⟨b, 3, none⟩ v3).setCell ⟨b, 4, none⟩ v4).setCell ⟨b, 5, none⟩ v5).setCell ⟨b, 6, none⟩ v6).setCell ⟨b, 7, none⟩ v7).setCell ⟨b, 8, none⟩ v8).setCell ⟨b, 9, none⟩ v9) (some g) :=
  grown_set (grown_set (grown_set (grown_set (grown_set (grown_set (grown_set (grown_set (grown_set (grown_set h hb) hb) hb) hb) hb) hb) hb) hb) hb) hb
theorem RdrP.set10 {S : Addr} {W : World} {g b : Nat} {st : Rest} (h : RdrP S W g st) (hne : b ≠ g) (v0 v1 v2 v3 v4 v5 v6 v7 v8 v9 : Value) : RdrP S ((((((((((W.setCell ⟨b, 0, none⟩ v0).setCell ⟨b, 1, none⟩ v1).setCell ⟨b, 2, none⟩ v2).setCell ⟨b, 3, none⟩ v3).setCell ⟨b, 4, none⟩ v4).setCell ⟨b, 5, none⟩ v5).setCell ⟨b, 6, none⟩ v6).setCell ⟨b, 7, none⟩ v7).setCell ⟨b, 8, none⟩ v8).setCell ⟨b, 9, none⟩ v9) g st :=
  (((((((((h.set1 hne).set1 hne).set1 hne).set1 hne).set1 hne).set1 hne).set1 hne).set1 hne).set1 hne).set1 hne
theorem below10_at {B b : Nat} {w W : World} (h : Below B w W) (hb : B ≤ b) (v0 v1 v2 v3 v4 v5 v6 v7 v8 v9 : Value) : Below B w ((((((((((W.setCell ⟨b, 0, none⟩ v0).setCell ⟨b, 1, none⟩ v1).setCell ⟨b, 2, none⟩ v2).setCell ⟨b, 3, none⟩ v3).setCell ⟨b, 4, none⟩ v4).setCell ⟨b, 5, none⟩ v5).setCell ⟨b, 6, none⟩ v6).setCell ⟨b, 7, none⟩ v7).setCell ⟨b, 8, none⟩ v8).setCell ⟨b, 9, none⟩ v9) := below10 h hb v0 v1 v2 v3 v4 v5 v6 v7 v8 v9

end Go.Proofs.YtnlnbgcmmlpniaaDoor

namespace Go.Proofs.YtnlnbgcmmlpniaaDoor
open Go.RowKit

abbrev preC (x : List UInt8) : Array Value := #[.string ⟨x.toArray⟩]
abbrev preV (x : List UInt8) : Value := .string ⟨x.toArray⟩
abbrev preF (b : List UInt8) : List UInt8 × Nat := takeTextB b 20
abbrev preStep (st : Rest) : List UInt8 × Rest := textOf st 20
theorem pre_one (x : List UInt8) : ∀ u ∈ (preC x).toList, u.oneCell' = true := by
  intro u hu
  simp only [List.mem_cons, List.not_mem_nil, or_false] at hu
  rcases hu with rfl
  rfl
theorem cl_one (x : Cl) : ∀ u ∈ x.cells.toList, u.oneCell' = true := by
  intro u hu
  simp only [List.mem_cons, List.not_mem_nil, or_false] at hu
  rcases hu with rfl | rfl | rfl | rfl <;> rfl
theorem ln_one (x : Ln) : ∀ u ∈ x.cells.toList, u.oneCell' = true := by
  intro u hu
  simp only [List.mem_cons, List.not_mem_nil, or_false] at hu
  rcases hu with rfl | rfl | rfl | rfl | rfl | rfl | rfl | rfl | rfl | rfl | rfl <;> rfl
theorem cl_info : (Tryd.prog.info? 44).map (fun i => (i.zero, i.size, i.bytes)) = some (some (.agg (clI ⟨#[]⟩ 0 0 ⟨#[]⟩)), 4, 48) := by kernel_rfl
/-- A step leaves less. -/
def LessG {α : Type} (s : Rest → α × Rest) : Prop := ∀ b b', (s (some b)).2 = some b' → b'.length < b.length
theorem less_of {α : Type} {f : List UInt8 → α × Nat} {s : Rest → α × Rest} (h : StepG f s) (hf : ∀ b, (f b).2 ≤ b.length) : LessG s := by
  intro b b' hb
  by_cases h0 : (f b).2 = 0
  · rw [(h b).1 h0] at hb
    cases hb
  · rw [(h b).2 h0] at hb
    injection hb with hb
    have h1 := hf b
    rw [← hb, List.length_drop]
    omega
/-- How many there may be yet. -/
def roomG (k : Nat) : Rest → Prop
  | some b => k + b.length ≤ 1000000
  | none => k ≤ 1000001
theorem room_next {α : Type} {s : Rest → α × Rest} (h : LessG s) {k : Nat} {b : List UInt8} (hr : roomG k (some b)) {x : α} {st : Rest} (hs : s (some b) = (x, st)) : roomG (k + 1) st := by
  have hr' : k + b.length ≤ 1000000 := hr
  cases st with
  | none => show k + 1 ≤ 1000001; omega
  | some b' =>
    have := h b b' (by rw [hs])
    show k + 1 + b'.length ≤ 1000000
    omega
theorem room_le {k : Nat} {st : Rest} (h : roomG k st) : k ≤ 1000001 := by
  cases st with
  | none => exact h
  | some b =>
    have h' : k + b.length ≤ 1000000 := h
    omega
theorem numOf_short (st : Rest) (most : Nat) (b : List UInt8) (h : (numOf st most).2 = some b) : ∃ b0, st = some b0 ∧ b.length ≤ b0.length := by
  cases st with
  | none => cases h
  | some b0 =>
    refine ⟨b0, rfl, ?_⟩
    unfold numOf at h
    dsimp only at h
    split at h
    · cases h
    · injection h with h
      rw [← h, List.length_drop]
      omega
set_option maxRecDepth 100000 in
theorem failed_any (S : Addr) (g : Nat) (st : Rest) (w : World) (hR : RdrP S w g st) :
    Calls Tryd.prog 39 #[.pointer (some ⟨g, 0, none⟩)] w fun e w' => e = .returned (.bool st.isNone) ∧ w' = w := by
  cases st with
  | none =>
    obtain ⟨e1, he1, hb⟩ := hR
    obtain ⟨t1, v1, rfl⟩ := errP_nil he1
    have c1 := hb.cell 1
    go_enter Tryd.func39, Tryd.ntmps39
    go_wp2_with fail
    go_ret
    exact ⟨rfl, rfl⟩
  | some b =>
    obtain ⟨hl, s, hs, hb⟩ := hR
    have c1 := hb.cell 1
    go_enter Tryd.func39, Tryd.ntmps39
    go_wp2_with fail
    go_ret
    exact ⟨rfl, rfl⟩
theorem grown_then' {w a b : World} {row : Option Nat} (h : w.grownBy a row) (k : Below w.heap.size a b) : w.grownBy b row :=
  ⟨k.os.trans h.os, k.tape.trans h.tape, k.output.trans h.output, Nat.le_trans h.size k.size, fun i hi hr => (k.block i hi).trans (h.block i hi hr)⟩
theorem RdrP.belowX {S : Addr} {B : Nat} {W W' : World} {g : Nat} {st : Rest} (h : RdrP S W g st) (hb : Below B W W') (hg : g < B) : RdrP S W' g st := by
  cases st with
  | none => obtain ⟨e, he, hk⟩ := h; exact ⟨e, he, (hb.block g hg).trans hk⟩
  | some b => obtain ⟨hl, s, hs, hk⟩ := h; exact ⟨hl, s, hs, (hb.block g hg).trans hk⟩
/-- A function value that takes one thing from the reader at g. -/
def TakesF {α : Type} (S : Addr) (g gf : Nat) (lb : Array Value) (arg : α → Value) (s : Rest → α × Rest) (w : World) : Prop :=
  ∀ W st, w.grownBy W (some g) → RdrP S W g st → Calls Tryd.prog gf lb W fun e W' => e = .returned (arg (s st).1) ∧ RdrP S W' g (s st).2 ∧ W.grownBy W' (some g)

set_option maxRecDepth 100000 in
set_option maxHeartbeats 4000000 in
theorem takeListC_any (S : Addr) (g gf : Nat) (lb : Array Value) (s : Rest → Cl × Rest) (st : Rest) (most : Nat) (w : World) (eg : ∀ args w, (callFunc gf args).run Tryd.prog w = .ok (.enter gf args) w) (hL : LaidS S w) (hR : RdrP S w g st) (hm : most < 18446744073709551616) (hs : LessG s) (hf : TakesF S g gf lb clV s w) :
    Calls Tryd.prog 20 #[.pointer (some ⟨g, 0, none⟩), .int .u64 most, .func (.func gf) #[] lb] w fun e w' => (∃ (A : Option Addr) (n c : Nat), e = .returned (.slice A n c) ∧ OwnX 44 4 w.heap.size w' A n c ((repG s (numOf st most).1 (numOf st most).2).1.map Cl.cells)) ∧ RdrP S w' g (repG s (numOf st most).1 (numOf st most).2).2 ∧ w.grownBy w' (some g) := by
  obtain ⟨i0, hi0, hz0, hz1, hz2⟩ := info_parts cl_info
  have hlt := hR.lt
  have HF := Lib.hid hf
  have HS := Lib.hid hs
  have hC := rNumber_any S g st most w hL hR hm
  have hn := (numOf_lt st most).1
  have hroom : roomG 0 (numOf st most).2 := by
    cases hq : (numOf st most).2 with
    | none => exact Nat.zero_le _
    | some b =>
      obtain ⟨b0, e0, hb0⟩ := numOf_short st most b hq
      subst e0
      have h1 : b0.length ≤ 1000000 := hR.1
      show 0 + b.length ≤ 1000000
      omega
  generalize numOf st most = p at hC hn hroom ⊢
  obtain ⟨n, st1⟩ := p
  dsimp only at hC hn hroom ⊢
  clear hL hR hf hs
  go_enter Tryd.func20, Tryd.ntmps20
  go_wp2_with fail
  refine hC.mono ?_
  rintro e w1 ⟨rfl, hR1, hg1⟩
  go_wp2_with fail
  go_loopw [7, 8] (fun t u wr => ∃ (r : Nat) (acc : List (Cl)) (A : Option Addr) (k c : Nat) (sj : Rest), t = .slice A k c ∧ u = .int .u64 r ∧ r < 18446744073709551616 ∧ roomG k sj ∧ RdrP S wr g sj ∧ OwnX 44 4 w.heap.size wr A k c (acc.map Cl.cells) ∧ w.grownBy wr (some g) ∧ Hid (repG s n st1 = (acc ++ (repG s r sj).1, (repG s r sj).2))) (fun _ u _ => (intOf u).toNat)
  case atStart => exact ⟨n, [], none, 0, 0, st1, rfl, rfl, by omega, hroom, hR1, OwnX.nil _ _ _ _, hg1, rfl⟩
  case round =>
    clear hR1 hg1 hroom
    obtain ⟨r, acc, A, k, c, sj, rfl, rfl, hr, hk, hR, hO, hG, hE⟩ := hrel
    have hk1 := room_le hk
    by_cases h0 : r = 0
    · subst h0
      have hfin : Hid (repG s n st1 = (acc, sj)) := by
        show _ = _
        rw [hE.out]
        show (acc ++ [], sj) = _
        rw [List.append_nil]
      clear hE
      go_wp2_with fail
      go_ret
      rw [hfin.out]
      exact ⟨⟨A, k, c, rfl, hO⟩, hR, hG⟩
    · obtain ⟨r', rfl⟩ : ∃ r', r = r' + 1 := ⟨r - 1, by omega⟩
      have i1 : (0 : Int) < ((r' + 1 : Nat) : Int) := by omega
      have i2 : decide (0 < r' + 1) = true := decide_eq_true (by omega)
      cases sj with
      | none =>
        have hfin : Hid (repG s n st1 = (acc, none)) := by
          show _ = _
          rw [hE.out, repG_none, List.append_nil]
        have HR := Lib.hid hR
        clear hE
        go_wp2_with (go_at_call 39; refine (failed_any S g none _ HR.out).mono ?_; rintro e w2 ⟨rfl, rfl⟩)
        go_ret
        rw [hfin.out]
        exact ⟨⟨A, k, c, rfl, hO⟩, hR, hG⟩
      | some b =>
        have HR := Lib.hid hR
        have hW := HF.out wr (some b) hG hR
        have hstep : ∃ x s', s (some b) = (x, s') ∧ Hid (repG s n st1 = ((acc ++ [x]) ++ (repG s r' s').1, (repG s r' s').2)) ∧ roomG (k + 1) s' := by
          refine ⟨(s (some b)).1, (s (some b)).2, rfl, ?_, room_next HS.out hk rfl⟩
          show _ = _
          rw [hE.out, repG_more, List.append_assoc]
          rfl
        obtain ⟨x, s', hx, hE2, hk2⟩ := hstep
        rw [hx] at hW
        dsimp only at hW
        have HW := Lib.hid hW
        have j1 : ((r' + 1 : Nat) : Int) - 1 = (r' : Int) := by omega
        have j2 : IntKind.u64.wrap (r' : Int) = (r' : Int) := by simp only [IntKind.wrap_u64]; omega
        have j3 : IntKind.u64.wrap (((r' + 1 : Nat) : Int) - 1) = (r' : Int) := by rw [j1]; exact j2
        clear hE hx hW hk
        go_wp2_with first
          | (go_at_call 39; refine (failed_any S g (some b) _ HR.out).mono ?_; rintro e w2 ⟨rfl, rfl⟩)
          | (go_at_fn gf; refine HW.out.mono ?_; rintro e w3 ⟨rfl, hR2, hg2⟩; have hO2 := (hO.keepG hg2 hlt).keep (b0 w3 (.cells (Cl.cells x) 44)); have hR3 := hR2.below (b0 w3 (.cells (Cl.cells x) 44)); have hG3 := (hG.trans hg2).trans (grown_below (b0 w3 (.cells (Cl.cells x) 44)) (some g)); have hx := newX w3 (Cl.cells x) 44; have hzz := hG3.size)
          | (at_builtin; refine wpList_apX (el := 44) (base := w.heap.size) (n := k) (l := acc.map Cl.cells) (xx := Cl.cells x) (by rfl) _ _ (by rfl) Tryd.underlying22 Tryd.underlying22 hi0 hz0 hz1 hz2 (by rfl) (by omega) (by omega) (by rfl) (by rfl) hO2 (by rfl) (cl_one x) hx (by omega) hzz ?_; intro A5 c5 w5 hO5 hb5)
        have hR5 := hR3.belowX hb5 hlt
        have hG5 := grown_then' hG3 hb5
        go_roundw
        case rel => exact ⟨r', acc ++ [x], A5, k + 1, c5, s', rfl, by first | rfl | (congr 1; go_num) | go_num, by omega, hk2, hR5, by rw [List.map_append]; exact hO5, hG5, hE2⟩
        case measure => simp [intOf]

set_option maxRecDepth 100000 in
set_option maxHeartbeats 1000000 in
theorem soundC_any (S : Addr) (g gf : Nat) (st : Rest) (A : Option Addr) (k c : Nat) (b : Bool) (w : World) (eg : ∀ args w, (callFunc gf args).run Tryd.prog w = .ok (.enter gf args) w) (hR : RdrP S w g st) (hg : st ≠ none → Calls Tryd.prog gf #[.slice A k c] w fun e w' => e = .returned (.bool b) ∧ Below w.heap.size w w') :
    Calls Tryd.prog 24 #[.pointer (some ⟨g, 0, none⟩), .slice A k c, .func (.func gf) #[] #[]] w fun e w' => e = .returned (if st ≠ none ∧ b = true then .tuple #[.slice A k c, .int .i64 0] else .tuple #[.slice none 0 0, .int .i64 2]) ∧ Below w.heap.size w w' := by
  cases st with
  | none =>
    rw [if_neg (fun h => h.1 rfl)]
    go_enter Tryd.func24, Tryd.ntmps24
    go_wp2_with (go_at_call 39; refine (failed_any S g none _ hR).mono ?_; rintro e w2 ⟨rfl, rfl⟩)
    go_ret2
    exact ⟨rfl, Below.refl _ _⟩
  | some bb =>
    have HG := Lib.hid (hg (by simp))
    have HR := Lib.hid hR
    clear hg hR
    cases b with
    | false =>
      rw [if_neg (fun h => by cases h.2)]
      go_enter Tryd.func24, Tryd.ntmps24
      go_wp2_with first
        | (go_at_call 39; refine (failed_any S g (some bb) _ HR.out).mono ?_; rintro e w2 ⟨rfl, rfl⟩)
        | (go_at_fn gf; refine HG.out.mono ?_; rintro e w3 ⟨rfl, hb3⟩)
      go_ret2
      exact ⟨rfl, hb3⟩
    | true =>
      rw [if_pos ⟨by simp, rfl⟩]
      go_enter Tryd.func24, Tryd.ntmps24
      go_wp2_with first
        | (go_at_call 39; refine (failed_any S g (some bb) _ HR.out).mono ?_; rintro e w2 ⟨rfl, rfl⟩)
        | (go_at_fn gf; refine HG.out.mono ?_; rintro e w3 ⟨rfl, hb3⟩)
      go_ret2
      exact ⟨rfl, hb3⟩

end Go.Proofs.YtnlnbgcmmlpniaaDoor
