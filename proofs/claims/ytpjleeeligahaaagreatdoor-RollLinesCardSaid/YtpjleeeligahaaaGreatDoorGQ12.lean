/-
  WHAT IS PROVED: deed.Good answers what the document's Good does, opB, for every operation. Condition: the texts are no longer than the form's reach. · stamp.Good answers what the document's Good of a write does. Condition: the texts are no longer than the form's reach. · package pack's reader: Write: what it answers and leaves, as the chapter says. Conditions: those typed in each theorem.
-/
import Derived.Test.YtpjleeeligahaaaGreatDoorGQ11
import Derived.Test.YtpjleeeligahaaaGreatDoorGQ1
import Derived.Test.YtpjleeeligahaaaGreatDoorGQ3
namespace Go.Proofs.YtpjleeeligahaaaGreatDoor
open Go.RowKit

/-- A value is nothing. -/
def noneB (k n : Int) (s : ByteArray) : Bool := decide (k = 0 ∧ n = 0 ∧ s.size = 0)
set_option maxHeartbeats 1000000 in
theorem nothing_any (k n : Int) (s : ByteArray) (w : World) :
    Calls Tryz.prog 157 #[.agg #[.int .i64 k, .int .i64 n, .string s]] w fun e w' => e = .returned (.bool (noneB k n s)) ∧ Below w.heap.size w w' := by
  have hs : s.data.toList.length = s.size := Array.length_toList
  have he : s.toList = [] ↔ s.size = 0 := by rw [ByteArray.toList_eq, ← List.length_eq_zero_iff, hs]
  have He := Lib.hid he
  clear he hs
  go_enter Tryz.func157, Tryz.ntmps157
  go_wp2
  all_goals go_ret
  all_goals refine ⟨ret_bool ?_, b0 _ _⟩
  all_goals unfold noneB
  all_goals rw [Bool.eq_iff_iff]
  all_goals simp only [He.out, decide_eq_true_eq, Bool.false_eq_true, false_iff, true_iff] at *
  all_goals omega

set_option maxHeartbeats 2000000 in
theorem deedGood_any (K ka na kb nb : Int) (ky sa sb : ByteArray) (w : World) (hk : ky.size ≤ maxLen) (ha : sa.size ≤ maxLen) (hb : sb.size ≤ maxLen) :
    Calls Tryz.prog 120 #[opV K ky ka na sa kb nb sb] w fun e w' => e = .returned (.bool (opB K ky ka na sa kb nb sb)) ∧ Below w.heap.size w w' := by
  go_enter Tryz.func120, Tryz.ntmps120
  go_wp2_with fail
  have hC := Lib.hid (blk_new w (opC K ky ka na sa kb nb sb) 45)
  have hB := b0 w (.cells (opC K ky ka na sa kb nb sb) 45)
  generalize w.alloc (.cells (opC K ky ka na sa kb nb sb) 45) = W at hC hB ⊢
  refine (key_any _ _ hk).mono ?_
  rintro e w1 ⟨rfl, hb1⟩
  replace hB := bt hB hb1
  replace hC := Lib.hid (hC.out.keep hb1)
  clear hb1
  obtain ⟨c0, c1, c2, c3, c4, c5, c6, c7, c8⟩ := hC.out.c8
  cases gk : keyB ky.data.toList
  · have R : Hid (opB K ky ka na sa kb nb sb = false) := by show _ = _; unfold opB; rw [gk]; rfl
    go_wp2_with fail
    go_ret
    exact ⟨ret_bool R.out.symm, hB⟩
  · have Gk := Lib.hid gk
    clear gk
    go_wp2_with (first | (go_at_call 117; refine (good_any _ _ _ _ (by assumption)).mono ?_; rintro e w2 ⟨rfl, hb2⟩; replace hB := bt hB hb2; replace hC := Lib.hid (hC.out.keep hb2); obtain ⟨d0, d1, d2, d3, d4, d5, d6, d7, d8⟩ := hC.out.c8) | (go_at_call 157; refine (nothing_any _ _ _ _).mono ?_; rintro e w2 ⟨rfl, hb2⟩; replace hB := bt hB hb2; replace hC := Lib.hid (hC.out.keep hb2); obtain ⟨d0, d1, d2, d3, d4, d5, d6, d7, d8⟩ := hC.out.c8))
    all_goals go_ret
    all_goals refine ⟨ret_bool ?_, hB⟩
    all_goals unfold opB
    all_goals rw [Gk.out, Bool.eq_iff_iff]
    all_goals simp only [goodB, noneB, Bool.and_eq_true, Bool.true_and, decide_eq_true_eq, beq_iff_eq, beq_eq_false_iff_ne, bne_iff_ne, bne_eq_false_iff_eq, Bool.false_eq_true, false_iff] at *
    all_goals clear hC
    all_goals omega
end Go.Proofs.YtpjleeeligahaaaGreatDoor

namespace Go.Proofs.YtpjleeeligahaaaGreatDoor
open Go.RowKit

set_option maxHeartbeats 1000000 in
theorem goodId_any (dev seq : Int) (w : World) :
    Calls Tryz.prog 119 #[.agg #[.int .i64 dev, .int .i64 seq]] w fun e w' => e = .returned (.bool (idB dev seq)) ∧ Below w.heap.size w w' := by
  go_enter Tryz.func119, Tryz.ntmps119
  go_wp2
  all_goals go_ret
  all_goals refine ⟨ret_bool ?_, b0 _ _⟩
  all_goals unfold idB
  all_goals rw [Bool.eq_iff_iff]
  all_goals simp only [decide_eq_true_eq, Bool.false_eq_true, false_iff] at *
  all_goals omega

set_option maxHeartbeats 2000000 in
theorem stampGood_any (x : Wr) (w : World) (hf : x.fits) :
    Calls Tryz.prog 73 #[.agg x.cells] w fun e w' => e = .returned (.bool x.good) ∧ Below w.heap.size w w' := by
  obtain ⟨dev, seq, K, ky, ka, na, sa, kb, nb, sb⟩ := x
  obtain ⟨hk, ha, hb, -, -⟩ := hf
  dsimp only at hk ha hb
  go_enter Tryz.func73, Tryz.ntmps73
  go_wp2_with fail
  have hC := Lib.hid (blk_new w (wrI dev seq K ky ka na sa kb nb sb) 47)
  have hB := b0 w (.cells (wrI dev seq K ky ka na sa kb nb sb) 47)
  generalize w.alloc (.cells (wrI dev seq K ky ka na sa kb nb sb) 47) = W at hC hB ⊢
  refine (goodId_any _ _ _).mono ?_
  rintro e w1 ⟨rfl, hb1⟩
  replace hB := bt hB hb1
  replace hC := Lib.hid (hC.out.keep hb1)
  clear hb1
  obtain ⟨c0, c1, c2, c3, c4, c5, c6, c7, c8, c9, c10⟩ := blk_c10 hC.out
  cases gi : idB dev seq
  · have R : Hid (Wr.good ⟨dev, seq, K, ky, ka, na, sa, kb, nb, sb⟩ = false) := by show wrGoodB dev seq K ky ka na sa kb nb sb = _; unfold wrGoodB; rw [gi]; rfl
    clear gi
    go_wp2_with fail
    go_ret
    exact ⟨ret_bool R.out.symm, hB⟩
  · have R : Hid (Wr.good ⟨dev, seq, K, ky, ka, na, sa, kb, nb, sb⟩ = opB K ky ka na sa kb nb sb) := by show wrGoodB dev seq K ky ka na sa kb nb sb = _; unfold wrGoodB; rw [gi]; rfl
    clear gi
    go_wp2_with fail
    refine (deedGood_any _ _ _ _ _ _ _ _ _ hk ha hb).mono ?_
    rintro e w2 ⟨rfl, hb2⟩
    replace hB := bt hB hb2
    go_wp2_with fail
    go_ret
    exact ⟨ret_bool R.out.symm, hB⟩
end Go.Proofs.YtpjleeeligahaaaGreatDoor

namespace Go.Proofs.YtpjleeeligahaaaGreatDoor
open Go.RowKit

theorem RdrP.set1 {S : Addr} {W : World} {g b i : Nat} {v : Value} {st : Rest} (h : RdrP S W g st) (hne : b ≠ g) : RdrP S (W.setCell ⟨b, i, none⟩ v) g st :=
  h.keep set_grown (by intro e; injection e; omega)
theorem grown10 {w W : World} {g b : Nat} (h : w.grownBy W (some g)) (hb : w.heap.size ≤ b) (v0 v1 v2 v3 v4 v5 v6 v7 v8 v9 : Value) : w.grownBy ((((((((((W.setCell ⟨b, 0, none⟩ v0).setCell ⟨b, 1, none⟩ v1).setCell ⟨b, 2, none⟩ v2).setCell ⟨b, 3, none⟩ v3).setCell ⟨b, 4, none⟩ v4).setCell ⟨b, 5, none⟩ v5).setCell ⟨b, 6, none⟩ v6).setCell ⟨b, 7, none⟩ v7).setCell ⟨b, 8, none⟩ v8).setCell ⟨b, 9, none⟩ v9) (some g) :=
  grown_set (grown_set (grown_set (grown_set (grown_set (grown_set (grown_set (grown_set (grown_set (grown_set h hb) hb) hb) hb) hb) hb) hb) hb) hb) hb
theorem RdrP.set10 {S : Addr} {W : World} {g b : Nat} {st : Rest} (h : RdrP S W g st) (hne : b ≠ g) (v0 v1 v2 v3 v4 v5 v6 v7 v8 v9 : Value) : RdrP S ((((((((((W.setCell ⟨b, 0, none⟩ v0).setCell ⟨b, 1, none⟩ v1).setCell ⟨b, 2, none⟩ v2).setCell ⟨b, 3, none⟩ v3).setCell ⟨b, 4, none⟩ v4).setCell ⟨b, 5, none⟩ v5).setCell ⟨b, 6, none⟩ v6).setCell ⟨b, 7, none⟩ v7).setCell ⟨b, 8, none⟩ v8).setCell ⟨b, 9, none⟩ v9) g st :=
  (((((((((h.set1 hne).set1 hne).set1 hne).set1 hne).set1 hne).set1 hne).set1 hne).set1 hne).set1 hne).set1 hne
theorem below10_at {B b : Nat} {w W : World} (h : Below B w W) (hb : B ≤ b) (v0 v1 v2 v3 v4 v5 v6 v7 v8 v9 : Value) : Below B w ((((((((((W.setCell ⟨b, 0, none⟩ v0).setCell ⟨b, 1, none⟩ v1).setCell ⟨b, 2, none⟩ v2).setCell ⟨b, 3, none⟩ v3).setCell ⟨b, 4, none⟩ v4).setCell ⟨b, 5, none⟩ v5).setCell ⟨b, 6, none⟩ v6).setCell ⟨b, 7, none⟩ v7).setCell ⟨b, 8, none⟩ v8).setCell ⟨b, 9, none⟩ v9) := below10 h hb v0 v1 v2 v3 v4 v5 v6 v7 v8 v9

set_option maxRecDepth 100000 in
set_option maxHeartbeats 2000000 in
theorem soundW_any (S : Addr) (g : Nat) (st : Rest) (x : Wr) (w : World) (hR : RdrP S w g st) :
    Calls Tryz.prog 74 #[.pointer (some ⟨g, 0, none⟩), .agg x.cells] w fun e w' => e = .returned (.agg (soundM wrNo st x).cells) ∧ Below w.heap.size w w' := by
  obtain ⟨dev, seq, K, ky, ka, na, sa, kb, nb, sb⟩ := x
  have hlt := hR.lt
  cases st with
  | none =>
    obtain ⟨e1, he1, hb⟩ := hR
    obtain ⟨t1, v1, rfl⟩ := errP_nil he1
    have c1 := hb.cell 1
    go_enter Tryz.func74, Tryz.ntmps74
    go_wp2_with fail
    exact bodyPost_ret (v := .agg (wrI 0 0 0 ⟨#[]⟩ 0 0 ⟨#[]⟩ 0 0 ⟨#[]⟩)) (by simp [results, Tryz.results74, go_sem]) rfl ⟨rfl, by repeat (first | exact Below.refl _ _ | (refine Below.alloc ?_ (by simp <;> omega) _) | (refine Below.setCell ?_ (by simp <;> omega) _))⟩
  | some b =>
    obtain ⟨hl, s1, hs, hb⟩ := hR
    have c1 := hb.cell 1
    go_enter Tryz.func74, Tryz.ntmps74
    go_wp2_with fail
    exact bodyPost_ret (v := .agg (wrI dev seq K ky ka na sa kb nb sb)) (by simp [results, Tryz.results74, go_sem]) rfl ⟨rfl, by repeat (first | exact Below.refl _ _ | (refine Below.alloc ?_ (by simp <;> omega) _) | (refine Below.setCell ?_ (by simp <;> omega) _))⟩

set_option maxRecDepth 100000 in
set_option maxHeartbeats 4000000 in
theorem rWrite_any (S : Addr) (g : Nat) (st : Rest) (w : World) (hL : LaidS S w) (hR : RdrP S w g st) :
    Calls Tryz.prog 33 #[.pointer (some ⟨g, 0, none⟩)] w fun e w' => e = .returned (.agg (wrOf st).1.cells) ∧ RdrP S w' g (wrOf st).2 ∧ w.grownBy w' (some g) := by
  rw [← wr_is]
  unfold wrM wrC2 wrS wrX
  have hlt := hR.lt
  have HL := Lib.hid (fun W' (hg : w.grownBy W' (some g)) => hL.grown hR hg)
  have H1 := Lib.hid (fun W hL hR => small_any S g st W hL hR)
  have n1 := (numOf_lt st 9223372036854775807).1
  generalize numOf st 9223372036854775807 = p1 at H1 n1 ⊢
  obtain ⟨d1, st1⟩ := p1
  dsimp only at H1 n1 ⊢
  have H2 := Lib.hid (fun W hL hR => small_any S g st1 W hL hR)
  have n2 := (numOf_lt st1 9223372036854775807).1
  generalize numOf st1 9223372036854775807 = p2 at H2 n2 ⊢
  obtain ⟨d2, st2⟩ := p2
  dsimp only at H2 n2 ⊢
  have H3 := Lib.hid (fun W hL hR => small_any S g st2 W hL hR)
  have n3 := (numOf_lt st2 9223372036854775807).1
  generalize numOf st2 9223372036854775807 = p3 at H3 n3 ⊢
  obtain ⟨d3, st3⟩ := p3
  dsimp only at H3 n3 ⊢
  have H4 := Lib.hid (fun W hL hR => rText_any S g st3 20 W hL hR (by omega))
  have n4 := textOf_most st3 20
  generalize textOf st3 20 = p4 at H4 n4 ⊢
  obtain ⟨ty, st4⟩ := p4
  dsimp only at H4 n4 ⊢
  have H5 := Lib.hid (fun W hL hR => rValue_any S g st4 W hL hR)
  have n5 := val_fits st4
  generalize valOf st4 = p5 at H5 n5 ⊢
  obtain ⟨⟨ka, na, la⟩, st5⟩ := p5
  dsimp only at H5 n5 ⊢
  have H6 := Lib.hid (fun W hL hR => rValue_any S g st5 W hL hR)
  have n6 := val_fits st5
  generalize valOf st5 = p6 at H6 n6 ⊢
  obtain ⟨⟨kb, nb, lb⟩, st6⟩ := p6
  dsimp only at H6 n6 ⊢
  have hfit : Hid (Wr.fits ⟨(d1 : Int), (d2 : Int), (d3 : Int), ⟨ty.toArray⟩, ka, na, ⟨la.toArray⟩, kb, nb, ⟨lb.toArray⟩⟩) := by
    refine ⟨?_, ?_, ?_, n5.1, n6.1⟩
    · show ty.toArray.size ≤ maxLen
      unfold maxLen
      simp
      omega
    · show la.toArray.size ≤ maxLen
      unfold maxLen
      simp
      omega
    · show lb.toArray.size ≤ maxLen
      unfold maxLen
      simp
      omega
  clear n4 n5 n6
  go_enter Tryz.func33, Tryz.ntmps33
  go_wp2_with fail
  have hB := ba (b0 w (.cells #[.int .i64 0, .int .i64 0, .int .i64 0, .string ⟨#[]⟩, .int .i64 0, .int .i64 0, .string ⟨#[]⟩, .int .i64 0, .int .i64 0, .string ⟨#[]⟩] 47)) (.cells #[.int .i64 0, .int .i64 0, .int .i64 0, .string ⟨#[]⟩, .int .i64 0, .int .i64 0, .string ⟨#[]⟩, .int .i64 0, .int .i64 0, .string ⟨#[]⟩] 47)
  have hK := (blk_new w #[.int .i64 0, .int .i64 0, .int .i64 0, .string ⟨#[]⟩, .int .i64 0, .int .i64 0, .string ⟨#[]⟩, .int .i64 0, .int .i64 0, .string ⟨#[]⟩] 47).alloc (.cells #[.int .i64 0, .int .i64 0, .int .i64 0, .string ⟨#[]⟩, .int .i64 0, .int .i64 0, .string ⟨#[]⟩, .int .i64 0, .int .i64 0, .string ⟨#[]⟩] 47)
  have hV := blk_at (w := w.alloc (.cells #[.int .i64 0, .int .i64 0, .int .i64 0, .string ⟨#[]⟩, .int .i64 0, .int .i64 0, .string ⟨#[]⟩, .int .i64 0, .int .i64 0, .string ⟨#[]⟩] 47)) (b := w.heap.size + 1) (by simp) #[.int .i64 0, .int .i64 0, .int .i64 0, .string ⟨#[]⟩, .int .i64 0, .int .i64 0, .string ⟨#[]⟩, .int .i64 0, .int .i64 0, .string ⟨#[]⟩] 47
  replace hR := hR.below hB
  have hG := grown_below hB (some g)
  clear hL
  generalize (w.alloc (.cells #[.int .i64 0, .int .i64 0, .int .i64 0, .string ⟨#[]⟩, .int .i64 0, .int .i64 0, .string ⟨#[]⟩, .int .i64 0, .int .i64 0, .string ⟨#[]⟩] 47)).alloc (.cells #[.int .i64 0, .int .i64 0, .int .i64 0, .string ⟨#[]⟩, .int .i64 0, .int .i64 0, .string ⟨#[]⟩, .int .i64 0, .int .i64 0, .string ⟨#[]⟩] 47) = W at hK hV hR hG ⊢
  clear hB
  have hrb0 : w.heap.size ≤ w.heap.size := Nat.le_refl _
  have hvb0 : w.heap.size ≤ w.heap.size + 1 := by omega
  have hne1 : w.heap.size + 1 ≠ g := by omega
  have hne2 : w.heap.size + 1 ≠ w.heap.size := by omega
  have hne3 : w.heap.size ≠ g := by omega
  generalize hvq : w.heap.size + 1 = vb at hV hne1 hne2 hvb0 ⊢
  generalize hrq : w.heap.size = rb at hK hne2 hne3 ⊢
  refine (H1.out _ (HL.out _ hG) hR).mono ?_
  rintro e w1 ⟨rfl, hR2, hg⟩
  replace hV := blk_grown hV hg (by intro e; injection e; omega)
  replace hK := blk_grown hK hg (by intro e; injection e; omega)
  replace hG := hG.trans hg
  clear hR hg
  obtain ⟨c0, c1, c2, c3, c4, c5, c6, c7, c8, c9, cl⟩ := blk_c10 hV
  obtain ⟨f0, f1, f2, f3, f4, f5, f6, f7, f8, f9⟩ := blk_f10 hV
  go_wp2_with fail
  have hV2 : Blk (w1.setCell ⟨vb, 0, none⟩ (.int .i64 (d1 : Int))) vb #[.int .i64 (d1 : Int), .int .i64 0, .int .i64 0, .string ⟨#[]⟩, .int .i64 0, .int .i64 0, .string ⟨#[]⟩, .int .i64 0, .int .i64 0, .string ⟨#[]⟩] 47 := (hV).set 0 (.int .i64 (d1 : Int))
  have hK2 : Blk (w1.setCell ⟨vb, 0, none⟩ (.int .i64 (d1 : Int))) rb #[.int .i64 0, .int .i64 0, .int .i64 0, .string ⟨#[]⟩, .int .i64 0, .int .i64 0, .string ⟨#[]⟩, .int .i64 0, .int .i64 0, .string ⟨#[]⟩] 47 := (blk_grown hK set_grown (by intro e; injection e; omega))
  have hR3 : RdrP S (w1.setCell ⟨vb, 0, none⟩ (.int .i64 (d1 : Int))) g st1 := (RdrP.set1 hR2 hne1)
  have hG2 : w.grownBy (w1.setCell ⟨vb, 0, none⟩ (.int .i64 (d1 : Int))) (some g) := (grown_set hG hvb0)
  clear c0 c1 c2 c3 c4 c5 c6 c7 c8 c9 cl f0 f1 f2 f3 f4 f5 f6 f7 f8 f9 hV hK hR2 hG
  generalize (w1.setCell ⟨vb, 0, none⟩ (.int .i64 (d1 : Int))) = X1 at hV2 hK2 hR3 hG2 ⊢
  have hV := hV2
  have hK := hK2
  have hR := hR3
  have hG := hG2
  clear hV2 hK2 hR3 hG2
  refine (H2.out _ (HL.out _ hG) hR).mono ?_
  rintro e w2 ⟨rfl, hR2, hg⟩
  replace hV := blk_grown hV hg (by intro e; injection e; omega)
  replace hK := blk_grown hK hg (by intro e; injection e; omega)
  replace hG := hG.trans hg
  clear hR hg
  obtain ⟨c0, c1, c2, c3, c4, c5, c6, c7, c8, c9, cl⟩ := blk_c10 hV
  obtain ⟨f0, f1, f2, f3, f4, f5, f6, f7, f8, f9⟩ := blk_f10 hV
  go_wp2_with fail
  have hV2 : Blk (w2.setCell ⟨vb, 1, none⟩ (.int .i64 (d2 : Int))) vb #[.int .i64 (d1 : Int), .int .i64 (d2 : Int), .int .i64 0, .string ⟨#[]⟩, .int .i64 0, .int .i64 0, .string ⟨#[]⟩, .int .i64 0, .int .i64 0, .string ⟨#[]⟩] 47 := (hV).set 1 (.int .i64 (d2 : Int))
  have hK2 : Blk (w2.setCell ⟨vb, 1, none⟩ (.int .i64 (d2 : Int))) rb #[.int .i64 0, .int .i64 0, .int .i64 0, .string ⟨#[]⟩, .int .i64 0, .int .i64 0, .string ⟨#[]⟩, .int .i64 0, .int .i64 0, .string ⟨#[]⟩] 47 := (blk_grown hK set_grown (by intro e; injection e; omega))
  have hR3 : RdrP S (w2.setCell ⟨vb, 1, none⟩ (.int .i64 (d2 : Int))) g st2 := (RdrP.set1 hR2 hne1)
  have hG2 : w.grownBy (w2.setCell ⟨vb, 1, none⟩ (.int .i64 (d2 : Int))) (some g) := (grown_set hG hvb0)
  clear c0 c1 c2 c3 c4 c5 c6 c7 c8 c9 cl f0 f1 f2 f3 f4 f5 f6 f7 f8 f9 hV hK hR2 hG
  generalize (w2.setCell ⟨vb, 1, none⟩ (.int .i64 (d2 : Int))) = X2 at hV2 hK2 hR3 hG2 ⊢
  have hV := hV2
  have hK := hK2
  have hR := hR3
  have hG := hG2
  clear hV2 hK2 hR3 hG2
  refine (H3.out _ (HL.out _ hG) hR).mono ?_
  rintro e w3 ⟨rfl, hR2, hg⟩
  replace hV := blk_grown hV hg (by intro e; injection e; omega)
  replace hK := blk_grown hK hg (by intro e; injection e; omega)
  replace hG := hG.trans hg
  clear hR hg
  obtain ⟨c0, c1, c2, c3, c4, c5, c6, c7, c8, c9, cl⟩ := blk_c10 hV
  obtain ⟨f0, f1, f2, f3, f4, f5, f6, f7, f8, f9⟩ := blk_f10 hV
  go_wp2_with fail
  have hV2 : Blk (w3.setCell ⟨vb, 2, none⟩ (.int .i64 (d3 : Int))) vb #[.int .i64 (d1 : Int), .int .i64 (d2 : Int), .int .i64 (d3 : Int), .string ⟨#[]⟩, .int .i64 0, .int .i64 0, .string ⟨#[]⟩, .int .i64 0, .int .i64 0, .string ⟨#[]⟩] 47 := (hV).set 2 (.int .i64 (d3 : Int))
  have hK2 : Blk (w3.setCell ⟨vb, 2, none⟩ (.int .i64 (d3 : Int))) rb #[.int .i64 0, .int .i64 0, .int .i64 0, .string ⟨#[]⟩, .int .i64 0, .int .i64 0, .string ⟨#[]⟩, .int .i64 0, .int .i64 0, .string ⟨#[]⟩] 47 := (blk_grown hK set_grown (by intro e; injection e; omega))
  have hR3 : RdrP S (w3.setCell ⟨vb, 2, none⟩ (.int .i64 (d3 : Int))) g st3 := (RdrP.set1 hR2 hne1)
  have hG2 : w.grownBy (w3.setCell ⟨vb, 2, none⟩ (.int .i64 (d3 : Int))) (some g) := (grown_set hG hvb0)
  clear c0 c1 c2 c3 c4 c5 c6 c7 c8 c9 cl f0 f1 f2 f3 f4 f5 f6 f7 f8 f9 hV hK hR2 hG
  generalize (w3.setCell ⟨vb, 2, none⟩ (.int .i64 (d3 : Int))) = X3 at hV2 hK2 hR3 hG2 ⊢
  have hV := hV2
  have hK := hK2
  have hR := hR3
  have hG := hG2
  clear hV2 hK2 hR3 hG2
  refine (H4.out _ (HL.out _ hG) hR).mono ?_
  rintro e w4 ⟨⟨s4, rfl, hs⟩, hR2, hg⟩
  obtain rfl := ba_of hs
  clear hs
  replace hV := blk_grown hV hg (by intro e; injection e; omega)
  replace hK := blk_grown hK hg (by intro e; injection e; omega)
  replace hG := hG.trans hg
  clear hR hg
  obtain ⟨c0, c1, c2, c3, c4, c5, c6, c7, c8, c9, cl⟩ := blk_c10 hV
  obtain ⟨f0, f1, f2, f3, f4, f5, f6, f7, f8, f9⟩ := blk_f10 hV
  go_wp2_with fail
  have hV2 : Blk (w4.setCell ⟨vb, 3, none⟩ (.string ⟨ty.toArray⟩)) vb #[.int .i64 (d1 : Int), .int .i64 (d2 : Int), .int .i64 (d3 : Int), .string ⟨ty.toArray⟩, .int .i64 0, .int .i64 0, .string ⟨#[]⟩, .int .i64 0, .int .i64 0, .string ⟨#[]⟩] 47 := (hV).set 3 (.string ⟨ty.toArray⟩)
  have hK2 : Blk (w4.setCell ⟨vb, 3, none⟩ (.string ⟨ty.toArray⟩)) rb #[.int .i64 0, .int .i64 0, .int .i64 0, .string ⟨#[]⟩, .int .i64 0, .int .i64 0, .string ⟨#[]⟩, .int .i64 0, .int .i64 0, .string ⟨#[]⟩] 47 := (blk_grown hK set_grown (by intro e; injection e; omega))
  have hR3 : RdrP S (w4.setCell ⟨vb, 3, none⟩ (.string ⟨ty.toArray⟩)) g st4 := (RdrP.set1 hR2 hne1)
  have hG2 : w.grownBy (w4.setCell ⟨vb, 3, none⟩ (.string ⟨ty.toArray⟩)) (some g) := (grown_set hG hvb0)
  clear c0 c1 c2 c3 c4 c5 c6 c7 c8 c9 cl f0 f1 f2 f3 f4 f5 f6 f7 f8 f9 hV hK hR2 hG
  generalize (w4.setCell ⟨vb, 3, none⟩ (.string ⟨ty.toArray⟩)) = X4 at hV2 hK2 hR3 hG2 ⊢
  have hV := hV2
  have hK := hK2
  have hR := hR3
  have hG := hG2
  clear hV2 hK2 hR3 hG2
  refine (H5.out _ (HL.out _ hG) hR).mono ?_
  rintro e w5 ⟨⟨s5, rfl, hs⟩, hR2, hg⟩
  obtain rfl := ba_of hs
  clear hs
  replace hV := blk_grown hV hg (by intro e; injection e; omega)
  replace hK := blk_grown hK hg (by intro e; injection e; omega)
  replace hG := hG.trans hg
  clear hR hg
  obtain ⟨c0, c1, c2, c3, c4, c5, c6, c7, c8, c9, cl⟩ := blk_c10 hV
  obtain ⟨f0, f1, f2, f3, f4, f5, f6, f7, f8, f9⟩ := blk_f10 hV
  go_wp2_with fail
  have hV2 : Blk (((w5.setCell ⟨vb, 4, none⟩ (.int .i64 ka)).setCell ⟨vb, 5, none⟩ (.int .i64 na)).setCell ⟨vb, 6, none⟩ (.string ⟨la.toArray⟩)) vb #[.int .i64 (d1 : Int), .int .i64 (d2 : Int), .int .i64 (d3 : Int), .string ⟨ty.toArray⟩, .int .i64 ka, .int .i64 na, .string ⟨la.toArray⟩, .int .i64 0, .int .i64 0, .string ⟨#[]⟩] 47 := (((hV).set 4 (.int .i64 ka)).set 5 (.int .i64 na)).set 6 (.string ⟨la.toArray⟩)
  have hK2 : Blk (((w5.setCell ⟨vb, 4, none⟩ (.int .i64 ka)).setCell ⟨vb, 5, none⟩ (.int .i64 na)).setCell ⟨vb, 6, none⟩ (.string ⟨la.toArray⟩)) rb #[.int .i64 0, .int .i64 0, .int .i64 0, .string ⟨#[]⟩, .int .i64 0, .int .i64 0, .string ⟨#[]⟩, .int .i64 0, .int .i64 0, .string ⟨#[]⟩] 47 := (blk_grown (blk_grown (blk_grown hK set_grown (by intro e; injection e; omega)) set_grown (by intro e; injection e; omega)) set_grown (by intro e; injection e; omega))
  have hR3 : RdrP S (((w5.setCell ⟨vb, 4, none⟩ (.int .i64 ka)).setCell ⟨vb, 5, none⟩ (.int .i64 na)).setCell ⟨vb, 6, none⟩ (.string ⟨la.toArray⟩)) g st5 := (RdrP.set1 (RdrP.set1 (RdrP.set1 hR2 hne1) hne1) hne1)
  have hG2 : w.grownBy (((w5.setCell ⟨vb, 4, none⟩ (.int .i64 ka)).setCell ⟨vb, 5, none⟩ (.int .i64 na)).setCell ⟨vb, 6, none⟩ (.string ⟨la.toArray⟩)) (some g) := (grown_set (grown_set (grown_set hG hvb0) hvb0) hvb0)
  clear c0 c1 c2 c3 c4 c5 c6 c7 c8 c9 cl f0 f1 f2 f3 f4 f5 f6 f7 f8 f9 hV hK hR2 hG
  generalize (((w5.setCell ⟨vb, 4, none⟩ (.int .i64 ka)).setCell ⟨vb, 5, none⟩ (.int .i64 na)).setCell ⟨vb, 6, none⟩ (.string ⟨la.toArray⟩)) = X5 at hV2 hK2 hR3 hG2 ⊢
  have hV := hV2
  have hK := hK2
  have hR := hR3
  have hG := hG2
  clear hV2 hK2 hR3 hG2
  refine (H6.out _ (HL.out _ hG) hR).mono ?_
  rintro e w6 ⟨⟨s6, rfl, hs⟩, hR2, hg⟩
  obtain rfl := ba_of hs
  clear hs
  replace hV := blk_grown hV hg (by intro e; injection e; omega)
  replace hK := blk_grown hK hg (by intro e; injection e; omega)
  replace hG := hG.trans hg
  clear hR hg
  obtain ⟨c0, c1, c2, c3, c4, c5, c6, c7, c8, c9, cl⟩ := blk_c10 hV
  obtain ⟨f0, f1, f2, f3, f4, f5, f6, f7, f8, f9⟩ := blk_f10 hV
  go_wp2_with fail
  have hV2 : Blk (((w6.setCell ⟨vb, 7, none⟩ (.int .i64 kb)).setCell ⟨vb, 8, none⟩ (.int .i64 nb)).setCell ⟨vb, 9, none⟩ (.string ⟨lb.toArray⟩)) vb #[.int .i64 (d1 : Int), .int .i64 (d2 : Int), .int .i64 (d3 : Int), .string ⟨ty.toArray⟩, .int .i64 ka, .int .i64 na, .string ⟨la.toArray⟩, .int .i64 kb, .int .i64 nb, .string ⟨lb.toArray⟩] 47 := (((hV).set 7 (.int .i64 kb)).set 8 (.int .i64 nb)).set 9 (.string ⟨lb.toArray⟩)
  have hK2 : Blk (((w6.setCell ⟨vb, 7, none⟩ (.int .i64 kb)).setCell ⟨vb, 8, none⟩ (.int .i64 nb)).setCell ⟨vb, 9, none⟩ (.string ⟨lb.toArray⟩)) rb #[.int .i64 0, .int .i64 0, .int .i64 0, .string ⟨#[]⟩, .int .i64 0, .int .i64 0, .string ⟨#[]⟩, .int .i64 0, .int .i64 0, .string ⟨#[]⟩] 47 := (blk_grown (blk_grown (blk_grown hK set_grown (by intro e; injection e; omega)) set_grown (by intro e; injection e; omega)) set_grown (by intro e; injection e; omega))
  have hR3 : RdrP S (((w6.setCell ⟨vb, 7, none⟩ (.int .i64 kb)).setCell ⟨vb, 8, none⟩ (.int .i64 nb)).setCell ⟨vb, 9, none⟩ (.string ⟨lb.toArray⟩)) g st6 := (RdrP.set1 (RdrP.set1 (RdrP.set1 hR2 hne1) hne1) hne1)
  have hG2 : w.grownBy (((w6.setCell ⟨vb, 7, none⟩ (.int .i64 kb)).setCell ⟨vb, 8, none⟩ (.int .i64 nb)).setCell ⟨vb, 9, none⟩ (.string ⟨lb.toArray⟩)) (some g) := (grown_set (grown_set (grown_set hG hvb0) hvb0) hvb0)
  clear c0 c1 c2 c3 c4 c5 c6 c7 c8 c9 cl f0 f1 f2 f3 f4 f5 f6 f7 f8 f9 hV hK hR2 hG
  generalize (((w6.setCell ⟨vb, 7, none⟩ (.int .i64 kb)).setCell ⟨vb, 8, none⟩ (.int .i64 nb)).setCell ⟨vb, 9, none⟩ (.string ⟨lb.toArray⟩)) = X6 at hV2 hK2 hR3 hG2 ⊢
  have hV := hV2
  have hK := hK2
  have hR := hR3
  have hG := hG2
  clear hV2 hK2 hR3 hG2
  refine (stampGood_any ⟨(d1 : Int), (d2 : Int), (d3 : Int), ⟨ty.toArray⟩, ka, na, ⟨la.toArray⟩, kb, nb, ⟨lb.toArray⟩⟩ _ hfit.out).mono ?_
  rintro e w7 ⟨rfl, hb7⟩
  replace hV := hV.keep hb7
  replace hK := hK.keep hb7
  replace hR := hR.below hb7
  replace hG := hG.trans (grown_below hb7 (some g))
  clear hb7
  obtain ⟨c0, c1, c2, c3, c4, c5, c6, c7, c8, c9, cl⟩ := blk_c10 hV
  go_wp2_with fail
  refine (must_any S g _ _ _ w7 hR).mono ?_
  rintro e w8 ⟨rfl, hR2, hg⟩
  replace hV := blk_grown hV hg (by intro e; injection e; omega)
  replace hK := blk_grown hK hg (by intro e; injection e; omega)
  replace hG := hG.trans hg
  clear hR hg c0 c1 c2 c3 c4 c5 c6 c7 c8 c9 cl
  obtain ⟨c0, c1, c2, c3, c4, c5, c6, c7, c8, c9, cl⟩ := blk_c10 hV
  go_wp2_with fail
  refine (soundW_any S g _ ⟨(d1 : Int), (d2 : Int), (d3 : Int), ⟨ty.toArray⟩, ka, na, ⟨la.toArray⟩, kb, nb, ⟨lb.toArray⟩⟩ w8 hR2).mono ?_
  rintro e w9 ⟨rfl, hb9⟩
  replace hK := hK.keep hb9
  replace hR2 := hR2.below hb9
  replace hG := hG.trans (grown_below hb9 (some g))
  clear hV hb9 c0 c1 c2 c3 c4 c5 c6 c7 c8 c9 cl
  obtain ⟨c0, c1, c2, c3, c4, c5, c6, c7, c8, c9, cl⟩ := blk_c10 hK
  obtain ⟨f0, f1, f2, f3, f4, f5, f6, f7, f8, f9⟩ := blk_f10 hK
  go_wp2_with fail
  have h9 := fun v0 v1 v2 v3 v4 v5 v6 v7 v8 v9 => RdrP.set10 hR2 hne3 v0 v1 v2 v3 v4 v5 v6 v7 v8 v9
  have hg9 := fun v0 v1 v2 v3 v4 v5 v6 v7 v8 v9 => grown10 (b := rb) hG (Nat.le_of_eq hrq) v0 v1 v2 v3 v4 v5 v6 v7 v8 v9
  exact bodyPost_ret (v := .agg (soundM wrNo (mustM (Wr.good ⟨(d1 : Int), (d2 : Int), (d3 : Int), ⟨ty.toArray⟩, ka, na, ⟨la.toArray⟩, kb, nb, ⟨lb.toArray⟩⟩) st6) ⟨(d1 : Int), (d2 : Int), (d3 : Int), ⟨ty.toArray⟩, ka, na, ⟨la.toArray⟩, kb, nb, ⟨lb.toArray⟩⟩).cells) (by simp [results, Tryz.results33, go_sem, c0, c1, c2, c3, c4, c5, c6, c7, c8, c9]) rfl ⟨rfl, h9 _ _ _ _ _ _ _ _ _ _, hg9 _ _ _ _ _ _ _ _ _ _⟩
end Go.Proofs.YtpjleeeligahaaaGreatDoor
