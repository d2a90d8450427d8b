/-
  WHAT IS PROVED: package pack's reader: Write: what it answers and leaves, as the chapter says. Conditions: those typed in each theorem. · package roll's calls that take lists from a reader (takeList, sound of each kind of element): what they answer, and leave of what the reader has. Conditions: those typed in each theorem.
-/
import Derived.Test.YtpjleeeligahaaaGreatDoorGQ10
import Derived.Test.YtpjleeeligahaaaGreatDoorGQ9
import Derived.Test.YtpjleeeligahaaaGreatDoorGQ6
namespace Go.Proofs.YtpjleeeligahaaaGreatDoor
open Go.RowKit

theorem RdrP.set1 {S : Addr} {W : World} {g b i : Nat} {v : Value} {st : Rest} (h : RdrP S W g st) (hne : b ≠ g) : RdrP S (W.setCell ⟨b, i, none⟩ v) g st :=
  h.keep set_grown (by intro e; injection e; omega)
theorem grown10 {w W : World} {g b : Nat} (h : w.grownBy W (some g)) (hb : w.heap.size ≤ b) (v0 v1 v2 v3 v4 v5 v6 v7 v8 v9 : Value) : w.grownBy ((((((((((W.setCell ⟨b, 0, none⟩ v0).setCell ⟨b, 1, none⟩ v1).setCell ⟨b, 2, none⟩ v2).setCell ⟨b, 3, none⟩ v3).setCell ⟨b, 4, none⟩ v4).setCell ⟨b, 5, none⟩ v5).setCell ⟨b, 6, none⟩ v6).setCell ⟨b, 7, none⟩ v7).setCell ⟨b, 8, none⟩ v8).setCell ⟨b, 9, none⟩ v9) (some g) :=
  grown_set (grown_set (grown_set (grown_set (grown_set (grown_set (grown_set (grown_set (grown_set (grown_set h hb) hb) hb) hb) hb) hb) hb) hb) hb) hb
theorem RdrP.set10 {S : Addr} {W : World} {g b : Nat} {st : Rest} (h : RdrP S W g st) (hne : b ≠ g) (v0 v1 v2 v3 v4 v5 v6 v7 v8 v9 : Value) : RdrP S ((((((((((W.setCell ⟨b, 0, none⟩ v0).setCell ⟨b, 1, none⟩ v1).setCell ⟨b, 2, none⟩ v2).setCell ⟨b, 3, none⟩ v3).setCell ⟨b, 4, none⟩ v4).setCell ⟨b, 5, none⟩ v5).setCell ⟨b, 6, none⟩ v6).setCell ⟨b, 7, none⟩ v7).setCell ⟨b, 8, none⟩ v8).setCell ⟨b, 9, none⟩ v9) g st :=
  (((((((((h.set1 hne).set1 hne).set1 hne).set1 hne).set1 hne).set1 hne).set1 hne).set1 hne).set1 hne).set1 hne
theorem below10_at {B b : Nat} {w W : World} (h : Below B w W) (hb : B ≤ b) (v0 v1 v2 v3 v4 v5 v6 v7 v8 v9 : Value) : Below B w ((((((((((W.setCell ⟨b, 0, none⟩ v0).setCell ⟨b, 1, none⟩ v1).setCell ⟨b, 2, none⟩ v2).setCell ⟨b, 3, none⟩ v3).setCell ⟨b, 4, none⟩ v4).setCell ⟨b, 5, none⟩ v5).setCell ⟨b, 6, none⟩ v6).setCell ⟨b, 7, none⟩ v7).setCell ⟨b, 8, none⟩ v8).setCell ⟨b, 9, none⟩ v9) := below10 h hb v0 v1 v2 v3 v4 v5 v6 v7 v8 v9

set_option maxRecDepth 100000 in
set_option maxHeartbeats 2000000 in
theorem soundW_any (S : Addr) (g : Nat) (st : Rest) (x : Wr) (w : World) (hR : RdrP S w g st) :
    Calls Tryz.prog 74 #[.pointer (some ⟨g, 0, none⟩), .agg x.cells] w fun e w' => e = .returned (.agg (soundM wrNo st x).cells) ∧ Below w.heap.size w w' := by
  obtain ⟨dev, seq, K, ky, ka, na, sa, kb, nb, sb⟩ := x
  have hlt := hR.lt
  cases st with
  | none =>
    obtain ⟨e1, he1, hb⟩ := hR
    obtain ⟨t1, v1, rfl⟩ := errP_nil he1
    have c1 := hb.cell 1
    go_enter Tryz.func74, Tryz.ntmps74
    go_wp2_with fail
    exact bodyPost_ret (v := .agg (wrI 0 0 0 ⟨#[]⟩ 0 0 ⟨#[]⟩ 0 0 ⟨#[]⟩)) (by simp [results, Tryz.results74, go_sem]) rfl ⟨rfl, by repeat (first | exact Below.refl _ _ | (refine Below.alloc ?_ (by simp <;> omega) _) | (refine Below.setCell ?_ (by simp <;> omega) _))⟩
  | some b =>
    obtain ⟨hl, s1, hs, hb⟩ := hR
    have c1 := hb.cell 1
    go_enter Tryz.func74, Tryz.ntmps74
    go_wp2_with fail
    exact bodyPost_ret (v := .agg (wrI dev seq K ky ka na sa kb nb sb)) (by simp [results, Tryz.results74, go_sem]) rfl ⟨rfl, by repeat (first | exact Below.refl _ _ | (refine Below.alloc ?_ (by simp <;> omega) _) | (refine Below.setCell ?_ (by simp <;> omega) _))⟩

set_option maxRecDepth 100000 in
set_option maxHeartbeats 4000000 in
theorem rWrite_any (S : Addr) (g : Nat) (st : Rest) (w : World) (hL : LaidS S w) (hR : RdrP S w g st) :
    Calls Tryz.prog 33 #[.pointer (some ⟨g, 0, none⟩)] w fun e w' => e = .returned (.agg (wrOf st).1.cells) ∧ RdrP S w' g (wrOf st).2 ∧ w.grownBy w' (some g) := by
  rw [← wr_is]
  unfold wrM wrC2 wrS wrX
  have hlt := hR.lt
  have HL := Lib.hid (fun W' (hg : w.grownBy W' (some g)) => hL.grown hR hg)
  have H1 := Lib.hid (fun W hL hR => small_any S g st W hL hR)
  have n1 := (numOf_lt st 9223372036854775807).1
  generalize numOf st 9223372036854775807 = p1 at H1 n1 ⊢
  obtain ⟨d1, st1⟩ := p1
  dsimp only at H1 n1 ⊢
  have H2 := Lib.hid (fun W hL hR => small_any S g st1 W hL hR)
  have n2 := (numOf_lt st1 9223372036854775807).1
  generalize numOf st1 9223372036854775807 = p2 at H2 n2 ⊢
  obtain ⟨d2, st2⟩ := p2
  dsimp only at H2 n2 ⊢
  have H3 := Lib.hid (fun W hL hR => small_any S g st2 W hL hR)
  have n3 := (numOf_lt st2 9223372036854775807).1
  generalize numOf st2 9223372036854775807 = p3 at H3 n3 ⊢
  obtain ⟨d3, st3⟩ := p3
  dsimp only at H3 n3 ⊢
  have H4 := Lib.hid (fun W hL hR => rText_any S g st3 20 W hL hR (by omega))
  have n4 := textOf_most st3 20
  generalize textOf st3 20 = p4 at H4 n4 ⊢
  obtain ⟨ty, st4⟩ := p4
  dsimp only at H4 n4 ⊢
  have H5 := Lib.hid (fun W hL hR => rValue_any S g st4 W hL hR)
  have n5 := val_fits st4
  generalize valOf st4 = p5 at H5 n5 ⊢
  obtain ⟨⟨ka, na, la⟩, st5⟩ := p5
  dsimp only at H5 n5 ⊢
  have H6 := Lib.hid (fun W hL hR => rValue_any S g st5 W hL hR)
  have n6 := val_fits st5
  generalize valOf st5 = p6 at H6 n6 ⊢
  obtain ⟨⟨kb, nb, lb⟩, st6⟩ := p6
  dsimp only at H6 n6 ⊢
  have hfit : Hid (Wr.fits ⟨(d1 : Int), (d2 : Int), (d3 : Int), ⟨ty.toArray⟩, ka, na, ⟨la.toArray⟩, kb, nb, ⟨lb.toArray⟩⟩) := by
    refine ⟨?_, ?_, ?_, n5.1, n6.1⟩
    · show ty.toArray.size ≤ maxLen
      unfold maxLen
      simp
      omega
    · show la.toArray.size ≤ maxLen
      unfold maxLen
      simp
      omega
    · show lb.toArray.size ≤ maxLen
      unfold maxLen
      simp
      omega
  clear n4 n5 n6
  go_enter Tryz.func33, Tryz.ntmps33
  go_wp2_with fail
  have hB := ba (b0 w (.cells #[.int .i64 0, .int .i64 0, .int .i64 0, .string ⟨#[]⟩, .int .i64 0, .int .i64 0, .string ⟨#[]⟩, .int .i64 0, .int .i64 0, .string ⟨#[]⟩] 47)) (.cells #[.int .i64 0, .int .i64 0, .int .i64 0, .string ⟨#[]⟩, .int .i64 0, .int .i64 0, .string ⟨#[]⟩, .int .i64 0, .int .i64 0, .string ⟨#[]⟩] 47)
  have hK := (blk_new w #[.int .i64 0, .int .i64 0, .int .i64 0, .string ⟨#[]⟩, .int .i64 0, .int .i64 0, .string ⟨#[]⟩, .int .i64 0, .int .i64 0, .string ⟨#[]⟩] 47).alloc (.cells #[.int .i64 0, .int .i64 0, .int .i64 0, .string ⟨#[]⟩, .int .i64 0, .int .i64 0, .string ⟨#[]⟩, .int .i64 0, .int .i64 0, .string ⟨#[]⟩] 47)
  have hV := blk_at (w := w.alloc (.cells #[.int .i64 0, .int .i64 0, .int .i64 0, .string ⟨#[]⟩, .int .i64 0, .int .i64 0, .string ⟨#[]⟩, .int .i64 0, .int .i64 0, .string ⟨#[]⟩] 47)) (b := w.heap.size + 1) (by simp) #[.int .i64 0, .int .i64 0, .int .i64 0, .string ⟨#[]⟩, .int .i64 0, .int .i64 0, .string ⟨#[]⟩, .int .i64 0, .int .i64 0, .string ⟨#[]⟩] 47
  replace hR := hR.below hB
  have hG := grown_below hB (some g)
  clear hL
  generalize (w.alloc (.cells #[.int .i64 0, .int .i64 0, .int .i64 0, .string ⟨#[]⟩, .int .i64 0, .int .i64 0, .string ⟨#[]⟩, .int .i64 0, .int .i64 0, .string ⟨#[]⟩] 47)).alloc (.cells #[.int .i64 0, .int .i64 0, .int .i64 0, .string ⟨#[]⟩, .int .i64 0, .int .i64 0, .string ⟨#[]⟩, .int .i64 0, .int .i64 0, .string ⟨#[]⟩] 47) = W at hK hV hR hG ⊢
  clear hB
  have hrb0 : w.heap.size ≤ w.heap.size := Nat.le_refl _
  have hvb0 : w.heap.size ≤ w.heap.size + 1 := by omega
  have hne1 : w.heap.size + 1 ≠ g := by omega
  have hne2 : w.heap.size + 1 ≠ w.heap.size := by omega
  have hne3 : w.heap.size ≠ g := by omega
  generalize hvq : w.heap.size + 1 = vb at hV hne1 hne2 hvb0 ⊢
  generalize hrq : w.heap.size = rb at hK hne2 hne3 ⊢
  refine (H1.out _ (HL.out _ hG) hR).mono ?_
  rintro e w1 ⟨rfl, hR2, hg⟩
  replace hV := blk_grown hV hg (by intro e; injection e; omega)
  replace hK := blk_grown hK hg (by intro e; injection e; omega)
  replace hG := hG.trans hg
  clear hR hg
  obtain ⟨c0, c1, c2, c3, c4, c5, c6, c7, c8, c9, cl⟩ := blk_c10 hV
  obtain ⟨f0, f1, f2, f3, f4, f5, f6, f7, f8, f9⟩ := blk_f10 hV
  go_wp2_with fail
  have hV2 : Blk (w1.setCell ⟨vb, 0, none⟩ (.int .i64 (d1 : Int))) vb #[.int .i64 (d1 : Int), .int .i64 0, .int .i64 0, .string ⟨#[]⟩, .int .i64 0, .int .i64 0, .string ⟨#[]⟩, .int .i64 0, .int .i64 0, .string ⟨#[]⟩] 47 := (hV).set 0 (.int .i64 (d1 : Int))
  have hK2 : Blk (w1.setCell ⟨vb, 0, none⟩ (.int .i64 (d1 : Int))) rb #[.int .i64 0, .int .i64 0, .int .i64 0, .string ⟨#[]⟩, .int .i64 0, .int .i64 0, .string ⟨#[]⟩, .int .i64 0, .int .i64 0, .string ⟨#[]⟩] 47 := (blk_grown hK set_grown (by intro e; injection e; omega))
  have hR3 : RdrP S (w1.setCell ⟨vb, 0, none⟩ (.int .i64 (d1 : Int))) g st1 := (RdrP.set1 hR2 hne1)
  have hG2 : w.grownBy (w1.setCell ⟨vb, 0, none⟩ (.int .i64 (d1 : Int))) (some g) := (grown_set hG hvb0)
  clear c0 c1 c2 c3 c4 c5 c6 c7 c8 c9 cl f0 f1 f2 f3 f4 f5 f6 f7 f8 f9 hV hK hR2 hG
  generalize (w1.setCell ⟨vb, 0, none⟩ (.int .i64 (d1 : Int))) = X1 at hV2 hK2 hR3 hG2 ⊢
  have hV := hV2
  have hK := hK2
  have hR := hR3
  have hG := hG2
  clear hV2 hK2 hR3 hG2
  refine (H2.out _ (HL.out _ hG) hR).mono ?_
  rintro e w2 ⟨rfl, hR2, hg⟩
  replace hV := blk_grown hV hg (by intro e; injection e; omega)
  replace hK := blk_grown hK hg (by intro e; injection e; omega)
  replace hG := hG.trans hg
  clear hR hg
  obtain ⟨c0, c1, c2, c3, c4, c5, c6, c7, c8, c9, cl⟩ := blk_c10 hV
  obtain ⟨f0, f1, f2, f3, f4, f5, f6, f7, f8, f9⟩ := blk_f10 hV
  go_wp2_with fail
  have hV2 : Blk (w2.setCell ⟨vb, 1, none⟩ (.int .i64 (d2 : Int))) vb #[.int .i64 (d1 : Int), .int .i64 (d2 : Int), .int .i64 0, .string ⟨#[]⟩, .int .i64 0, .int .i64 0, .string ⟨#[]⟩, .int .i64 0, .int .i64 0, .string ⟨#[]⟩] 47 := (hV).set 1 (.int .i64 (d2 : Int))
  have hK2 : Blk (w2.setCell ⟨vb, 1, none⟩ (.int .i64 (d2 : Int))) rb #[.int .i64 0, .int .i64 0, .int .i64 0, .string ⟨#[]⟩, .int .i64 0, .int .i64 0, .string ⟨#[]⟩, .int .i64 0, .int .i64 0, .string ⟨#[]⟩] 47 := (blk_grown hK set_grown (by intro e; injection e; omega))
  have hR3 : RdrP S (w2.setCell ⟨vb, 1, none⟩ (.int .i64 (d2 : Int))) g st2 := (RdrP.set1 hR2 hne1)
  have hG2 : w.grownBy (w2.setCell ⟨vb, 1, none⟩ (.int .i64 (d2 : Int))) (some g) := (grown_set hG hvb0)
  clear c0 c1 c2 c3 c4 c5 c6 c7 c8 c9 cl f0 f1 f2 f3 f4 f5 f6 f7 f8 f9 hV hK hR2 hG
  generalize (w2.setCell ⟨vb, 1, none⟩ (.int .i64 (d2 : Int))) = X2 at hV2 hK2 hR3 hG2 ⊢
  have hV := hV2
  have hK := hK2
  have hR := hR3
  have hG := hG2
  clear hV2 hK2 hR3 hG2
  refine (H3.out _ (HL.out _ hG) hR).mono ?_
  rintro e w3 ⟨rfl, hR2, hg⟩
  replace hV := blk_grown hV hg (by intro e; injection e; omega)
  replace hK := blk_grown hK hg (by intro e; injection e; omega)
  replace hG := hG.trans hg
  clear hR hg
  obtain ⟨c0, c1, c2, c3, c4, c5, c6, c7, c8, c9, cl⟩ := blk_c10 hV
  obtain ⟨f0, f1, f2, f3, f4, f5, f6, f7, f8, f9⟩ := blk_f10 hV
  go_wp2_with fail
  have hV2 : Blk (w3.setCell ⟨vb, 2, none⟩ (.int .i64 (d3 : Int))) vb #[.int .i64 (d1 : Int), .int .i64 (d2 : Int), .int .i64 (d3 : Int), .string ⟨#[]⟩, .int .i64 0, .int .i64 0, .string ⟨#[]⟩, .int .i64 0, .int .i64 0, .string ⟨#[]⟩] 47 := (hV).set 2 (.int .i64 (d3 : Int))
  have hK2 : Blk (w3.setCell ⟨vb, 2, none⟩ (.int .i64 (d3 : Int))) rb #[.int .i64 0, .int .i64 0, .int .i64 0, .string ⟨#[]⟩, .int .i64 0, .int .i64 0, .string ⟨#[]⟩, .int .i64 0, .int .i64 0, .string ⟨#[]⟩] 47 := (blk_grown hK set_grown (by intro e; injection e; omega))
  have hR3 : RdrP S (w3.setCell ⟨vb, 2, none⟩ (.int .i64 (d3 : Int))) g st3 := (RdrP.set1 hR2 hne1)
  have hG2 : w.grownBy (w3.setCell ⟨vb, 2, none⟩ (.int .i64 (d3 : Int))) (some g) := (grown_set hG hvb0)
  clear c0 c1 c2 c3 c4 c5 c6 c7 c8 c9 cl f0 f1 f2 f3 f4 f5 f6 f7 f8 f9 hV hK hR2 hG
  generalize (w3.setCell ⟨vb, 2, none⟩ (.int .i64 (d3 : Int))) = X3 at hV2 hK2 hR3 hG2 ⊢
  have hV := hV2
  have hK := hK2
  have hR := hR3
  have hG := hG2
  clear hV2 hK2 hR3 hG2
  refine (H4.out _ (HL.out _ hG) hR).mono ?_
  rintro e w4 ⟨⟨s4, rfl, hs⟩, hR2, hg⟩
  obtain rfl := ba_of hs
  clear hs
  replace hV := blk_grown hV hg (by intro e; injection e; omega)
  replace hK := blk_grown hK hg (by intro e; injection e; omega)
  replace hG := hG.trans hg
  clear hR hg
  obtain ⟨c0, c1, c2, c3, c4, c5, c6, c7, c8, c9, cl⟩ := blk_c10 hV
  obtain ⟨f0, f1, f2, f3, f4, f5, f6, f7, f8, f9⟩ := blk_f10 hV
  go_wp2_with fail
  have hV2 : Blk (w4.setCell ⟨vb, 3, none⟩ (.string ⟨ty.toArray⟩)) vb #[.int .i64 (d1 : Int), .int .i64 (d2 : Int), .int .i64 (d3 : Int), .string ⟨ty.toArray⟩, .int .i64 0, .int .i64 0, .string ⟨#[]⟩, .int .i64 0, .int .i64 0, .string ⟨#[]⟩] 47 := (hV).set 3 (.string ⟨ty.toArray⟩)
  have hK2 : Blk (w4.setCell ⟨vb, 3, none⟩ (.string ⟨ty.toArray⟩)) rb #[.int .i64 0, .int .i64 0, .int .i64 0, .string ⟨#[]⟩, .int .i64 0, .int .i64 0, .string ⟨#[]⟩, .int .i64 0, .int .i64 0, .string ⟨#[]⟩] 47 := (blk_grown hK set_grown (by intro e; injection e; omega))
  have hR3 : RdrP S (w4.setCell ⟨vb, 3, none⟩ (.string ⟨ty.toArray⟩)) g st4 := (RdrP.set1 hR2 hne1)
  have hG2 : w.grownBy (w4.setCell ⟨vb, 3, none⟩ (.string ⟨ty.toArray⟩)) (some g) := (grown_set hG hvb0)
  clear c0 c1 c2 c3 c4 c5 c6 c7 c8 c9 cl f0 f1 f2 f3 f4 f5 f6 f7 f8 f9 hV hK hR2 hG
  generalize (w4.setCell ⟨vb, 3, none⟩ (.string ⟨ty.toArray⟩)) = X4 at hV2 hK2 hR3 hG2 ⊢
  have hV := hV2
  have hK := hK2
  have hR := hR3
  have hG := hG2
  clear hV2 hK2 hR3 hG2
  refine (H5.out _ (HL.out _ hG) hR).mono ?_
  rintro e w5 ⟨⟨s5, rfl, hs⟩, hR2, hg⟩
  obtain rfl := ba_of hs
  clear hs
  replace hV := blk_grown hV hg (by intro e; injection e; omega)
  replace hK := blk_grown hK hg (by intro e; injection e; omega)
  replace hG := hG.trans hg
  clear hR hg
  obtain ⟨c0, c1, c2, c3, c4, c5, c6, c7, c8, c9, cl⟩ := blk_c10 hV
  obtain ⟨f0, f1, f2, f3, f4, f5, f6, f7, f8, f9⟩ := blk_f10 hV
  go_wp2_with fail
  have hV2 : Blk (((w5.setCell ⟨vb, 4, none⟩ (.int .i64 ka)).setCell ⟨vb, 5, none⟩ (.int .i64 na)).setCell ⟨vb, 6, none⟩ (.string ⟨la.toArray⟩)) vb #[.int .i64 (d1 : Int), .int .i64 (d2 : Int), .int .i64 (d3 : Int), .string ⟨ty.toArray⟩, .int .i64 ka, .int .i64 na, .string ⟨la.toArray⟩, .int .i64 0, .int .i64 0, .string ⟨#[]⟩] 47 := (((hV).set 4 (.int .i64 ka)).set 5 (.int .i64 na)).set 6 (.string ⟨la.toArray⟩)
  have hK2 : Blk (((w5.setCell ⟨vb, 4, none⟩ (.int .i64 ka)).setCell ⟨vb, 5, none⟩ (.int .i64 na)).setCell ⟨vb, 6, none⟩ (.string ⟨la.toArray⟩)) rb #[.int .i64 0, .int .i64 0, .int .i64 0, .string ⟨#[]⟩, .int .i64 0, .int .i64 0, .string ⟨#[]⟩, .int .i64 0, .int .i64 0, .string ⟨#[]⟩] 47 := (blk_grown (blk_grown (blk_grown hK set_grown (by intro e; injection e; omega)) set_grown (by intro e; injection e; omega)) set_grown (by intro e; injection e; omega))
  have hR3 : RdrP S (((w5.setCell ⟨vb, 4, none⟩ (.int .i64 ka)).setCell ⟨vb, 5, none⟩ (.int .i64 na)).setCell ⟨vb, 6, none⟩ (.string ⟨la.toArray⟩)) g st5 := (RdrP.set1 (RdrP.set1 (RdrP.set1 hR2 hne1) hne1) hne1)
  have hG2 : w.grownBy (((w5.setCell ⟨vb, 4, none⟩ (.int .i64 ka)).setCell ⟨vb, 5, none⟩ (.int .i64 na)).setCell ⟨vb, 6, none⟩ (.string ⟨la.toArray⟩)) (some g) := (grown_set (grown_set (grown_set hG hvb0) hvb0) hvb0)
  clear c0 c1 c2 c3 c4 c5 c6 c7 c8 c9 cl f0 f1 f2 f3 f4 f5 f6 f7 f8 f9 hV hK hR2 hG
  generalize (((w5.setCell ⟨vb, 4, none⟩ (.int .i64 ka)).setCell ⟨vb, 5, none⟩ (.int .i64 na)).setCell ⟨vb, 6, none⟩ (.string ⟨la.toArray⟩)) = X5 at hV2 hK2 hR3 hG2 ⊢
  have hV := hV2
  have hK := hK2
  have hR := hR3
  have hG := hG2
  clear hV2 hK2 hR3 hG2
  refine (H6.out _ (HL.out _ hG) hR).mono ?_
  rintro e w6 ⟨⟨s6, rfl, hs⟩, hR2, hg⟩
  obtain rfl := ba_of hs
  clear hs
  replace hV := blk_grown hV hg (by intro e; injection e; omega)
  replace hK := blk_grown hK hg (by intro e; injection e; omega)
  replace hG := hG.trans hg
  clear hR hg
  obtain ⟨c0, c1, c2, c3, c4, c5, c6, c7, c8, c9, cl⟩ := blk_c10 hV
  obtain ⟨f0, f1, f2, f3, f4, f5, f6, f7, f8, f9⟩ := blk_f10 hV
  go_wp2_with fail
  have hV2 : Blk (((w6.setCell ⟨vb, 7, none⟩ (.int .i64 kb)).setCell ⟨vb, 8, none⟩ (.int .i64 nb)).setCell ⟨vb, 9, none⟩ (.string ⟨lb.toArray⟩)) vb #[.int .i64 (d1 : Int), .int .i64 (d2 : Int), .int .i64 (d3 : Int), .string ⟨ty.toArray⟩, .int .i64 ka, .int .i64 na, .string ⟨la.toArray⟩, .int .i64 kb, .int .i64 nb, .string ⟨lb.toArray⟩] 47 := (((hV).set 7 (.int .i64 kb)).set 8 (.int .i64 nb)).set 9 (.string ⟨lb.toArray⟩)
  have hK2 : Blk (((w6.setCell ⟨vb, 7, none⟩ (.int .i64 kb)).setCell ⟨vb, 8, none⟩ (.int .i64 nb)).setCell ⟨vb, 9, none⟩ (.string ⟨lb.toArray⟩)) rb #[.int .i64 0, .int .i64 0, .int .i64 0, .string ⟨#[]⟩, .int .i64 0, .int .i64 0, .string ⟨#[]⟩, .int .i64 0, .int .i64 0, .string ⟨#[]⟩] 47 := (blk_grown (blk_grown (blk_grown hK set_grown (by intro e; injection e; omega)) set_grown (by intro e; injection e; omega)) set_grown (by intro e; injection e; omega))
  have hR3 : RdrP S (((w6.setCell ⟨vb, 7, none⟩ (.int .i64 kb)).setCell ⟨vb, 8, none⟩ (.int .i64 nb)).setCell ⟨vb, 9, none⟩ (.string ⟨lb.toArray⟩)) g st6 := (RdrP.set1 (RdrP.set1 (RdrP.set1 hR2 hne1) hne1) hne1)
  have hG2 : w.grownBy (((w6.setCell ⟨vb, 7, none⟩ (.int .i64 kb)).setCell ⟨vb, 8, none⟩ (.int .i64 nb)).setCell ⟨vb, 9, none⟩ (.string ⟨lb.toArray⟩)) (some g) := (grown_set (grown_set (grown_set hG hvb0) hvb0) hvb0)
  clear c0 c1 c2 c3 c4 c5 c6 c7 c8 c9 cl f0 f1 f2 f3 f4 f5 f6 f7 f8 f9 hV hK hR2 hG
  generalize (((w6.setCell ⟨vb, 7, none⟩ (.int .i64 kb)).setCell ⟨vb, 8, none⟩ (.int .i64 nb)).setCell ⟨vb, 9, none⟩ (.string ⟨lb.toArray⟩)) = X6 at hV2 hK2 hR3 hG2 ⊢
  have hV := hV2
  have hK := hK2
  have hR := hR3
  have hG := hG2
  clear hV2 hK2 hR3 hG2
  refine (stampGood_any ⟨(d1 : Int), (d2 : Int), (d3 : Int), ⟨ty.toArray⟩, ka, na, ⟨la.toArray⟩, kb, nb, ⟨lb.toArray⟩⟩ _ hfit.out).mono ?_
  rintro e w7 ⟨rfl, hb7⟩
  replace hV := hV.keep hb7
  replace hK := hK.keep hb7
  replace hR := hR.below hb7
  replace hG := hG.trans (grown_below hb7 (some g))
  clear hb7
  obtain ⟨c0, c1, c2, c3, c4, c5, c6, c7, c8, c9, cl⟩ := blk_c10 hV
  go_wp2_with fail
  refine (must_any S g _ _ _ w7 hR).mono ?_
  rintro e w8 ⟨rfl, hR2, hg⟩
  replace hV := blk_grown hV hg (by intro e; injection e; omega)
  replace hK := blk_grown hK hg (by intro e; injection e; omega)
  replace hG := hG.trans hg
  clear hR hg c0 c1 c2 c3 c4 c5 c6 c7 c8 c9 cl
  obtain ⟨c0, c1, c2, c3, c4, c5, c6, c7, c8, c9, cl⟩ := blk_c10 hV
  go_wp2_with fail
  refine (soundW_any S g _ ⟨(d1 : Int), (d2 : Int), (d3 : Int), ⟨ty.toArray⟩, ka, na, ⟨la.toArray⟩, kb, nb, ⟨lb.toArray⟩⟩ w8 hR2).mono ?_
  rintro e w9 ⟨rfl, hb9⟩
  replace hK := hK.keep hb9
  replace hR2 := hR2.below hb9
  replace hG := hG.trans (grown_below hb9 (some g))
  clear hV hb9 c0 c1 c2 c3 c4 c5 c6 c7 c8 c9 cl
  obtain ⟨c0, c1, c2, c3, c4, c5, c6, c7, c8, c9, cl⟩ := blk_c10 hK
  obtain ⟨f0, f1, f2, f3, f4, f5, f6, f7, f8, f9⟩ := blk_f10 hK
  go_wp2_with fail
  have h9 := fun v0 v1 v2 v3 v4 v5 v6 v7 v8 v9 => RdrP.set10 hR2 hne3 v0 v1 v2 v3 v4 v5 v6 v7 v8 v9
  have hg9 := fun v0 v1 v2 v3 v4 v5 v6 v7 v8 v9 => grown10 (b := rb) hG (Nat.le_of_eq hrq) v0 v1 v2 v3 v4 v5 v6 v7 v8 v9
  exact bodyPost_ret (v := .agg (soundM wrNo (mustM (Wr.good ⟨(d1 : Int), (d2 : Int), (d3 : Int), ⟨ty.toArray⟩, ka, na, ⟨la.toArray⟩, kb, nb, ⟨lb.toArray⟩⟩) st6) ⟨(d1 : Int), (d2 : Int), (d3 : Int), ⟨ty.toArray⟩, ka, na, ⟨la.toArray⟩, kb, nb, ⟨lb.toArray⟩⟩).cells) (by simp [results, Tryz.results33, go_sem, c0, c1, c2, c3, c4, c5, c6, c7, c8, c9]) rfl ⟨rfl, h9 _ _ _ _ _ _ _ _ _ _, hg9 _ _ _ _ _ _ _ _ _ _⟩
end Go.Proofs.YtpjleeeligahaaaGreatDoor

namespace Go.Proofs.YtpjleeeligahaaaGreatDoor
open Go.RowKit

abbrev preC (x : List UInt8) : Array Value := #[.string ⟨x.toArray⟩]
abbrev preV (x : List UInt8) : Value := .string ⟨x.toArray⟩
abbrev preF (b : List UInt8) : List UInt8 × Nat := takeTextB b 20
abbrev preStep (st : Rest) : List UInt8 × Rest := textOf st 20
theorem pre_one (x : List UInt8) : ∀ u ∈ (preC x).toList, u.oneCell' = true := by
  intro u hu
  simp only [List.mem_cons, List.not_mem_nil, or_false] at hu
  rcases hu with rfl
  rfl
theorem cl_one (x : Cl) : ∀ u ∈ x.cells.toList, u.oneCell' = true := by
  intro u hu
  simp only [List.mem_cons, List.not_mem_nil, or_false] at hu
  rcases hu with rfl | rfl | rfl | rfl <;> rfl
theorem ln_one (x : Ln) : ∀ u ∈ x.cells.toList, u.oneCell' = true := by
  intro u hu
  simp only [List.mem_cons, List.not_mem_nil, or_false] at hu
  rcases hu with rfl | rfl | rfl | rfl | rfl | rfl | rfl | rfl | rfl | rfl | rfl <;> rfl
theorem cl_info : (Tryz.prog.info? 61).map (fun i => (i.zero, i.size, i.bytes)) = some (some (.agg (clI ⟨#[]⟩ 0 0 ⟨#[]⟩)), 4, 48) := by kernel_rfl
theorem ln_info : (Tryz.prog.info? 49).map (fun i => (i.zero, i.size, i.bytes)) = some (some (.agg (lnI 0 0 0 0 ⟨#[]⟩ 0 0 ⟨#[]⟩ 0 0 ⟨#[]⟩)), 11, 112) := by kernel_rfl
/-- A step leaves less. -/
def LessG {α : Type} (s : Rest → α × Rest) : Prop := ∀ b b', (s (some b)).2 = some b' → b'.length < b.length
theorem less_of {α : Type} {f : List UInt8 → α × Nat} {s : Rest → α × Rest} (h : StepG f s) (hf : ∀ b, (f b).2 ≤ b.length) : LessG s := by
  intro b b' hb
  by_cases h0 : (f b).2 = 0
  · rw [(h b).1 h0] at hb
    cases hb
  · rw [(h b).2 h0] at hb
    injection hb with hb
    have h1 := hf b
    rw [← hb, List.length_drop]
    omega
/-- How many there may be yet. -/
def roomG (k : Nat) : Rest → Prop
  | some b => k + b.length ≤ 1000000
  | none => k ≤ 1000001
theorem room_next {α : Type} {s : Rest → α × Rest} (h : LessG s) {k : Nat} {b : List UInt8} (hr : roomG k (some b)) {x : α} {st : Rest} (hs : s (some b) = (x, st)) : roomG (k + 1) st := by
  have hr' : k + b.length ≤ 1000000 := hr
  cases st with
  | none => show k + 1 ≤ 1000001; omega
  | some b' =>
    have := h b b' (by rw [hs])
    show k + 1 + b'.length ≤ 1000000
    omega
theorem room_le {k : Nat} {st : Rest} (h : roomG k st) : k ≤ 1000001 := by
  cases st with
  | none => exact h
  | some b =>
    have h' : k + b.length ≤ 1000000 := h
    omega
theorem numOf_short (st : Rest) (most : Nat) (b : List UInt8) (h : (numOf st most).2 = some b) : ∃ b0, st = some b0 ∧ b.length ≤ b0.length := by
  cases st with
  | none => cases h
  | some b0 =>
    refine ⟨b0, rfl, ?_⟩
    unfold numOf at h
    dsimp only at h
    split at h
    · cases h
    · injection h with h
      rw [← h, List.length_drop]
      omega
set_option maxRecDepth 100000 in
theorem failed_any (S : Addr) (g : Nat) (st : Rest) (w : World) (hR : RdrP S w g st) :
    Calls Tryz.prog 65 #[.pointer (some ⟨g, 0, none⟩)] w fun e w' => e = .returned (.bool st.isNone) ∧ w' = w := by
  cases st with
  | none =>
    obtain ⟨e1, he1, hb⟩ := hR
    obtain ⟨t1, v1, rfl⟩ := errP_nil he1
    have c1 := hb.cell 1
    go_enter Tryz.func65, Tryz.ntmps65
    go_wp2_with fail
    go_ret
    exact ⟨rfl, rfl⟩
  | some b =>
    obtain ⟨hl, s, hs, hb⟩ := hR
    have c1 := hb.cell 1
    go_enter Tryz.func65, Tryz.ntmps65
    go_wp2_with fail
    go_ret
    exact ⟨rfl, rfl⟩
theorem grown_then' {w a b : World} {row : Option Nat} (h : w.grownBy a row) (k : Below w.heap.size a b) : w.grownBy b row :=
  ⟨k.os.trans h.os, k.tape.trans h.tape, k.output.trans h.output, Nat.le_trans h.size k.size, fun i hi hr => (k.block i hi).trans (h.block i hi hr)⟩
theorem RdrP.belowX {S : Addr} {B : Nat} {W W' : World} {g : Nat} {st : Rest} (h : RdrP S W g st) (hb : Below B W W') (hg : g < B) : RdrP S W' g st := by
  cases st with
  | none => obtain ⟨e, he, hk⟩ := h; exact ⟨e, he, (hb.block g hg).trans hk⟩
  | some b => obtain ⟨hl, s, hs, hk⟩ := h; exact ⟨hl, s, hs, (hb.block g hg).trans hk⟩
/-- A function value that takes one thing from the reader at g. -/
def TakesF {α : Type} (S : Addr) (g gf : Nat) (lb : Array Value) (arg : α → Value) (s : Rest → α × Rest) (w : World) : Prop :=
  ∀ W st, w.grownBy W (some g) → RdrP S W g st → Calls Tryz.prog gf lb W fun e W' => e = .returned (arg (s st).1) ∧ RdrP S W' g (s st).2 ∧ W.grownBy W' (some g)

set_option maxRecDepth 100000 in
set_option maxHeartbeats 4000000 in
theorem takeListR_any (S : Addr) (g gf : Nat) (lb : Array Value) (s : Rest → List UInt8 × Rest) (st : Rest) (most : Nat) (w : World) (eg : ∀ args w, (callFunc gf args).run Tryz.prog w = .ok (.enter gf args) w) (hL : LaidS S w) (hR : RdrP S w g st) (hm : most < 18446744073709551616) (hs : LessG s) (hf : TakesF S g gf lb preV s w) :
    Calls Tryz.prog 145 #[.pointer (some ⟨g, 0, none⟩), .int .u64 most, .func (.func gf) #[] lb] w fun e w' => (∃ (A : Option Addr) (n c : Nat), e = .returned (.slice A n c) ∧ OwnX 9 1 w.heap.size w' A n c ((repG s (numOf st most).1 (numOf st most).2).1.map preC)) ∧ RdrP S w' g (repG s (numOf st most).1 (numOf st most).2).2 ∧ w.grownBy w' (some g) := by
  obtain ⟨i0, hi0, hz0, hz1, hz2⟩ := info_parts str_info
  have hlt := hR.lt
  have HF := Lib.hid hf
  have HS := Lib.hid hs
  have hC := rNumber_any S g st most w hL hR hm
  have hn := (numOf_lt st most).1
  have hroom : roomG 0 (numOf st most).2 := by
    cases hq : (numOf st most).2 with
    | none => exact Nat.zero_le _
    | some b =>
      obtain ⟨b0, e0, hb0⟩ := numOf_short st most b hq
      subst e0
      have h1 : b0.length ≤ 1000000 := hR.1
      show 0 + b.length ≤ 1000000
      omega
  generalize numOf st most = p at hC hn hroom ⊢
  obtain ⟨n, st1⟩ := p
  dsimp only at hC hn hroom ⊢
  clear hL hR hf hs
  go_enter Tryz.func145, Tryz.ntmps145
  go_wp2_with fail
  refine hC.mono ?_
  rintro e w1 ⟨rfl, hR1, hg1⟩
  go_wp2_with fail
  go_loopw [7, 8] (fun t u wr => ∃ (r : Nat) (acc : List (List UInt8)) (A : Option Addr) (k c : Nat) (sj : Rest), t = .slice A k c ∧ u = .int .u64 r ∧ r < 18446744073709551616 ∧ roomG k sj ∧ RdrP S wr g sj ∧ OwnX 9 1 w.heap.size wr A k c (acc.map preC) ∧ w.grownBy wr (some g) ∧ Hid (repG s n st1 = (acc ++ (repG s r sj).1, (repG s r sj).2))) (fun _ u _ => (intOf u).toNat)
  case atStart => exact ⟨n, [], none, 0, 0, st1, rfl, rfl, by omega, hroom, hR1, OwnX.nil _ _ _ _, hg1, rfl⟩
  case round =>
    clear hR1 hg1 hroom
    obtain ⟨r, acc, A, k, c, sj, rfl, rfl, hr, hk, hR, hO, hG, hE⟩ := hrel
    have hk1 := room_le hk
    by_cases h0 : r = 0
    · subst h0
      have hfin : Hid (repG s n st1 = (acc, sj)) := by
        show _ = _
        rw [hE.out]
        show (acc ++ [], sj) = _
        rw [List.append_nil]
      clear hE
      go_wp2_with fail
      go_ret
      rw [hfin.out]
      exact ⟨⟨A, k, c, rfl, hO⟩, hR, hG⟩
    · obtain ⟨r', rfl⟩ : ∃ r', r = r' + 1 := ⟨r - 1, by omega⟩
      have i1 : (0 : Int) < ((r' + 1 : Nat) : Int) := by omega
      have i2 : decide (0 < r' + 1) = true := decide_eq_true (by omega)
      cases sj with
      | none =>
        have hfin : Hid (repG s n st1 = (acc, none)) := by
          show _ = _
          rw [hE.out, repG_none, List.append_nil]
        have HR := Lib.hid hR
        clear hE
        go_wp2_with (go_at_call 65; refine (failed_any S g none _ HR.out).mono ?_; rintro e w2 ⟨rfl, rfl⟩)
        go_ret
        rw [hfin.out]
        exact ⟨⟨A, k, c, rfl, hO⟩, hR, hG⟩
      | some b =>
        have HR := Lib.hid hR
        have hW := HF.out wr (some b) hG hR
        have hstep : ∃ x s', s (some b) = (x, s') ∧ Hid (repG s n st1 = ((acc ++ [x]) ++ (repG s r' s').1, (repG s r' s').2)) ∧ roomG (k + 1) s' := by
          refine ⟨(s (some b)).1, (s (some b)).2, rfl, ?_, room_next HS.out hk rfl⟩
          show _ = _
          rw [hE.out, repG_more, List.append_assoc]
          rfl
        obtain ⟨x, s', hx, hE2, hk2⟩ := hstep
        rw [hx] at hW
        dsimp only at hW
        have HW := Lib.hid hW
        have j1 : ((r' + 1 : Nat) : Int) - 1 = (r' : Int) := by omega
        have j2 : IntKind.u64.wrap (r' : Int) = (r' : Int) := by simp only [IntKind.wrap_u64]; omega
        have j3 : IntKind.u64.wrap (((r' + 1 : Nat) : Int) - 1) = (r' : Int) := by rw [j1]; exact j2
        clear hE hx hW hk
        go_wp2_with first
          | (go_at_call 65; refine (failed_any S g (some b) _ HR.out).mono ?_; rintro e w2 ⟨rfl, rfl⟩)
          | (go_at_fn gf; refine HW.out.mono ?_; rintro e w3 ⟨rfl, hR2, hg2⟩; have hO2 := (hO.keepG hg2 hlt).keep (b0 w3 (.cells (preC x) 9)); have hR3 := hR2.below (b0 w3 (.cells (preC x) 9)); have hG3 := (hG.trans hg2).trans (grown_below (b0 w3 (.cells (preC x) 9)) (some g)); have hx := newX w3 (preC x) 9; have hzz := hG3.size)
          | (at_builtin; refine wpList_apX (el := 9) (base := w.heap.size) (n := k) (l := acc.map preC) (xx := preC x) (by rfl) _ _ (by rfl) Tryz.underlying52 Tryz.underlying52 hi0 hz0 hz1 hz2 (by rfl) (by omega) (by omega) (by rfl) (by rfl) hO2 (by rfl) (pre_one x) hx (by omega) hzz ?_; intro A5 c5 w5 hO5 hb5)
        have hR5 := hR3.belowX hb5 hlt
        have hG5 := grown_then' hG3 hb5
        go_roundw
        case rel => exact ⟨r', acc ++ [x], A5, k + 1, c5, s', rfl, by first | rfl | (congr 1; go_num) | go_num, by omega, hk2, hR5, by rw [List.map_append]; exact hO5, hG5, hE2⟩
        case measure => simp [intOf]

set_option maxRecDepth 100000 in
set_option maxHeartbeats 4000000 in
theorem takeListC_any (S : Addr) (g gf : Nat) (lb : Array Value) (s : Rest → Cl × Rest) (st : Rest) (most : Nat) (w : World) (eg : ∀ args w, (callFunc gf args).run Tryz.prog w = .ok (.enter gf args) w) (hL : LaidS S w) (hR : RdrP S w g st) (hm : most < 18446744073709551616) (hs : LessG s) (hf : TakesF S g gf lb clV s w) :
    Calls Tryz.prog 149 #[.pointer (some ⟨g, 0, none⟩), .int .u64 most, .func (.func gf) #[] lb] w fun e w' => (∃ (A : Option Addr) (n c : Nat), e = .returned (.slice A n c) ∧ OwnX 61 4 w.heap.size w' A n c ((repG s (numOf st most).1 (numOf st most).2).1.map Cl.cells)) ∧ RdrP S w' g (repG s (numOf st most).1 (numOf st most).2).2 ∧ w.grownBy w' (some g) := by
  obtain ⟨i0, hi0, hz0, hz1, hz2⟩ := info_parts cl_info
  have hlt := hR.lt
  have HF := Lib.hid hf
  have HS := Lib.hid hs
  have hC := rNumber_any S g st most w hL hR hm
  have hn := (numOf_lt st most).1
  have hroom : roomG 0 (numOf st most).2 := by
    cases hq : (numOf st most).2 with
    | none => exact Nat.zero_le _
    | some b =>
      obtain ⟨b0, e0, hb0⟩ := numOf_short st most b hq
      subst e0
      have h1 : b0.length ≤ 1000000 := hR.1
      show 0 + b.length ≤ 1000000
      omega
  generalize numOf st most = p at hC hn hroom ⊢
  obtain ⟨n, st1⟩ := p
  dsimp only at hC hn hroom ⊢
  clear hL hR hf hs
  go_enter Tryz.func149, Tryz.ntmps149
  go_wp2_with fail
  refine hC.mono ?_
  rintro e w1 ⟨rfl, hR1, hg1⟩
  go_wp2_with fail
  go_loopw [7, 8] (fun t u wr => ∃ (r : Nat) (acc : List (Cl)) (A : Option Addr) (k c : Nat) (sj : Rest), t = .slice A k c ∧ u = .int .u64 r ∧ r < 18446744073709551616 ∧ roomG k sj ∧ RdrP S wr g sj ∧ OwnX 61 4 w.heap.size wr A k c (acc.map Cl.cells) ∧ w.grownBy wr (some g) ∧ Hid (repG s n st1 = (acc ++ (repG s r sj).1, (repG s r sj).2))) (fun _ u _ => (intOf u).toNat)
  case atStart => exact ⟨n, [], none, 0, 0, st1, rfl, rfl, by omega, hroom, hR1, OwnX.nil _ _ _ _, hg1, rfl⟩
  case round =>
    clear hR1 hg1 hroom
    obtain ⟨r, acc, A, k, c, sj, rfl, rfl, hr, hk, hR, hO, hG, hE⟩ := hrel
    have hk1 := room_le hk
    by_cases h0 : r = 0
    · subst h0
      have hfin : Hid (repG s n st1 = (acc, sj)) := by
        show _ = _
        rw [hE.out]
        show (acc ++ [], sj) = _
        rw [List.append_nil]
      clear hE
      go_wp2_with fail
      go_ret
      rw [hfin.out]
      exact ⟨⟨A, k, c, rfl, hO⟩, hR, hG⟩
    · obtain ⟨r', rfl⟩ : ∃ r', r = r' + 1 := ⟨r - 1, by omega⟩
      have i1 : (0 : Int) < ((r' + 1 : Nat) : Int) := by omega
      have i2 : decide (0 < r' + 1) = true := decide_eq_true (by omega)
      cases sj with
      | none =>
        have hfin : Hid (repG s n st1 = (acc, none)) := by
          show _ = _
          rw [hE.out, repG_none, List.append_nil]
        have HR := Lib.hid hR
        clear hE
        go_wp2_with (go_at_call 65; refine (failed_any S g none _ HR.out).mono ?_; rintro e w2 ⟨rfl, rfl⟩)
        go_ret
        rw [hfin.out]
        exact ⟨⟨A, k, c, rfl, hO⟩, hR, hG⟩
      | some b =>
        have HR := Lib.hid hR
        have hW := HF.out wr (some b) hG hR
        have hstep : ∃ x s', s (some b) = (x, s') ∧ Hid (repG s n st1 = ((acc ++ [x]) ++ (repG s r' s').1, (repG s r' s').2)) ∧ roomG (k + 1) s' := by
          refine ⟨(s (some b)).1, (s (some b)).2, rfl, ?_, room_next HS.out hk rfl⟩
          show _ = _
          rw [hE.out, repG_more, List.append_assoc]
          rfl
        obtain ⟨x, s', hx, hE2, hk2⟩ := hstep
        rw [hx] at hW
        dsimp only at hW
        have HW := Lib.hid hW
        have j1 : ((r' + 1 : Nat) : Int) - 1 = (r' : Int) := by omega
        have j2 : IntKind.u64.wrap (r' : Int) = (r' : Int) := by simp only [IntKind.wrap_u64]; omega
        have j3 : IntKind.u64.wrap (((r' + 1 : Nat) : Int) - 1) = (r' : Int) := by rw [j1]; exact j2
        clear hE hx hW hk
        go_wp2_with first
          | (go_at_call 65; refine (failed_any S g (some b) _ HR.out).mono ?_; rintro e w2 ⟨rfl, rfl⟩)
          | (go_at_fn gf; refine HW.out.mono ?_; rintro e w3 ⟨rfl, hR2, hg2⟩; have hO2 := (hO.keepG hg2 hlt).keep (b0 w3 (.cells (Cl.cells x) 61)); have hR3 := hR2.below (b0 w3 (.cells (Cl.cells x) 61)); have hG3 := (hG.trans hg2).trans (grown_below (b0 w3 (.cells (Cl.cells x) 61)) (some g)); have hx := newX w3 (Cl.cells x) 61; have hzz := hG3.size)
          | (at_builtin; refine wpList_apX (el := 61) (base := w.heap.size) (n := k) (l := acc.map Cl.cells) (xx := Cl.cells x) (by rfl) _ _ (by rfl) Tryz.underlying54 Tryz.underlying54 hi0 hz0 hz1 hz2 (by rfl) (by omega) (by omega) (by rfl) (by rfl) hO2 (by rfl) (cl_one x) hx (by omega) hzz ?_; intro A5 c5 w5 hO5 hb5)
        have hR5 := hR3.belowX hb5 hlt
        have hG5 := grown_then' hG3 hb5
        go_roundw
        case rel => exact ⟨r', acc ++ [x], A5, k + 1, c5, s', rfl, by first | rfl | (congr 1; go_num) | go_num, by omega, hk2, hR5, by rw [List.map_append]; exact hO5, hG5, hE2⟩
        case measure => simp [intOf]

set_option maxRecDepth 100000 in
set_option maxHeartbeats 4000000 in
theorem takeListL_any (S : Addr) (g gf : Nat) (lb : Array Value) (s : Rest → Ln × Rest) (st : Rest) (most : Nat) (w : World) (eg : ∀ args w, (callFunc gf args).run Tryz.prog w = .ok (.enter gf args) w) (hL : LaidS S w) (hR : RdrP S w g st) (hm : most < 18446744073709551616) (hs : LessG s) (hf : TakesF S g gf lb lnV s w) :
    Calls Tryz.prog 30 #[.pointer (some ⟨g, 0, none⟩), .int .u64 most, .func (.func gf) #[] lb] w fun e w' => (∃ (A : Option Addr) (n c : Nat), e = .returned (.slice A n c) ∧ OwnX 49 11 w.heap.size w' A n c ((repG s (numOf st most).1 (numOf st most).2).1.map Ln.cells)) ∧ RdrP S w' g (repG s (numOf st most).1 (numOf st most).2).2 ∧ w.grownBy w' (some g) := by
  obtain ⟨i0, hi0, hz0, hz1, hz2⟩ := info_parts ln_info
  have hlt := hR.lt
  have HF := Lib.hid hf
  have HS := Lib.hid hs
  have hC := rNumber_any S g st most w hL hR hm
  have hn := (numOf_lt st most).1
  have hroom : roomG 0 (numOf st most).2 := by
    cases hq : (numOf st most).2 with
    | none => exact Nat.zero_le _
    | some b =>
      obtain ⟨b0, e0, hb0⟩ := numOf_short st most b hq
      subst e0
      have h1 : b0.length ≤ 1000000 := hR.1
      show 0 + b.length ≤ 1000000
      omega
  generalize numOf st most = p at hC hn hroom ⊢
  obtain ⟨n, st1⟩ := p
  dsimp only at hC hn hroom ⊢
  clear hL hR hf hs
  go_enter Tryz.func30, Tryz.ntmps30
  go_wp2_with fail
  refine hC.mono ?_
  rintro e w1 ⟨rfl, hR1, hg1⟩
  go_wp2_with fail
  go_loopw [7, 8] (fun t u wr => ∃ (r : Nat) (acc : List (Ln)) (A : Option Addr) (k c : Nat) (sj : Rest), t = .slice A k c ∧ u = .int .u64 r ∧ r < 18446744073709551616 ∧ roomG k sj ∧ RdrP S wr g sj ∧ OwnX 49 11 w.heap.size wr A k c (acc.map Ln.cells) ∧ w.grownBy wr (some g) ∧ Hid (repG s n st1 = (acc ++ (repG s r sj).1, (repG s r sj).2))) (fun _ u _ => (intOf u).toNat)
  case atStart => exact ⟨n, [], none, 0, 0, st1, rfl, rfl, by omega, hroom, hR1, OwnX.nil _ _ _ _, hg1, rfl⟩
  case round =>
    clear hR1 hg1 hroom
    obtain ⟨r, acc, A, k, c, sj, rfl, rfl, hr, hk, hR, hO, hG, hE⟩ := hrel
    have hk1 := room_le hk
    by_cases h0 : r = 0
    · subst h0
      have hfin : Hid (repG s n st1 = (acc, sj)) := by
        show _ = _
        rw [hE.out]
        show (acc ++ [], sj) = _
        rw [List.append_nil]
      clear hE
      go_wp2_with fail
      go_ret
      rw [hfin.out]
      exact ⟨⟨A, k, c, rfl, hO⟩, hR, hG⟩
    · obtain ⟨r', rfl⟩ : ∃ r', r = r' + 1 := ⟨r - 1, by omega⟩
      have i1 : (0 : Int) < ((r' + 1 : Nat) : Int) := by omega
      have i2 : decide (0 < r' + 1) = true := decide_eq_true (by omega)
      cases sj with
      | none =>
        have hfin : Hid (repG s n st1 = (acc, none)) := by
          show _ = _
          rw [hE.out, repG_none, List.append_nil]
        have HR := Lib.hid hR
        clear hE
        go_wp2_with (go_at_call 65; refine (failed_any S g none _ HR.out).mono ?_; rintro e w2 ⟨rfl, rfl⟩)
        go_ret
        rw [hfin.out]
        exact ⟨⟨A, k, c, rfl, hO⟩, hR, hG⟩
      | some b =>
        have HR := Lib.hid hR
        have hW := HF.out wr (some b) hG hR
        have hstep : ∃ x s', s (some b) = (x, s') ∧ Hid (repG s n st1 = ((acc ++ [x]) ++ (repG s r' s').1, (repG s r' s').2)) ∧ roomG (k + 1) s' := by
          refine ⟨(s (some b)).1, (s (some b)).2, rfl, ?_, room_next HS.out hk rfl⟩
          show _ = _
          rw [hE.out, repG_more, List.append_assoc]
          rfl
        obtain ⟨x, s', hx, hE2, hk2⟩ := hstep
        rw [hx] at hW
        dsimp only at hW
        have HW := Lib.hid hW
        have j1 : ((r' + 1 : Nat) : Int) - 1 = (r' : Int) := by omega
        have j2 : IntKind.u64.wrap (r' : Int) = (r' : Int) := by simp only [IntKind.wrap_u64]; omega
        have j3 : IntKind.u64.wrap (((r' + 1 : Nat) : Int) - 1) = (r' : Int) := by rw [j1]; exact j2
        clear hE hx hW hk
        go_wp2_with first
          | (go_at_call 65; refine (failed_any S g (some b) _ HR.out).mono ?_; rintro e w2 ⟨rfl, rfl⟩)
          | (go_at_fn gf; refine HW.out.mono ?_; rintro e w3 ⟨rfl, hR2, hg2⟩; have hO2 := (hO.keepG hg2 hlt).keep (b0 w3 (.cells (Ln.cells x) 49)); have hR3 := hR2.below (b0 w3 (.cells (Ln.cells x) 49)); have hG3 := (hG.trans hg2).trans (grown_below (b0 w3 (.cells (Ln.cells x) 49)) (some g)); have hx := newX w3 (Ln.cells x) 49; have hzz := hG3.size)
          | (at_builtin; refine wpList_apX (el := 49) (base := w.heap.size) (n := k) (l := acc.map Ln.cells) (xx := Ln.cells x) (by rfl) _ _ (by rfl) Tryz.underlying22 Tryz.underlying22 hi0 hz0 hz1 hz2 (by rfl) (by omega) (by omega) (by rfl) (by rfl) hO2 (by rfl) (ln_one x) hx (by omega) hzz ?_; intro A5 c5 w5 hO5 hb5)
        have hR5 := hR3.belowX hb5 hlt
        have hG5 := grown_then' hG3 hb5
        go_roundw
        case rel => exact ⟨r', acc ++ [x], A5, k + 1, c5, s', rfl, by first | rfl | (congr 1; go_num) | go_num, by omega, hk2, hR5, by rw [List.map_append]; exact hO5, hG5, hE2⟩
        case measure => simp [intOf]

set_option maxRecDepth 100000 in
set_option maxHeartbeats 1000000 in
theorem soundR_any (S : Addr) (g gf : Nat) (st : Rest) (A : Option Addr) (k c : Nat) (b : Bool) (w : World) (eg : ∀ args w, (callFunc gf args).run Tryz.prog w = .ok (.enter gf args) w) (hR : RdrP S w g st) (hg : st ≠ none → Calls Tryz.prog gf #[.slice A k c] w fun e w' => e = .returned (.bool b) ∧ Below w.heap.size w w') :
    Calls Tryz.prog 147 #[.pointer (some ⟨g, 0, none⟩), .slice A k c, .func (.func gf) #[] #[]] w fun e w' => e = .returned (if st ≠ none ∧ b = true then .tuple #[.slice A k c, .int .i64 0] else .tuple #[.slice none 0 0, .int .i64 2]) ∧ Below w.heap.size w w' := by
  cases st with
  | none =>
    rw [if_neg (fun h => h.1 rfl)]
    go_enter Tryz.func147, Tryz.ntmps147
    go_wp2_with (go_at_call 65; refine (failed_any S g none _ hR).mono ?_; rintro e w2 ⟨rfl, rfl⟩)
    go_ret2
    exact ⟨rfl, Below.refl _ _⟩
  | some bb =>
    have HG := Lib.hid (hg (by simp))
    have HR := Lib.hid hR
    clear hg hR
    cases b with
    | false =>
      rw [if_neg (fun h => by cases h.2)]
      go_enter Tryz.func147, Tryz.ntmps147
      go_wp2_with first
        | (go_at_call 65; refine (failed_any S g (some bb) _ HR.out).mono ?_; rintro e w2 ⟨rfl, rfl⟩)
        | (go_at_fn gf; refine HG.out.mono ?_; rintro e w3 ⟨rfl, hb3⟩)
      go_ret2
      exact ⟨rfl, hb3⟩
    | true =>
      rw [if_pos ⟨by simp, rfl⟩]
      go_enter Tryz.func147, Tryz.ntmps147
      go_wp2_with first
        | (go_at_call 65; refine (failed_any S g (some bb) _ HR.out).mono ?_; rintro e w2 ⟨rfl, rfl⟩)
        | (go_at_fn gf; refine HG.out.mono ?_; rintro e w3 ⟨rfl, hb3⟩)
      go_ret2
      exact ⟨rfl, hb3⟩

set_option maxRecDepth 100000 in
set_option maxHeartbeats 1000000 in
theorem soundC_any (S : Addr) (g gf : Nat) (st : Rest) (A : Option Addr) (k c : Nat) (b : Bool) (w : World) (eg : ∀ args w, (callFunc gf args).run Tryz.prog w = .ok (.enter gf args) w) (hR : RdrP S w g st) (hg : st ≠ none → Calls Tryz.prog gf #[.slice A k c] w fun e w' => e = .returned (.bool b) ∧ Below w.heap.size w w') :
    Calls Tryz.prog 151 #[.pointer (some ⟨g, 0, none⟩), .slice A k c, .func (.func gf) #[] #[]] w fun e w' => e = .returned (if st ≠ none ∧ b = true then .tuple #[.slice A k c, .int .i64 0] else .tuple #[.slice none 0 0, .int .i64 2]) ∧ Below w.heap.size w w' := by
  cases st with
  | none =>
    rw [if_neg (fun h => h.1 rfl)]
    go_enter Tryz.func151, Tryz.ntmps151
    go_wp2_with (go_at_call 65; refine (failed_any S g none _ hR).mono ?_; rintro e w2 ⟨rfl, rfl⟩)
    go_ret2
    exact ⟨rfl, Below.refl _ _⟩
  | some bb =>
    have HG := Lib.hid (hg (by simp))
    have HR := Lib.hid hR
    clear hg hR
    cases b with
    | false =>
      rw [if_neg (fun h => by cases h.2)]
      go_enter Tryz.func151, Tryz.ntmps151
      go_wp2_with first
        | (go_at_call 65; refine (failed_any S g (some bb) _ HR.out).mono ?_; rintro e w2 ⟨rfl, rfl⟩)
        | (go_at_fn gf; refine HG.out.mono ?_; rintro e w3 ⟨rfl, hb3⟩)
      go_ret2
      exact ⟨rfl, hb3⟩
    | true =>
      rw [if_pos ⟨by simp, rfl⟩]
      go_enter Tryz.func151, Tryz.ntmps151
      go_wp2_with first
        | (go_at_call 65; refine (failed_any S g (some bb) _ HR.out).mono ?_; rintro e w2 ⟨rfl, rfl⟩)
        | (go_at_fn gf; refine HG.out.mono ?_; rintro e w3 ⟨rfl, hb3⟩)
      go_ret2
      exact ⟨rfl, hb3⟩

set_option maxRecDepth 100000 in
set_option maxHeartbeats 1000000 in
theorem soundL_any (S : Addr) (g gf : Nat) (st : Rest) (A : Option Addr) (k c : Nat) (b : Bool) (w : World) (eg : ∀ args w, (callFunc gf args).run Tryz.prog w = .ok (.enter gf args) w) (hR : RdrP S w g st) (hg : st ≠ none → Calls Tryz.prog gf #[.slice A k c] w fun e w' => e = .returned (.bool b) ∧ Below w.heap.size w w') :
    Calls Tryz.prog 34 #[.pointer (some ⟨g, 0, none⟩), .slice A k c, .func (.func gf) #[] #[]] w fun e w' => e = .returned (if st ≠ none ∧ b = true then .tuple #[.slice A k c, .int .i64 0] else .tuple #[.slice none 0 0, .int .i64 2]) ∧ Below w.heap.size w w' := by
  cases st with
  | none =>
    rw [if_neg (fun h => h.1 rfl)]
    go_enter Tryz.func34, Tryz.ntmps34
    go_wp2_with (go_at_call 65; refine (failed_any S g none _ hR).mono ?_; rintro e w2 ⟨rfl, rfl⟩)
    go_ret2
    exact ⟨rfl, Below.refl _ _⟩
  | some bb =>
    have HG := Lib.hid (hg (by simp))
    have HR := Lib.hid hR
    clear hg hR
    cases b with
    | false =>
      rw [if_neg (fun h => by cases h.2)]
      go_enter Tryz.func34, Tryz.ntmps34
      go_wp2_with first
        | (go_at_call 65; refine (failed_any S g (some bb) _ HR.out).mono ?_; rintro e w2 ⟨rfl, rfl⟩)
        | (go_at_fn gf; refine HG.out.mono ?_; rintro e w3 ⟨rfl, hb3⟩)
      go_ret2
      exact ⟨rfl, hb3⟩
    | true =>
      rw [if_pos ⟨by simp, rfl⟩]
      go_enter Tryz.func34, Tryz.ntmps34
      go_wp2_with first
        | (go_at_call 65; refine (failed_any S g (some bb) _ HR.out).mono ?_; rintro e w2 ⟨rfl, rfl⟩)
        | (go_at_fn gf; refine HG.out.mono ?_; rintro e w3 ⟨rfl, hb3⟩)
      go_ret2
      exact ⟨rfl, hb3⟩
end Go.Proofs.YtpjleeeligahaaaGreatDoor
