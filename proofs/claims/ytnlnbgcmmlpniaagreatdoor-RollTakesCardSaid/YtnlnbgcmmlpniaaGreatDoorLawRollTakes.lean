/-
  WHAT IS PROVED: the law of the statement RollTakes answers true. Conditions: those typed in the theorem.
-/
import Derived.Test.YtnlnbgcmmlpniaaGreatDoorM11
import Derived.Test.YtnlnbgcmmlpniaaGreatDoorRSame
import Derived.Test.YtnlnbgcmmlpniaaGreatDoorRRefTakeC
import Derived.Test.YtnlnbgcmmlpniaaGreatDoorRRefTakeL
import Derived.Test.YtnlnbgcmmlpniaaGreatDoorM12
import Derived.ChangeKeysEq
namespace Go.Proofs.YtnlnbgcmmlpniaaGreatDoor
open Go.RowKit

theorem int_infoT : (Tryz.prog.info? 3).map (fun i => (i.zero, i.size, i.bytes)) = some (some (.int .i64 0), 1, 8) := by kernel_rfl
theorem cells_intT : Tryz.prog.cellsOf 3 = 1 := by kernel_rfl
theorem la_eqIn (v0 v1 v2 v3 v4 v5 v6 v7 v8 v9 v10 v11 : Int) (W : World) : (Op.equalIn 10000 24 (.agg (laI v0 v1 v2 v3 v4 v5 v6 v7 v8 v9 v10 v11)) (.agg (laI v0 v1 v2 v3 v4 v5 v6 v7 v8 v9 v10 v11))).run Tryz.prog W = .ok true W := by
  obtain ⟨i0, hi0, _, _, _⟩ := info_parts int_infoT
  rw [run_equalIn_array W 9999 _ _ Tryz.underlying24 hi0, cells_intT, show List.range 12 = [0, 1, 2, 3, 4, 5, 6, 7, 8, 9, 10, 11] from rfl]
  simp only [Op.eqItems]
  go_simp
theorem la_eqInL (v0 v1 v2 v3 v4 v5 v6 v7 v8 v9 v10 v11 : Int) (W : World) : (Op.equalIn 10000 25 (.agg (laI v0 v1 v2 v3 v4 v5 v6 v7 v8 v9 v10 v11)) (.agg (laI v0 v1 v2 v3 v4 v5 v6 v7 v8 v9 v10 v11))).run Tryz.prog W = .ok true W := by
  obtain ⟨i0, hi0, _, _, _⟩ := info_parts int_infoT
  rw [run_equalIn_array W 9999 _ _ Tryz.underlying25 hi0, cells_intT, show List.range 12 = [0, 1, 2, 3, 4, 5, 6, 7, 8, 9, 10, 11] from rfl]
  simp only [Op.eqItems]
  go_simp
theorem la_neq (v0 v1 v2 v3 v4 v5 v6 v7 v8 v9 v10 v11 : Int) (W : World) : (binOp .neq 24 (.agg (laI v0 v1 v2 v3 v4 v5 v6 v7 v8 v9 v10 v11)) (.agg (laI v0 v1 v2 v3 v4 v5 v6 v7 v8 v9 v10 v11))).run Tryz.prog W = .ok (.bool false) W := by
  rw [run_neq_struct, la_eqIn]
  rfl
theorem la_eql (v0 v1 v2 v3 v4 v5 v6 v7 v8 v9 v10 v11 : Int) (W : World) : (binOp .eql 25 (.agg (laI v0 v1 v2 v3 v4 v5 v6 v7 v8 v9 v10 v11)) (.agg (laI v0 v1 v2 v3 v4 v5 v6 v7 v8 v9 v10 v11))).run Tryz.prog W = .ok (.bool true) W := by
  rw [run_eql_struct, la_eqInL]
  rfl
theorem st_in : Tryz.prog.types[79]?.map (·.size) = some 2 := by kernel_rfl
theorem run_idx0 (a0 a1 a2 a3 a4 a5 a6 a7 : Value) (W : World) : (Instr.index 80 (.agg #[a0, a1, a2, a3, a4, a5, a6, a7]) (.int .i64 0)).run Tryz.prog W = .ok (.agg #[a0, a1]) W := by
  simp [Instr.index, run_underlying Tryz.underlying80, asIntOf, go_sem]
theorem run_idx1 (a0 a1 a2 a3 a4 a5 a6 a7 : Value) (W : World) : (Instr.index 80 (.agg #[a0, a1, a2, a3, a4, a5, a6, a7]) (.int .i64 1)).run Tryz.prog W = .ok (.agg #[a2, a3]) W := by
  simp [Instr.index, run_underlying Tryz.underlying80, asIntOf, go_sem]
theorem run_idx2 (a0 a1 a2 a3 a4 a5 a6 a7 : Value) (W : World) : (Instr.index 80 (.agg #[a0, a1, a2, a3, a4, a5, a6, a7]) (.int .i64 2)).run Tryz.prog W = .ok (.agg #[a4, a5]) W := by
  simp [Instr.index, run_underlying Tryz.underlying80, asIntOf, go_sem]
theorem run_idx3 (a0 a1 a2 a3 a4 a5 a6 a7 : Value) (W : World) : (Instr.index 80 (.agg #[a0, a1, a2, a3, a4, a5, a6, a7]) (.int .i64 3)).run Tryz.prog W = .ok (.agg #[a6, a7]) W := by
  simp [Instr.index, run_underlying Tryz.underlying80, asIntOf, go_sem]
theorem code_cases (k : Nat) : (k = 0 ∧ codeK k = 2) ∨ (k ≠ 0 ∧ codeK k = 0) := by
  unfold codeK
  by_cases h : k = 0
  · exact .inl ⟨h, if_pos h⟩
  · exact .inr ⟨h, if_neg h⟩
theorem rdr_keep {S : Addr} {W W' : World} {g g2 : Nat} {st : Rest} (h : RdrP S W g st) (hg : W.grownBy W' (some g2)) (hne : g2 ≠ g) : RdrP S W' g st := h.keep hg (by simpa using hne)
theorem same_self {l : List ByteArray} {L : List (List UInt8)} (h : dL l = L) : sameB (baL L) l = true := by
  unfold sameB
  rw [dL_baL, h]
  exact decide_eq_true rfl

set_option maxRecDepth 100000 in
set_option maxHeartbeats 2000000 in
theorem lawRollTakes_long (A : Option Addr) (n c : Nat) (w : World) (hs : 5000 < n) :
    Calls Tryz.prog 5 #[.slice A n c] w fun e w' => e = .returned (.bool true) ∧ Below w.heap.size w w' := by
  have i1 : (5000 : Int) < (n : Int) := by omega
  go_enter Tryz.func5, Tryz.ntmps5
  go_wp2_with first
    | (go_at_call 6; refine (rollAwake w).mono ?_; rintro e w1 ⟨rfl, hb1⟩)
    | (go_at_call 6; refine (rollAwake w1).mono ?_; rintro e w2 ⟨rfl, hb2⟩)
  go_ret
  exact ⟨rfl, bt hb1 hb2⟩

set_option maxRecDepth 100000 in
set_option maxHeartbeats 8000000 in
theorem lawRollTakes_any (S : Addr) (A : Option Addr) (n c : Nat) (b : List UInt8) (w : World) (hn : b.length = n) (hr : RdB w.heap.size w A b) (hc : n ≤ c) (hL : LaidS S w) :
    Calls Tryz.prog 5 #[.slice A n c] w fun e w' => e = .returned (.bool true) ∧ Below w.heap.size w w' := by
  by_cases hs : 5000 < n
  · exact lawRollTakes_long A n c w hs
  have i1 : ¬ (5000 : Int) < (n : Int) := by omega
  have i2 : decide (5000 < n) = false := decide_eq_false hs
  have HMost := Lib.hid (takeG_most (f := takeClB) (good := goodCls) (l := b) (m := 4096) (M := 18446744073709551615) (k := 2) (by omega) takeCl_le takeCl_two (by omega))
  have hn6 : n ≤ 1000000 := by omega
  have HN := Lib.hid hn
  obtain ⟨v0, v1, v2, v3, v4, v5, v6, v7, v8, v9, v10, v11, hform⟩ := takeLa_form b
  -- what the document's calls answer, wherever they are called
  have hRK := Lib.hid (fun W (h : Below w.heap.size w W) => hr.keep (W' := W) h (Nat.le_refl _))
  have hLK := Lib.hid (fun W (h : Below w.heap.size w W) => hL.keep (W' := W) h)
  have F1 := Lib.hid (fun W h => refTakeR_any (B := w.heap.size) A n c b W hn (hRK.out W h) h.size hn6 hc)
  have F2 := Lib.hid (fun W h => refTakeC_any (B := w.heap.size) A n c b W hn (hRK.out W h) h.size hn6 hc)
  have F3 := Lib.hid (fun W h => refTakeLa_any (B := w.heap.size) A n c b W hn (hRK.out W h) h.size hn6 hc)
  have F4 := Lib.hid (fun W h => refTakeL_any (B := w.heap.size) A n c b W hn (hRK.out W h) h.size hn6 hc)
  have F5 := Lib.hid (fun W (h : Below w.heap.size w W) => rOpen_any S A n c b W hn hn6 ((hRK.out W h).more h.size))
  have G1 := Lib.hid (fun g W h hR => (takeR_any S g (some b) W (hLK.out W h) hR).mono fun _ _ h => taken_of h)
  have G2 := Lib.hid (fun g W h hR => (takeC_any S g (some b) W (hLK.out W h) hR).mono fun _ _ h => taken_of h)
  have G3 := Lib.hid (fun g W h hR => (takeLa_any S g (some b) W (hLK.out W h) hR).mono fun _ _ h => takenLa_of h)
  have G4 := Lib.hid (fun g W h hR => (takeL_any S g (some b) W (hLK.out W h) hR).mono fun _ _ h => taken_of h)
  rw [HMost.out] at G2
  have hlen1 := takeG_len (f := preF) (good := goodR) (l := b) (most := 6)
  have hlen1' : (takeNum b 6).1 ≤ 6 := (takeNum_lt b 6).2.1
  have hlen2 := takeG_len (f := takeClB) (good := goodCls) (l := b) (most := 4096)
  have hlen2' : (takeNum b 4096).1 ≤ 4096 := (takeNum_lt b 4096).2.1
  have hlen4 := takeG_len (f := takeLnB) (good := goodLns) (l := b) (most := 4096)
  unfold TakeXP at F1 F2 F4
  unfold TakeLaP at F3
  rw [hform] at F3 G3
  have hneq := fun W => la_neq v0 v1 v2 v3 v4 v5 v6 v7 v8 v9 v10 v11 W
  clear hform HMost hr hL hRK hn
  generalize takeG preF goodR b 6 = T1 at F1 G1 hlen1
  generalize takeG takeClB goodCls b 4096 = T2 at F2 G2 hlen2
  generalize takeG takeLnB goodLns b 4096 = T4 at F4 G4 hlen4
  generalize (takeLaB b).2 = k3 at F3 G3
  obtain ⟨X1, k1⟩ := T1
  obtain ⟨X2, k2⟩ := T2
  obtain ⟨X4, k4⟩ := T4
  dsimp only at F1 F2 F3 F4 G1 G2 G3 G4 hlen1 hlen2 hlen4
  go_enter Tryz.func5, Tryz.ntmps5
  go_upto_region 3 with (go_at_call 6; refine (rollAwake w).mono ?_; rintro e w1 ⟨rfl, hB1⟩)
  go_wp2_with fail
  refine (F1.out w1 hB1).mono ?_
  rintro e w2 ⟨⟨A2, n2, c2, rfl, hO2⟩, hb2⟩
  have hB2 := bt hB1 hb2
  clear hB1 hb2 F1
  go_wp2_with fail
  refine (F2.out w2 hB2).mono ?_
  rintro e w3 ⟨⟨A3, n3, c3, rfl, hO3⟩, hb3⟩
  have hB3 := bt hB2 hb3
  replace hO2 := hO2.keep hb3
  clear hB2 hb3 F2
  go_wp2_with fail
  refine (F3.out w3 hB3).mono ?_
  rintro e w4 ⟨rfl, hb4⟩
  have hB4 := bt hB3 hb4
  replace hO2 := hO2.keep hb4
  replace hO3 := hO3.keep hb4
  have hfm : lastsI (laL v0 v1 v2 v3 v4 v5 v6 v7 v8 v9 v10 v11) = laI v0 v1 v2 v3 v4 v5 v6 v7 v8 v9 v10 v11 := rfl
  rw [hfm] at *
  clear hB3 hb4 F3
  go_upto_region 6 with fail
  have hN5 := blk_new w4 (laI v0 v1 v2 v3 v4 v5 v6 v7 v8 v9 v10 v11) 24
  have hB5 := ba hB4 (.cells (laI v0 v1 v2 v3 v4 v5 v6 v7 v8 v9 v10 v11) 24)
  replace hO2 := hO2.keep (b0 w4 (.cells (laI v0 v1 v2 v3 v4 v5 v6 v7 v8 v9 v10 v11) 24))
  replace hO3 := hO3.keep (b0 w4 (.cells (laI v0 v1 v2 v3 v4 v5 v6 v7 v8 v9 v10 v11) 24))
  generalize w4.alloc (.cells (laI v0 v1 v2 v3 v4 v5 v6 v7 v8 v9 v10 v11) 24) = w5 at hN5 hB5 hO2 hO3 ⊢
  generalize w4.heap.size = b5 at hN5 ⊢
  clear hB4
  go_wp2_with fail
  refine (F4.out w5 hB5).mono ?_
  rintro e w6 ⟨⟨A6, n6, c6, rfl, hO6⟩, hb6⟩
  have hB6 := bt hB5 hb6
  have lw6 := hB6.size
  replace hO2 := hO2.keep hb6
  replace hO3 := hO3.keep hb6
  replace hN5 := hN5.keep hb6
  clear hB5 hb6 F4
  -- what stands below here stays
  have hR2 := hO2.rd
  have hR3 := hO3.rd
  have hR6 := hO6.rd
  have e2 := hO2.len
  have e3 := hO3.len
  have e6 := hO6.len
  rw [List.length_map] at e2 e3 e6
  have hlt5 := hN5.lt
  have hQ6 := Below.refl w6.heap.size w6
  clear hO2 hO3 hO6
  go_wp2_with fail
  refine (F5.out w6 hB6).mono ?_
  rintro e w7 ⟨⟨g1, rfl, hA1, hg1⟩, hb7⟩
  have hB7 := bt hB6 hb7
  have hQ7 := hQ6.trans hb7
  clear hB6 hQ6
  go_wp2_with fail
  refine (F5.out w7 hB7).mono ?_
  rintro e w8 ⟨⟨g2, rfl, hA2, hg2⟩, hb8⟩
  have hB8 := bt hB7 hb8
  have hQ8 := bt hQ7 hb8
  have hn12 : g1 ≠ g2 := by have := hA1.lt; omega
  replace hA1 := hA1.below hb8
  clear hB7 hQ7
  go_wp2_with fail
  refine (F5.out w8 hB8).mono ?_
  rintro e w9 ⟨⟨g3, rfl, hA3, hg3⟩, hb9⟩
  have hB9 := bt hB8 hb9
  have hQ9 := bt hQ8 hb9
  have hn13 : g1 ≠ g3 := by have := hA1.lt; omega
  have hn23 : g2 ≠ g3 := by have := hA2.lt; omega
  replace hA1 := hA1.below hb9
  replace hA2 := hA2.below hb9
  clear hB8 hQ8
  go_wp2_with fail
  refine (F5.out w9 hB9).mono ?_
  rintro e w10 ⟨⟨g4, rfl, hA4, hg4⟩, hb10⟩
  have hB10 := bt hB9 hb10
  have hQ10 := bt hQ9 hb10
  have hn14 : g1 ≠ g4 := by have := hA1.lt; omega
  have hn24 : g2 ≠ g4 := by have := hA2.lt; omega
  have hn34 : g3 ≠ g4 := by have := hA3.lt; omega
  replace hA1 := hA1.below hb10
  replace hA2 := hA2.below hb10
  replace hA3 := hA3.below hb10
  have hz7 := hb7.size
  have hz8 := hb8.size
  have hz9 := hb9.size
  have l2 : w6.heap.size ≤ g2 := by omega
  have l3 : w6.heap.size ≤ g3 := by omega
  have l4 : w6.heap.size ≤ g4 := by omega
  have lw := hB10.size
  have lq := hQ10.size
  clear hB9 hQ9 hb7 hb8 hb9 hb10 hg2 hg3 hg4 hz7 hz8 hz9 F5
  go_wp2_with fail
  refine (G1.out g1 w10 hB10 hA1).mono ?_
  rintro e w11 ⟨⟨Y1, m1, d1, rfl, hY1⟩, _, hgr⟩
  have lg1 := hA1.lt
  have lg2 := hA2.lt
  have lg3 := hA3.lt
  have lg4 := hA4.lt
  have hB11 := hB10.trans (below_grown hgr (Nat.le_trans lw6 hg1) lw)
  have hQ11 := hQ10.trans (below_grown hgr hg1 lq)
  replace hA2 := rdr_keep hA2 hgr hn12
  replace hA3 := rdr_keep hA3 hgr hn13
  replace hA4 := rdr_keep hA4 hgr hn14
  have lh3 := hA3.lt
  have lh4 := hA4.lt
  clear hB10 hQ10 hgr hA1 G1
  go_wp2_with fail
  refine (G2.out g2 w11 hB11 hA2).mono ?_
  rintro e w12 ⟨⟨Y2, m2, d2, rfl, hY2⟩, _, hgr⟩
  have hB12 := hB11.trans (below_grown hgr (Nat.le_trans lw6 l2) hB11.size)
  have hQ12 := hQ11.trans (below_grown hgr l2 hQ11.size)
  replace hA3 := rdr_keep hA3 hgr hn23
  replace hA4 := rdr_keep hA4 hgr hn24
  replace hY1 := hY1.keepG hgr lg2
  have lk4 := hA4.lt
  clear hB11 hQ11 hgr hA2 G2
  go_wp2_with fail
  refine (G3.out g3 w12 hB12 hA3).mono ?_
  rintro e w13 ⟨rfl, _, hgr⟩
  have hB13 := hB12.trans (below_grown hgr (Nat.le_trans lw6 l3) hB12.size)
  have hQ13 := hQ12.trans (below_grown hgr l3 hQ12.size)
  replace hA4 := rdr_keep hA4 hgr hn34
  replace hY1 := hY1.keepG hgr lg3
  replace hY2 := hY2.keepG hgr lh3
  clear hB12 hQ12 hgr hA3 G3
  go_upto_region 11 with fail
  have hM14 := blk_new w13 (laI v0 v1 v2 v3 v4 v5 v6 v7 v8 v9 v10 v11) 25
  have hB14 := ba hB13 (.cells (laI v0 v1 v2 v3 v4 v5 v6 v7 v8 v9 v10 v11) 25)
  have hQ14 := ba hQ13 (.cells (laI v0 v1 v2 v3 v4 v5 v6 v7 v8 v9 v10 v11) 25)
  replace hY1 := hY1.keep (b0 w13 (.cells (laI v0 v1 v2 v3 v4 v5 v6 v7 v8 v9 v10 v11) 25))
  replace hY2 := hY2.keep (b0 w13 (.cells (laI v0 v1 v2 v3 v4 v5 v6 v7 v8 v9 v10 v11) 25))
  have hbm : w13.heap.size ≠ g4 := by have := hA4.lt; omega
  replace hA4 := hA4.below (b0 w13 (.cells (laI v0 v1 v2 v3 v4 v5 v6 v7 v8 v9 v10 v11) 25))
  generalize w13.alloc (.cells (laI v0 v1 v2 v3 v4 v5 v6 v7 v8 v9 v10 v11) 25) = w14 at hM14 hB14 hQ14 hY1 hY2 hA4 ⊢
  generalize w13.heap.size = bm at hM14 hbm ⊢
  clear hB13 hQ13
  go_wp2_with fail
  refine (G4.out g4 w14 hB14 hA4).mono ?_
  rintro e w15 ⟨⟨Y4, m4, d4, rfl, hY4⟩, _, hgr⟩
  have hB15 := hB14.trans (below_grown hgr (Nat.le_trans lw6 l4) hB14.size)
  have hQ15 := hQ14.trans (below_grown hgr l4 hQ14.size)
  replace hY1 := hY1.keepG hgr lg4
  replace hY2 := hY2.keepG hgr lh4
  have hM15 := grown_row hM14 hgr hbm
  have hN15 := hN5.keep hQ15
  have q2 := hY1.len
  have q3 := hY2.len
  have q6 := hY4.len
  rw [List.length_map] at q2 q3 q6
  have S1 := Lib.hid (refSame_any (B := w15.heap.size) (C := w15.heap.size) A2 Y1 n2 c2 m1 d1 (baL X1) (baL X1) w15 (by rw [baL_len]; exact e2) (rdS_of ((hR2.keep hQ15 (Nat.le_refl _)).more hQ15.size)) (by unfold maxLen; omega) (by rw [baL_len]; exact q2) (rdS_of hY1.rd))
  have e0 : sameB (baL X1) (baL X1) = true := decide_eq_true rfl
  rw [e0] at S1
  have S2 := Lib.hid (fun W (h : Drn w15 W) => refSameC_any (B := w6.heap.size) (C := w15.heap.size) A3 Y2 n3 c3 m2 d2 X2 X2 W e3 (hR3.keep (hQ15.trans (h.below _)) (Nat.le_refl _)) (by omega) q3 (hY2.rd.keep (h.below _) (Nat.le_refl _)))
  have S3 := Lib.hid (fun W (h : Drn w15 W) => lines_any (B := w15.heap.size) Y4 m4 d4 X4 W q6 (hY4.rd.keep (h.below _) (Nat.le_refl _)) (by rw [h.size]; exact Nat.le_refl _) (by omega))
  have S4 := Lib.hid (fun W (h : Below w6.heap.size w6 W) A9 c9 (hr9 : RdX 11 W.heap.size W A9 (X4.map Ln.cells)) => refSameL_any (B := w6.heap.size) (C := W.heap.size) A6 A9 n6 c6 m4 c9 X4 X4 W e6 (hR6.keep h (Nat.le_refl _)) (by omega) q6 hr9)
  have e1 : sameG X2 X2 = true := sameG_yes rfl
  have e4 : sameG X4 X4 = true := sameG_yes rfl
  rw [e1] at S2
  rw [e4] at S4
  have hc1 := code_cases k1
  have hc2 := code_cases k2
  have hc3 := code_cases k3
  have hc4 := code_cases k4
  generalize codeK k1 = r1 at hc1 ⊢
  generalize codeK k2 = r2 at hc2 ⊢
  generalize codeK k3 = r3 at hc3 ⊢
  generalize codeK k4 = r4 at hc4 ⊢
  have HC := Lib.hid (And.intro hc1 (And.intro hc2 (And.intro hc3 hc4)))
  have HY := Lib.hid (And.intro hY1 (And.intro hY2 hY4))
  clear hc1 hc2 hc3 hc4 e0 e1 e4 hY1 hY2 hY4 hM14 hB14 hQ14 hgr hA4 G4 hR2 hR3 hR6 hN5
  have HBQ := Lib.hid (And.intro hB15 hQ15)
  have HNM := Lib.hid (And.intro hN15 hM15)
  clear hM15 hN15
  go_wp2_with first
    | (go_at_call 16; refine S1.out.mono ?_; rintro e w16 ⟨rfl, hD16⟩)
    | (go_at_call 30; refine (S2.out _ hD16).mono ?_; rintro e w17 ⟨rfl, hD17⟩; have hDD := hD16.trans hD17; have hN17 := HNM.out.1.keep (hDD.below w15.heap.size); have hM17 := HNM.out.2.keep (hDD.below w15.heap.size); have n0 := hN17.cell 0; have n1 := hN17.cell 1; have n2 := hN17.cell 2; have n3 := hN17.cell 3; have n4 := hN17.cell 4; have n5 := hN17.cell 5; have n6 := hN17.cell 6; have n7 := hN17.cell 7; have n8 := hN17.cell 8; have n9 := hN17.cell 9; have n10 := hN17.cell 10; have n11 := hN17.cell 11; have y0 := hM17.cell 0; have y1 := hM17.cell 1; have y2 := hM17.cell 2; have y3 := hM17.cell 3; have y4 := hM17.cell 4; have y5 := hM17.cell 5; have y6 := hM17.cell 6; have y7 := hM17.cell 7; have y8 := hM17.cell 8; have y9 := hM17.cell 9; have y10 := hM17.cell 10; have y11 := hM17.cell 11)
    | (go_at_call 19; refine (S3.out _ hDD).mono ?_; rintro e w18 ⟨⟨A9, c9, rfl, hO9⟩, hb18⟩; have hQ18 := (HBQ.out.2.trans (hDD.below _)).trans (hb18.mono (Nat.le_trans HBQ.out.2.size (Nat.le_of_eq hDD.size.symm))); have hB18 := (HBQ.out.1.trans (hDD.below _)).trans (hb18.mono (Nat.le_trans HBQ.out.1.size (Nat.le_of_eq hDD.size.symm))))
    | (go_at_call 23; refine (S4.out _ hQ18 A9 c9 hO9.rd).mono ?_; rintro e w19 ⟨rfl, hD19⟩; have hB19 := hB18.trans (hD19.below _))
  go_loopw [116] (fun i wr => ∃ j : Nat, j ≤ 4 ∧ i = .int .i64 j ∧ Below w.heap.size w wr) (fun i _ => 4 - (intOf i).toNat)
  case atStart => exact ⟨0, by omega, rfl, hB19⟩
  case round =>
    obtain ⟨j, hj, rfl, hW⟩ := hrel
    obtain ⟨hc1, hc2, hc3, hc4⟩ := HC.out
    clear hB19
    have hjj : j = 0 ∨ j = 1 ∨ j = 2 ∨ j = 3 ∨ j = 4 := by omega
    clear hj
    have hx0 := fun W => run_idx0 (.int .i64 (k1 : Int)) (.int .i64 r1) (.int .i64 (k2 : Int)) (.int .i64 r2) (.int .i64 (k3 : Int)) (.int .i64 r3) (.int .i64 (k4 : Int)) (.int .i64 r4) W
    have hx1 := fun W => run_idx1 (.int .i64 (k1 : Int)) (.int .i64 r1) (.int .i64 (k2 : Int)) (.int .i64 r2) (.int .i64 (k3 : Int)) (.int .i64 r3) (.int .i64 (k4 : Int)) (.int .i64 r4) W
    have hx2 := fun W => run_idx2 (.int .i64 (k1 : Int)) (.int .i64 r1) (.int .i64 (k2 : Int)) (.int .i64 r2) (.int .i64 (k3 : Int)) (.int .i64 r3) (.int .i64 (k4 : Int)) (.int .i64 r4) W
    have hx3 := fun W => run_idx3 (.int .i64 (k1 : Int)) (.int .i64 r1) (.int .i64 (k2 : Int)) (.int .i64 r2) (.int .i64 (k3 : Int)) (.int .i64 r3) (.int .i64 (k4 : Int)) (.int .i64 r4) W
    rcases hjj with rfl | rfl | rfl | rfl | rfl
    · clear hc2 hc3 hc4
      have hB := ba hW (.cells #[.int .i64 (k1 : Int), .int .i64 r1] 79)
      rcases hc1 with ⟨h, rfl⟩ | ⟨h, rfl⟩
      · have p0 : ¬ (0 : Int) < (k1 : Int) := by omega
        have p1 : ((k1 : Int) == 0) = true := by rw [beq_iff_eq]; omega
        have p2 : decide (0 < k1) = false := decide_eq_false (by omega)
        clear h
        go_wp2_with fail
        go_roundw
        case rel => exact ⟨1, by omega, by go_num, hB⟩
        case measure => simp [intOf]
      · have p0 : (0 : Int) < (k1 : Int) := by omega
        have p1 : ((k1 : Int) == 0) = false := by rw [beq_eq_false_iff_ne]; omega
        have p2 : decide (0 < k1) = true := decide_eq_true (by omega)
        clear h
        go_wp2_with fail
        go_roundw
        case rel => exact ⟨1, by omega, by go_num, hB⟩
        case measure => simp [intOf]
    · clear hc1 hc3 hc4
      have hB := ba hW (.cells #[.int .i64 (k2 : Int), .int .i64 r2] 79)
      rcases hc2 with ⟨h, rfl⟩ | ⟨h, rfl⟩
      · have p0 : ¬ (0 : Int) < (k2 : Int) := by omega
        have p1 : ((k2 : Int) == 0) = true := by rw [beq_iff_eq]; omega
        have p2 : decide (0 < k2) = false := decide_eq_false (by omega)
        clear h
        go_wp2_with fail
        go_roundw
        case rel => exact ⟨2, by omega, by go_num, hB⟩
        case measure => simp [intOf]
      · have p0 : (0 : Int) < (k2 : Int) := by omega
        have p1 : ((k2 : Int) == 0) = false := by rw [beq_eq_false_iff_ne]; omega
        have p2 : decide (0 < k2) = true := decide_eq_true (by omega)
        clear h
        go_wp2_with fail
        go_roundw
        case rel => exact ⟨2, by omega, by go_num, hB⟩
        case measure => simp [intOf]
    · clear hc1 hc2 hc4
      have hB := ba hW (.cells #[.int .i64 (k3 : Int), .int .i64 r3] 79)
      rcases hc3 with ⟨h, rfl⟩ | ⟨h, rfl⟩
      · have p0 : ¬ (0 : Int) < (k3 : Int) := by omega
        have p1 : ((k3 : Int) == 0) = true := by rw [beq_iff_eq]; omega
        have p2 : decide (0 < k3) = false := decide_eq_false (by omega)
        clear h
        go_wp2_with fail
        go_roundw
        case rel => exact ⟨3, by omega, by go_num, hB⟩
        case measure => simp [intOf]
      · have p0 : (0 : Int) < (k3 : Int) := by omega
        have p1 : ((k3 : Int) == 0) = false := by rw [beq_eq_false_iff_ne]; omega
        have p2 : decide (0 < k3) = true := decide_eq_true (by omega)
        clear h
        go_wp2_with fail
        go_roundw
        case rel => exact ⟨3, by omega, by go_num, hB⟩
        case measure => simp [intOf]
    · clear hc1 hc2 hc3
      have hB := ba hW (.cells #[.int .i64 (k4 : Int), .int .i64 r4] 79)
      rcases hc4 with ⟨h, rfl⟩ | ⟨h, rfl⟩
      · have p0 : ¬ (0 : Int) < (k4 : Int) := by omega
        have p1 : ((k4 : Int) == 0) = true := by rw [beq_iff_eq]; omega
        have p2 : decide (0 < k4) = false := decide_eq_false (by omega)
        clear h
        go_wp2_with fail
        go_roundw
        case rel => exact ⟨4, by omega, by go_num, hB⟩
        case measure => simp [intOf]
      · have p0 : (0 : Int) < (k4 : Int) := by omega
        have p1 : ((k4 : Int) == 0) = false := by rw [beq_eq_false_iff_ne]; omega
        have p2 : decide (0 < k4) = true := decide_eq_true (by omega)
        clear h
        go_wp2_with fail
        go_roundw
        case rel => exact ⟨4, by omega, by go_num, hB⟩
        case measure => simp [intOf]
    · go_wp2_with fail
      go_ret
      exact ⟨rfl, hW⟩
end Go.Proofs.YtnlnbgcmmlpniaaGreatDoor
