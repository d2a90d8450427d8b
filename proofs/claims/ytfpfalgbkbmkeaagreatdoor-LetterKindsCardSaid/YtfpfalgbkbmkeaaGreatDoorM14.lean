/-
  WHAT IS PROVED: letter.Good tells what the chapter says (goodLt). Conditions: those typed in each theorem. · fresh.Write answers the same write; roll.Writes answers a row of its own of the lines' writes. Conditions: those typed in each theorem.
-/
import Derived.Test.YtfpfalgbkbmkeaaGreatDoorM13
import Derived.Test.YtfpfalgbkbmkeaaGreatDoorRLasts2
namespace Go.Proofs.YtfpfalgbkbmkeaaGreatDoor
open Go.RowKit

theorem un_l1 {x : Lt} {h : Hn} (e : x.re.length = h.n1) : (unU x).re.length = (unH x.k h).n1 := by
  unfold unU unH
  split
  · first | exact e | rfl
  · split
    · first | exact e | rfl
    · split
      · first | exact e | rfl
      · exact e
theorem un_l2 {x : Lt} {h : Hn} (e : x.ws.length = h.n2) : (unU x).ws.length = (unH x.k h).n2 := by
  unfold unU unH
  split
  · first | exact e | rfl
  · split
    · first | exact e | rfl
    · split
      · first | exact e | rfl
      · exact e
theorem un_l3 {x : Lt} {h : Hn} (e : x.ls.length = h.n3) : (unU x).ls.length = (unH x.k h).n3 := by
  unfold unU unH
  split
  · first | exact e | rfl
  · split
    · first | exact e | rfl
    · split
      · first | exact e | rfl
      · exact e
theorem un_l4 {x : Lt} {h : Hn} (e : x.cs.length = h.n4) : (unU x).cs.length = (unH x.k h).n4 := by
  unfold unU unH
  split
  · first | exact e | rfl
  · split
    · first | exact e | rfl
    · split
      · first | exact e | rfl
      · exact e
theorem enters_unused : ∀ args w, (callFunc 28 args).run Tryz.prog w = .ok (.enter 28 args) w := enters_of Tryz.func28 (by kernel_rfl) rfl

set_option maxRecDepth 100000 in
set_option maxHeartbeats 4000000 in
theorem ltGood_any {B : Nat} (x : Lt) (h : Hn) (w : World) (hr : LtR B w x h) (hrB : B ≤ w.heap.size) (hf : LtF x) : Calls Tryz.prog 12 #[.agg (ltI x h)] w fun e w' => e = .returned (.bool (goodLt x)) ∧ Below w.heap.size w w' := by
  go_enter Tryz.func12, Tryz.ntmps12
  go_upto_region 1 with fail
  have hX := blk_new w (ltI x h) 30
  have hB := b0 w (.cells (ltI x h) 30)
  have hR := hr.keep hB hrB
  generalize w.alloc (.cells (ltI x h) 30) = W at hX hB hR ⊢
  generalize hb : w.heap.size = b at hX hB ⊢
  have HX := Lib.hid hX
  have HR := Lib.hid hR
  have HF := Lib.hid hf
  have HBB := Lib.hid (Nat.le_trans hrB (Nat.le_of_eq hb))
  have q0 : W.cell? ⟨b, 0, none⟩ = some (.int .i64 x.k) := hX.cell 0
  clear hX hR hr hf
  by_cases k3 : x.k = 3
  · rw [k3] at q0
    go_upto_region 6 with fail
    refine wp_region_lit ?_
    refine fl_start ?_
    generalize ha : Act.mk _ _ = a0
    have hn : a0.tmps.size = 48 := by rw [← ha]; kernel_rfl
    have h1 : (fr a0 []).eval (.tmp 1) = .pointer (some ⟨b, 0, none⟩) := by rw [← ha]; kernel_rfl
    refine fl_know hn rfl h1 ?_
    clear h1
    repeat first | refine g_mv hn ?_ | refine g_as hn ?_ | refine g_fdL hn ?_ | refine g_ldL hn HX.out ?_ | refine g_ldA hn HX.out ?_ | refine g_fd hn ?_ | refine g_ld hn ?_ | refine g_nc hn ?_ | refine g_nt hn ?_ | refine g_an hn ?_ | refine g_or hn ?_ | refine g_ln hn ?_ | refine g_ex hn ?_ | refine g_neq2 hn ?_ | refine g_neq hn ?_ | refine g_eql2 hn ?_ | refine g_eql hn ?_ | refine g_leq2 hn ?_ | refine g_leq hn ?_ | refine g_lss2 hn ?_ | refine g_lss hn ?_ | refine g_gtr2 hn ?_ | refine g_gtr hn ?_ | refine g_geq2 hn ?_ | refine g_geq hn ?_ | refine g_b0 hn ?_ | refine g_bn hn ?_ | refine g_bc hn ?_ | refine g_cv hn ?_ | refine g_ac hn ?_ | refine g_mc hn ?_
    refine g_c1w enters_spans hn (spans_any x h _ HR.out (Nat.le_trans HBB.out (Nat.le_of_lt HX.out.lt)) HF.out) ?_
    intro w2 hb2
    replace hB := bnx hB HX.out hb2
    replace HR := Lib.hid (HR.out.keep hb2 (Nat.le_trans HBB.out (Nat.le_of_lt HX.out.lt)))
    replace HX := Lib.hid (HX.out.keep hb2)
    repeat first | refine g_mv hn ?_ | refine g_as hn ?_ | refine g_fdL hn ?_ | refine g_ldL hn HX.out ?_ | refine g_ldA hn HX.out ?_ | refine g_fd hn ?_ | refine g_ld hn ?_ | refine g_nc hn ?_ | refine g_nt hn ?_ | refine g_an hn ?_ | refine g_or hn ?_ | refine g_ln hn ?_ | refine g_ex hn ?_ | refine g_neq2 hn ?_ | refine g_neq hn ?_ | refine g_eql2 hn ?_ | refine g_eql hn ?_ | refine g_leq2 hn ?_ | refine g_leq hn ?_ | refine g_lss2 hn ?_ | refine g_lss hn ?_ | refine g_gtr2 hn ?_ | refine g_gtr hn ?_ | refine g_geq2 hn ?_ | refine g_geq hn ?_ | refine g_b0 hn ?_ | refine g_bn hn ?_ | refine g_bc hn ?_ | refine g_cv hn ?_ | refine g_ac hn ?_ | refine g_mc hn ?_
    refine g_c1w enters_snapped hn (snapped_any x h _ HR.out.l4) ?_
    intro w3 hb3
    replace hB := bnx hB HX.out hb3
    replace HR := Lib.hid (HR.out.keep hb3 (Nat.le_trans HBB.out (Nat.le_of_lt HX.out.lt)))
    replace HX := Lib.hid (HX.out.keep hb3)
    repeat first | refine g_mv hn ?_ | refine g_as hn ?_ | refine g_fdL hn ?_ | refine g_ldL hn HX.out ?_ | refine g_ldA hn HX.out ?_ | refine g_fd hn ?_ | refine g_ld hn ?_ | refine g_nc hn ?_ | refine g_nt hn ?_ | refine g_an hn ?_ | refine g_or hn ?_ | refine g_ln hn ?_ | refine g_ex hn ?_ | refine g_neq2 hn ?_ | refine g_neq hn ?_ | refine g_eql2 hn ?_ | refine g_eql hn ?_ | refine g_leq2 hn ?_ | refine g_leq hn ?_ | refine g_lss2 hn ?_ | refine g_lss hn ?_ | refine g_gtr2 hn ?_ | refine g_gtr hn ?_ | refine g_geq2 hn ?_ | refine g_geq hn ?_ | refine g_b0 hn ?_ | refine g_bn hn ?_ | refine g_bc hn ?_ | refine g_cv hn ?_ | refine g_ac hn ?_ | refine g_mc hn ?_
    refine fl_endb (c := !(spansB x && (x.sn || !snapB x))) (by cases spansB x <;> cases x.sn <;> cases snapB x <;> rfl) ?_
    clear hn 
    subst ha
    dsimp only [fr, cnd, Act.put, cond_true]
    simp only [List.setIfInBounds_toArray, List.set_cons_zero, List.set_cons_succ]
    cases hc : spansB x && (x.sn || !snapB x) with
    | false =>
      have R : Hid (goodLt x = false) := by
        show _ = _
        rw [← code_is]
        unfold codeB
        rw [hc, k3]
        rfl
      clear hc
      go_wp2_with fail
      go_ret
      exact ⟨ret_bool R.out.symm, by rw [hb]; exact hB⟩
    | true =>
      have HC := Lib.hid hc
      clear hc
      go_upto_region 8 with fail
      refine wp_region_lit ?_
      refine fl_start ?_
      generalize ha : Act.mk _ _ = a0
      have hn : a0.tmps.size = 48 := by rw [← ha]; kernel_rfl
      have h1 : (fr a0 []).eval (.tmp 1) = .pointer (some ⟨b, 0, none⟩) := by rw [← ha]; kernel_rfl
      refine fl_know hn rfl h1 ?_
      clear h1
      repeat first | refine g_mv hn ?_ | refine g_as hn ?_ | refine g_fdL hn ?_ | refine g_ldL hn HX.out ?_ | refine g_ldA hn HX.out ?_ | refine g_fd hn ?_ | refine g_ld hn ?_ | refine g_nc hn ?_ | refine g_nt hn ?_ | refine g_an hn ?_ | refine g_or hn ?_ | refine g_ln hn ?_ | refine g_ex hn ?_ | refine g_neq2 hn ?_ | refine g_neq hn ?_ | refine g_eql2 hn ?_ | refine g_eql hn ?_ | refine g_leq2 hn ?_ | refine g_leq hn ?_ | refine g_lss2 hn ?_ | refine g_lss hn ?_ | refine g_gtr2 hn ?_ | refine g_gtr hn ?_ | refine g_geq2 hn ?_ | refine g_geq hn ?_ | refine g_b0 hn ?_ | refine g_bn hn ?_ | refine g_bc hn ?_ | refine g_cv hn ?_ | refine g_ac hn ?_ | refine g_mc hn ?_
      refine g_c1w enters_goodNumbers hn (goodNumbers_any x h _) ?_
      intro w2 hb2
      replace hB := bnx hB HX.out hb2
      replace HR := Lib.hid (HR.out.keep hb2 (Nat.le_trans HBB.out (Nat.le_of_lt HX.out.lt)))
      replace HX := Lib.hid (HX.out.keep hb2)
      repeat first | refine g_mv hn ?_ | refine g_as hn ?_ | refine g_fdL hn ?_ | refine g_ldL hn HX.out ?_ | refine g_ldA hn HX.out ?_ | refine g_fd hn ?_ | refine g_ld hn ?_ | refine g_nc hn ?_ | refine g_nt hn ?_ | refine g_an hn ?_ | refine g_or hn ?_ | refine g_ln hn ?_ | refine g_ex hn ?_ | refine g_neq2 hn ?_ | refine g_neq hn ?_ | refine g_eql2 hn ?_ | refine g_eql hn ?_ | refine g_leq2 hn ?_ | refine g_leq hn ?_ | refine g_lss2 hn ?_ | refine g_lss hn ?_ | refine g_gtr2 hn ?_ | refine g_gtr hn ?_ | refine g_geq2 hn ?_ | refine g_geq hn ?_ | refine g_b0 hn ?_ | refine g_bn hn ?_ | refine g_bc hn ?_ | refine g_cv hn ?_ | refine g_ac hn ?_ | refine g_mc hn ?_
      refine g_c1w enters_goodLists hn (goodLists_any x h _ HR.out (Nat.le_trans HBB.out (Nat.le_of_lt HX.out.lt)) HF.out) ?_
      intro w3 hb3
      replace hB := bnx hB HX.out hb3
      replace HR := Lib.hid (HR.out.keep hb3 (Nat.le_trans HBB.out (Nat.le_of_lt HX.out.lt)))
      replace HX := Lib.hid (HX.out.keep hb3)
      repeat first | refine g_mv hn ?_ | refine g_as hn ?_ | refine g_fdL hn ?_ | refine g_ldL hn HX.out ?_ | refine g_ldA hn HX.out ?_ | refine g_fd hn ?_ | refine g_ld hn ?_ | refine g_nc hn ?_ | refine g_nt hn ?_ | refine g_an hn ?_ | refine g_or hn ?_ | refine g_ln hn ?_ | refine g_ex hn ?_ | refine g_neq2 hn ?_ | refine g_neq hn ?_ | refine g_eql2 hn ?_ | refine g_eql hn ?_ | refine g_leq2 hn ?_ | refine g_leq hn ?_ | refine g_lss2 hn ?_ | refine g_lss hn ?_ | refine g_gtr2 hn ?_ | refine g_gtr hn ?_ | refine g_geq2 hn ?_ | refine g_geq hn ?_ | refine g_b0 hn ?_ | refine g_bn hn ?_ | refine g_bc hn ?_ | refine g_cv hn ?_ | refine g_ac hn ?_ | refine g_mc hn ?_
      refine g_c1w enters_unused hn (unused_any x h _) ?_
      intro w4 hb4
      replace hB := bnx hB HX.out hb4
      replace HR := Lib.hid (HR.out.keep hb4 (Nat.le_trans HBB.out (Nat.le_of_lt HX.out.lt)))
      replace HX := Lib.hid (HX.out.keep hb4)
      repeat first | refine g_mv hn ?_ | refine g_as hn ?_ | refine g_fdL hn ?_ | refine g_ldL hn HX.out ?_ | refine g_ldA hn HX.out ?_ | refine g_fd hn ?_ | refine g_ld hn ?_ | refine g_nc hn ?_ | refine g_nt hn ?_ | refine g_an hn ?_ | refine g_or hn ?_ | refine g_ln hn ?_ | refine g_ex hn ?_ | refine g_neq2 hn ?_ | refine g_neq hn ?_ | refine g_eql2 hn ?_ | refine g_eql hn ?_ | refine g_leq2 hn ?_ | refine g_leq hn ?_ | refine g_lss2 hn ?_ | refine g_lss hn ?_ | refine g_gtr2 hn ?_ | refine g_gtr hn ?_ | refine g_geq2 hn ?_ | refine g_geq hn ?_ | refine g_b0 hn ?_ | refine g_bn hn ?_ | refine g_bc hn ?_ | refine g_cv hn ?_ | refine g_ac hn ?_ | refine g_mc hn ?_
      refine g_c1w enters_blank hn (blank_any (unU x) (unH x.k h) _ (un_l1 HR.out.l1) (un_l2 HR.out.l2) (un_l3 HR.out.l3) (un_l4 HR.out.l4)) ?_
      intro w5 hb5
      replace hB := bnx hB HX.out hb5
      replace HR := Lib.hid (HR.out.keep hb5 (Nat.le_trans HBB.out (Nat.le_of_lt HX.out.lt)))
      replace HX := Lib.hid (HX.out.keep hb5)
      repeat first | refine g_mv hn ?_ | refine g_as hn ?_ | refine g_fdL hn ?_ | refine g_ldL hn HX.out ?_ | refine g_ldA hn HX.out ?_ | refine g_fd hn ?_ | refine g_ld hn ?_ | refine g_nc hn ?_ | refine g_nt hn ?_ | refine g_an hn ?_ | refine g_or hn ?_ | refine g_ln hn ?_ | refine g_ex hn ?_ | refine g_neq2 hn ?_ | refine g_neq hn ?_ | refine g_eql2 hn ?_ | refine g_eql hn ?_ | refine g_leq2 hn ?_ | refine g_leq hn ?_ | refine g_lss2 hn ?_ | refine g_lss hn ?_ | refine g_gtr2 hn ?_ | refine g_gtr hn ?_ | refine g_geq2 hn ?_ | refine g_geq hn ?_ | refine g_b0 hn ?_ | refine g_bn hn ?_ | refine g_bc hn ?_ | refine g_cv hn ?_ | refine g_ac hn ?_ | refine g_mc hn ?_
      refine fl_endb (c := goodLt x) (by rw [← code_is]; unfold codeB; rw [HC.out, k3]; rfl) ?_
      clear hn 
      subst ha
      dsimp only [fr, cnd, Act.put, cond_true]
      simp only [List.setIfInBounds_toArray, List.set_cons_zero, List.set_cons_succ]
      go_wp2_with fail
      go_ret
      exact ⟨rfl, by rw [hb]; exact hB⟩
  · have i3 : (x.k == 3) = false := by simpa using k3
    have n3 : (x.k != 3) = true := by simpa using k3
    by_cases k1 : x.k = 1
    · rw [k1] at q0
      go_upto_region 8 with fail
      refine wp_region_lit ?_
      refine fl_start ?_
      generalize ha : Act.mk _ _ = a0
      have hn : a0.tmps.size = 48 := by rw [← ha]; kernel_rfl
      have h1 : (fr a0 []).eval (.tmp 1) = .pointer (some ⟨b, 0, none⟩) := by rw [← ha]; kernel_rfl
      refine fl_know hn rfl h1 ?_
      clear h1
      repeat first | refine g_mv hn ?_ | refine g_as hn ?_ | refine g_fdL hn ?_ | refine g_ldL hn HX.out ?_ | refine g_ldA hn HX.out ?_ | refine g_fd hn ?_ | refine g_ld hn ?_ | refine g_nc hn ?_ | refine g_nt hn ?_ | refine g_an hn ?_ | refine g_or hn ?_ | refine g_ln hn ?_ | refine g_ex hn ?_ | refine g_neq2 hn ?_ | refine g_neq hn ?_ | refine g_eql2 hn ?_ | refine g_eql hn ?_ | refine g_leq2 hn ?_ | refine g_leq hn ?_ | refine g_lss2 hn ?_ | refine g_lss hn ?_ | refine g_gtr2 hn ?_ | refine g_gtr hn ?_ | refine g_geq2 hn ?_ | refine g_geq hn ?_ | refine g_b0 hn ?_ | refine g_bn hn ?_ | refine g_bc hn ?_ | refine g_cv hn ?_ | refine g_ac hn ?_ | refine g_mc hn ?_
      refine g_c1w enters_goodNumbers hn (goodNumbers_any x h _) ?_
      intro w2 hb2
      replace hB := bnx hB HX.out hb2
      replace HR := Lib.hid (HR.out.keep hb2 (Nat.le_trans HBB.out (Nat.le_of_lt HX.out.lt)))
      replace HX := Lib.hid (HX.out.keep hb2)
      repeat first | refine g_mv hn ?_ | refine g_as hn ?_ | refine g_fdL hn ?_ | refine g_ldL hn HX.out ?_ | refine g_ldA hn HX.out ?_ | refine g_fd hn ?_ | refine g_ld hn ?_ | refine g_nc hn ?_ | refine g_nt hn ?_ | refine g_an hn ?_ | refine g_or hn ?_ | refine g_ln hn ?_ | refine g_ex hn ?_ | refine g_neq2 hn ?_ | refine g_neq hn ?_ | refine g_eql2 hn ?_ | refine g_eql hn ?_ | refine g_leq2 hn ?_ | refine g_leq hn ?_ | refine g_lss2 hn ?_ | refine g_lss hn ?_ | refine g_gtr2 hn ?_ | refine g_gtr hn ?_ | refine g_geq2 hn ?_ | refine g_geq hn ?_ | refine g_b0 hn ?_ | refine g_bn hn ?_ | refine g_bc hn ?_ | refine g_cv hn ?_ | refine g_ac hn ?_ | refine g_mc hn ?_
      refine g_c1w enters_goodLists hn (goodLists_any x h _ HR.out (Nat.le_trans HBB.out (Nat.le_of_lt HX.out.lt)) HF.out) ?_
      intro w3 hb3
      replace hB := bnx hB HX.out hb3
      replace HR := Lib.hid (HR.out.keep hb3 (Nat.le_trans HBB.out (Nat.le_of_lt HX.out.lt)))
      replace HX := Lib.hid (HX.out.keep hb3)
      repeat first | refine g_mv hn ?_ | refine g_as hn ?_ | refine g_fdL hn ?_ | refine g_ldL hn HX.out ?_ | refine g_ldA hn HX.out ?_ | refine g_fd hn ?_ | refine g_ld hn ?_ | refine g_nc hn ?_ | refine g_nt hn ?_ | refine g_an hn ?_ | refine g_or hn ?_ | refine g_ln hn ?_ | refine g_ex hn ?_ | refine g_neq2 hn ?_ | refine g_neq hn ?_ | refine g_eql2 hn ?_ | refine g_eql hn ?_ | refine g_leq2 hn ?_ | refine g_leq hn ?_ | refine g_lss2 hn ?_ | refine g_lss hn ?_ | refine g_gtr2 hn ?_ | refine g_gtr hn ?_ | refine g_geq2 hn ?_ | refine g_geq hn ?_ | refine g_b0 hn ?_ | refine g_bn hn ?_ | refine g_bc hn ?_ | refine g_cv hn ?_ | refine g_ac hn ?_ | refine g_mc hn ?_
      refine g_c1w enters_unused hn (unused_any x h _) ?_
      intro w4 hb4
      replace hB := bnx hB HX.out hb4
      replace HR := Lib.hid (HR.out.keep hb4 (Nat.le_trans HBB.out (Nat.le_of_lt HX.out.lt)))
      replace HX := Lib.hid (HX.out.keep hb4)
      repeat first | refine g_mv hn ?_ | refine g_as hn ?_ | refine g_fdL hn ?_ | refine g_ldL hn HX.out ?_ | refine g_ldA hn HX.out ?_ | refine g_fd hn ?_ | refine g_ld hn ?_ | refine g_nc hn ?_ | refine g_nt hn ?_ | refine g_an hn ?_ | refine g_or hn ?_ | refine g_ln hn ?_ | refine g_ex hn ?_ | refine g_neq2 hn ?_ | refine g_neq hn ?_ | refine g_eql2 hn ?_ | refine g_eql hn ?_ | refine g_leq2 hn ?_ | refine g_leq hn ?_ | refine g_lss2 hn ?_ | refine g_lss hn ?_ | refine g_gtr2 hn ?_ | refine g_gtr hn ?_ | refine g_geq2 hn ?_ | refine g_geq hn ?_ | refine g_b0 hn ?_ | refine g_bn hn ?_ | refine g_bc hn ?_ | refine g_cv hn ?_ | refine g_ac hn ?_ | refine g_mc hn ?_
      refine g_c1w enters_blank hn (blank_any (unU x) (unH x.k h) _ (un_l1 HR.out.l1) (un_l2 HR.out.l2) (un_l3 HR.out.l3) (un_l4 HR.out.l4)) ?_
      intro w5 hb5
      replace hB := bnx hB HX.out hb5
      replace HR := Lib.hid (HR.out.keep hb5 (Nat.le_trans HBB.out (Nat.le_of_lt HX.out.lt)))
      replace HX := Lib.hid (HX.out.keep hb5)
      repeat first | refine g_mv hn ?_ | refine g_as hn ?_ | refine g_fdL hn ?_ | refine g_ldL hn HX.out ?_ | refine g_ldA hn HX.out ?_ | refine g_fd hn ?_ | refine g_ld hn ?_ | refine g_nc hn ?_ | refine g_nt hn ?_ | refine g_an hn ?_ | refine g_or hn ?_ | refine g_ln hn ?_ | refine g_ex hn ?_ | refine g_neq2 hn ?_ | refine g_neq hn ?_ | refine g_eql2 hn ?_ | refine g_eql hn ?_ | refine g_leq2 hn ?_ | refine g_leq hn ?_ | refine g_lss2 hn ?_ | refine g_lss hn ?_ | refine g_gtr2 hn ?_ | refine g_gtr hn ?_ | refine g_geq2 hn ?_ | refine g_geq hn ?_ | refine g_b0 hn ?_ | refine g_bn hn ?_ | refine g_bc hn ?_ | refine g_cv hn ?_ | refine g_ac hn ?_ | refine g_mc hn ?_
      refine fl_endb (c := goodLt x) (by rw [← code_is]; unfold codeB; rw [k1]; rfl) ?_
      clear hn 
      subst ha
      dsimp only [fr, cnd, Act.put, cond_true]
      simp only [List.setIfInBounds_toArray, List.set_cons_zero, List.set_cons_succ]
      go_wp2_with fail
      go_ret
      exact ⟨rfl, by rw [hb]; exact hB⟩
    · by_cases k2 : x.k = 2
      · rw [k2] at q0
        go_upto_region 8 with fail
        refine wp_region_lit ?_
        refine fl_start ?_
        generalize ha : Act.mk _ _ = a0
        have hn : a0.tmps.size = 48 := by rw [← ha]; kernel_rfl
        have h1 : (fr a0 []).eval (.tmp 1) = .pointer (some ⟨b, 0, none⟩) := by rw [← ha]; kernel_rfl
        refine fl_know hn rfl h1 ?_
        clear h1
        repeat first | refine g_mv hn ?_ | refine g_as hn ?_ | refine g_fdL hn ?_ | refine g_ldL hn HX.out ?_ | refine g_ldA hn HX.out ?_ | refine g_fd hn ?_ | refine g_ld hn ?_ | refine g_nc hn ?_ | refine g_nt hn ?_ | refine g_an hn ?_ | refine g_or hn ?_ | refine g_ln hn ?_ | refine g_ex hn ?_ | refine g_neq2 hn ?_ | refine g_neq hn ?_ | refine g_eql2 hn ?_ | refine g_eql hn ?_ | refine g_leq2 hn ?_ | refine g_leq hn ?_ | refine g_lss2 hn ?_ | refine g_lss hn ?_ | refine g_gtr2 hn ?_ | refine g_gtr hn ?_ | refine g_geq2 hn ?_ | refine g_geq hn ?_ | refine g_b0 hn ?_ | refine g_bn hn ?_ | refine g_bc hn ?_ | refine g_cv hn ?_ | refine g_ac hn ?_ | refine g_mc hn ?_
        refine g_c1w enters_goodNumbers hn (goodNumbers_any x h _) ?_
        intro w2 hb2
        replace hB := bnx hB HX.out hb2
        replace HR := Lib.hid (HR.out.keep hb2 (Nat.le_trans HBB.out (Nat.le_of_lt HX.out.lt)))
        replace HX := Lib.hid (HX.out.keep hb2)
        repeat first | refine g_mv hn ?_ | refine g_as hn ?_ | refine g_fdL hn ?_ | refine g_ldL hn HX.out ?_ | refine g_ldA hn HX.out ?_ | refine g_fd hn ?_ | refine g_ld hn ?_ | refine g_nc hn ?_ | refine g_nt hn ?_ | refine g_an hn ?_ | refine g_or hn ?_ | refine g_ln hn ?_ | refine g_ex hn ?_ | refine g_neq2 hn ?_ | refine g_neq hn ?_ | refine g_eql2 hn ?_ | refine g_eql hn ?_ | refine g_leq2 hn ?_ | refine g_leq hn ?_ | refine g_lss2 hn ?_ | refine g_lss hn ?_ | refine g_gtr2 hn ?_ | refine g_gtr hn ?_ | refine g_geq2 hn ?_ | refine g_geq hn ?_ | refine g_b0 hn ?_ | refine g_bn hn ?_ | refine g_bc hn ?_ | refine g_cv hn ?_ | refine g_ac hn ?_ | refine g_mc hn ?_
        refine g_c1w enters_goodLists hn (goodLists_any x h _ HR.out (Nat.le_trans HBB.out (Nat.le_of_lt HX.out.lt)) HF.out) ?_
        intro w3 hb3
        replace hB := bnx hB HX.out hb3
        replace HR := Lib.hid (HR.out.keep hb3 (Nat.le_trans HBB.out (Nat.le_of_lt HX.out.lt)))
        replace HX := Lib.hid (HX.out.keep hb3)
        repeat first | refine g_mv hn ?_ | refine g_as hn ?_ | refine g_fdL hn ?_ | refine g_ldL hn HX.out ?_ | refine g_ldA hn HX.out ?_ | refine g_fd hn ?_ | refine g_ld hn ?_ | refine g_nc hn ?_ | refine g_nt hn ?_ | refine g_an hn ?_ | refine g_or hn ?_ | refine g_ln hn ?_ | refine g_ex hn ?_ | refine g_neq2 hn ?_ | refine g_neq hn ?_ | refine g_eql2 hn ?_ | refine g_eql hn ?_ | refine g_leq2 hn ?_ | refine g_leq hn ?_ | refine g_lss2 hn ?_ | refine g_lss hn ?_ | refine g_gtr2 hn ?_ | refine g_gtr hn ?_ | refine g_geq2 hn ?_ | refine g_geq hn ?_ | refine g_b0 hn ?_ | refine g_bn hn ?_ | refine g_bc hn ?_ | refine g_cv hn ?_ | refine g_ac hn ?_ | refine g_mc hn ?_
        refine g_c1w enters_unused hn (unused_any x h _) ?_
        intro w4 hb4
        replace hB := bnx hB HX.out hb4
        replace HR := Lib.hid (HR.out.keep hb4 (Nat.le_trans HBB.out (Nat.le_of_lt HX.out.lt)))
        replace HX := Lib.hid (HX.out.keep hb4)
        repeat first | refine g_mv hn ?_ | refine g_as hn ?_ | refine g_fdL hn ?_ | refine g_ldL hn HX.out ?_ | refine g_ldA hn HX.out ?_ | refine g_fd hn ?_ | refine g_ld hn ?_ | refine g_nc hn ?_ | refine g_nt hn ?_ | refine g_an hn ?_ | refine g_or hn ?_ | refine g_ln hn ?_ | refine g_ex hn ?_ | refine g_neq2 hn ?_ | refine g_neq hn ?_ | refine g_eql2 hn ?_ | refine g_eql hn ?_ | refine g_leq2 hn ?_ | refine g_leq hn ?_ | refine g_lss2 hn ?_ | refine g_lss hn ?_ | refine g_gtr2 hn ?_ | refine g_gtr hn ?_ | refine g_geq2 hn ?_ | refine g_geq hn ?_ | refine g_b0 hn ?_ | refine g_bn hn ?_ | refine g_bc hn ?_ | refine g_cv hn ?_ | refine g_ac hn ?_ | refine g_mc hn ?_
        refine g_c1w enters_blank hn (blank_any (unU x) (unH x.k h) _ (un_l1 HR.out.l1) (un_l2 HR.out.l2) (un_l3 HR.out.l3) (un_l4 HR.out.l4)) ?_
        intro w5 hb5
        replace hB := bnx hB HX.out hb5
        replace HR := Lib.hid (HR.out.keep hb5 (Nat.le_trans HBB.out (Nat.le_of_lt HX.out.lt)))
        replace HX := Lib.hid (HX.out.keep hb5)
        repeat first | refine g_mv hn ?_ | refine g_as hn ?_ | refine g_fdL hn ?_ | refine g_ldL hn HX.out ?_ | refine g_ldA hn HX.out ?_ | refine g_fd hn ?_ | refine g_ld hn ?_ | refine g_nc hn ?_ | refine g_nt hn ?_ | refine g_an hn ?_ | refine g_or hn ?_ | refine g_ln hn ?_ | refine g_ex hn ?_ | refine g_neq2 hn ?_ | refine g_neq hn ?_ | refine g_eql2 hn ?_ | refine g_eql hn ?_ | refine g_leq2 hn ?_ | refine g_leq hn ?_ | refine g_lss2 hn ?_ | refine g_lss hn ?_ | refine g_gtr2 hn ?_ | refine g_gtr hn ?_ | refine g_geq2 hn ?_ | refine g_geq hn ?_ | refine g_b0 hn ?_ | refine g_bn hn ?_ | refine g_bc hn ?_ | refine g_cv hn ?_ | refine g_ac hn ?_ | refine g_mc hn ?_
        refine fl_endb (c := goodLt x) (by rw [← code_is]; unfold codeB; rw [k2]; rfl) ?_
        clear hn 
        subst ha
        dsimp only [fr, cnd, Act.put, cond_true]
        simp only [List.setIfInBounds_toArray, List.set_cons_zero, List.set_cons_succ]
        go_wp2_with fail
        go_ret
        exact ⟨rfl, by rw [hb]; exact hB⟩
      · by_cases k4 : x.k = 4
        · rw [k4] at q0
          go_upto_region 8 with fail
          refine wp_region_lit ?_
          refine fl_start ?_
          generalize ha : Act.mk _ _ = a0
          have hn : a0.tmps.size = 48 := by rw [← ha]; kernel_rfl
          have h1 : (fr a0 []).eval (.tmp 1) = .pointer (some ⟨b, 0, none⟩) := by rw [← ha]; kernel_rfl
          refine fl_know hn rfl h1 ?_
          clear h1
          repeat first | refine g_mv hn ?_ | refine g_as hn ?_ | refine g_fdL hn ?_ | refine g_ldL hn HX.out ?_ | refine g_ldA hn HX.out ?_ | refine g_fd hn ?_ | refine g_ld hn ?_ | refine g_nc hn ?_ | refine g_nt hn ?_ | refine g_an hn ?_ | refine g_or hn ?_ | refine g_ln hn ?_ | refine g_ex hn ?_ | refine g_neq2 hn ?_ | refine g_neq hn ?_ | refine g_eql2 hn ?_ | refine g_eql hn ?_ | refine g_leq2 hn ?_ | refine g_leq hn ?_ | refine g_lss2 hn ?_ | refine g_lss hn ?_ | refine g_gtr2 hn ?_ | refine g_gtr hn ?_ | refine g_geq2 hn ?_ | refine g_geq hn ?_ | refine g_b0 hn ?_ | refine g_bn hn ?_ | refine g_bc hn ?_ | refine g_cv hn ?_ | refine g_ac hn ?_ | refine g_mc hn ?_
          refine g_c1w enters_goodNumbers hn (goodNumbers_any x h _) ?_
          intro w2 hb2
          replace hB := bnx hB HX.out hb2
          replace HR := Lib.hid (HR.out.keep hb2 (Nat.le_trans HBB.out (Nat.le_of_lt HX.out.lt)))
          replace HX := Lib.hid (HX.out.keep hb2)
          repeat first | refine g_mv hn ?_ | refine g_as hn ?_ | refine g_fdL hn ?_ | refine g_ldL hn HX.out ?_ | refine g_ldA hn HX.out ?_ | refine g_fd hn ?_ | refine g_ld hn ?_ | refine g_nc hn ?_ | refine g_nt hn ?_ | refine g_an hn ?_ | refine g_or hn ?_ | refine g_ln hn ?_ | refine g_ex hn ?_ | refine g_neq2 hn ?_ | refine g_neq hn ?_ | refine g_eql2 hn ?_ | refine g_eql hn ?_ | refine g_leq2 hn ?_ | refine g_leq hn ?_ | refine g_lss2 hn ?_ | refine g_lss hn ?_ | refine g_gtr2 hn ?_ | refine g_gtr hn ?_ | refine g_geq2 hn ?_ | refine g_geq hn ?_ | refine g_b0 hn ?_ | refine g_bn hn ?_ | refine g_bc hn ?_ | refine g_cv hn ?_ | refine g_ac hn ?_ | refine g_mc hn ?_
          refine g_c1w enters_goodLists hn (goodLists_any x h _ HR.out (Nat.le_trans HBB.out (Nat.le_of_lt HX.out.lt)) HF.out) ?_
          intro w3 hb3
          replace hB := bnx hB HX.out hb3
          replace HR := Lib.hid (HR.out.keep hb3 (Nat.le_trans HBB.out (Nat.le_of_lt HX.out.lt)))
          replace HX := Lib.hid (HX.out.keep hb3)
          repeat first | refine g_mv hn ?_ | refine g_as hn ?_ | refine g_fdL hn ?_ | refine g_ldL hn HX.out ?_ | refine g_ldA hn HX.out ?_ | refine g_fd hn ?_ | refine g_ld hn ?_ | refine g_nc hn ?_ | refine g_nt hn ?_ | refine g_an hn ?_ | refine g_or hn ?_ | refine g_ln hn ?_ | refine g_ex hn ?_ | refine g_neq2 hn ?_ | refine g_neq hn ?_ | refine g_eql2 hn ?_ | refine g_eql hn ?_ | refine g_leq2 hn ?_ | refine g_leq hn ?_ | refine g_lss2 hn ?_ | refine g_lss hn ?_ | refine g_gtr2 hn ?_ | refine g_gtr hn ?_ | refine g_geq2 hn ?_ | refine g_geq hn ?_ | refine g_b0 hn ?_ | refine g_bn hn ?_ | refine g_bc hn ?_ | refine g_cv hn ?_ | refine g_ac hn ?_ | refine g_mc hn ?_
          refine g_c1w enters_unused hn (unused_any x h _) ?_
          intro w4 hb4
          replace hB := bnx hB HX.out hb4
          replace HR := Lib.hid (HR.out.keep hb4 (Nat.le_trans HBB.out (Nat.le_of_lt HX.out.lt)))
          replace HX := Lib.hid (HX.out.keep hb4)
          repeat first | refine g_mv hn ?_ | refine g_as hn ?_ | refine g_fdL hn ?_ | refine g_ldL hn HX.out ?_ | refine g_ldA hn HX.out ?_ | refine g_fd hn ?_ | refine g_ld hn ?_ | refine g_nc hn ?_ | refine g_nt hn ?_ | refine g_an hn ?_ | refine g_or hn ?_ | refine g_ln hn ?_ | refine g_ex hn ?_ | refine g_neq2 hn ?_ | refine g_neq hn ?_ | refine g_eql2 hn ?_ | refine g_eql hn ?_ | refine g_leq2 hn ?_ | refine g_leq hn ?_ | refine g_lss2 hn ?_ | refine g_lss hn ?_ | refine g_gtr2 hn ?_ | refine g_gtr hn ?_ | refine g_geq2 hn ?_ | refine g_geq hn ?_ | refine g_b0 hn ?_ | refine g_bn hn ?_ | refine g_bc hn ?_ | refine g_cv hn ?_ | refine g_ac hn ?_ | refine g_mc hn ?_
          refine g_c1w enters_blank hn (blank_any (unU x) (unH x.k h) _ (un_l1 HR.out.l1) (un_l2 HR.out.l2) (un_l3 HR.out.l3) (un_l4 HR.out.l4)) ?_
          intro w5 hb5
          replace hB := bnx hB HX.out hb5
          replace HR := Lib.hid (HR.out.keep hb5 (Nat.le_trans HBB.out (Nat.le_of_lt HX.out.lt)))
          replace HX := Lib.hid (HX.out.keep hb5)
          repeat first | refine g_mv hn ?_ | refine g_as hn ?_ | refine g_fdL hn ?_ | refine g_ldL hn HX.out ?_ | refine g_ldA hn HX.out ?_ | refine g_fd hn ?_ | refine g_ld hn ?_ | refine g_nc hn ?_ | refine g_nt hn ?_ | refine g_an hn ?_ | refine g_or hn ?_ | refine g_ln hn ?_ | refine g_ex hn ?_ | refine g_neq2 hn ?_ | refine g_neq hn ?_ | refine g_eql2 hn ?_ | refine g_eql hn ?_ | refine g_leq2 hn ?_ | refine g_leq hn ?_ | refine g_lss2 hn ?_ | refine g_lss hn ?_ | refine g_gtr2 hn ?_ | refine g_gtr hn ?_ | refine g_geq2 hn ?_ | refine g_geq hn ?_ | refine g_b0 hn ?_ | refine g_bn hn ?_ | refine g_bc hn ?_ | refine g_cv hn ?_ | refine g_ac hn ?_ | refine g_mc hn ?_
          refine fl_endb (c := goodLt x) (by rw [← code_is]; unfold codeB; rw [k4]; rfl) ?_
          clear hn 
          subst ha
          dsimp only [fr, cnd, Act.put, cond_true]
          simp only [List.setIfInBounds_toArray, List.set_cons_zero, List.set_cons_succ]
          go_wp2_with fail
          go_ret
          exact ⟨rfl, by rw [hb]; exact hB⟩
        · have i1 : (x.k == 1) = false := by simpa using k1
          have i2 : (x.k == 2) = false := by simpa using k2
          have i4 : (x.k == 4) = false := by simpa using k4
          have R : Hid (goodLt x = false) := by
            show _ = _
            rw [← code_is]
            unfold codeB
            have : decide (1 ≤ x.k ∧ x.k ≤ 4) = false := decide_eq_false (by omega)
            rw [this]
            simp
          go_wp2_with fail
          go_ret
          exact ⟨ret_bool R.out.symm, by rw [hb]; exact hB⟩
end Go.Proofs.YtfpfalgbkbmkeaaGreatDoor

namespace Go.Proofs.YtfpfalgbkbmkeaaGreatDoor
open Go.RowKit

theorem set10 {W : World} {b : Nat} {u0 u1 u2 u3 u4 u5 u6 u7 u8 u9 : Value} {t : TypeId} (h : Blk W b #[u0, u1, u2, u3, u4, u5, u6, u7, u8, u9] t) (v0 v1 v2 v3 v4 v5 v6 v7 v8 v9 : Value) : Blk ((((((((((W.setCell ⟨b, 0, none⟩ v0).setCell ⟨b, 1, none⟩ v1).setCell ⟨b, 2, none⟩ v2).setCell ⟨b, 3, none⟩ v3).setCell ⟨b, 4, none⟩ v4).setCell ⟨b, 5, none⟩ v5).setCell ⟨b, 6, none⟩ v6).setCell ⟨b, 7, none⟩ v7).setCell ⟨b, 8, none⟩ v8).setCell ⟨b, 9, none⟩ v9) b #[v0, v1, v2, v3, v4, v5, v6, v7, v8, v9] t := by
  have h0 : Blk (W.setCell ⟨b, 0, none⟩ v0) b #[v0, u1, u2, u3, u4, u5, u6, u7, u8, u9] t := h.set 0 v0
  have h1 : Blk ((W.setCell ⟨b, 0, none⟩ v0).setCell ⟨b, 1, none⟩ v1) b #[v0, v1, u2, u3, u4, u5, u6, u7, u8, u9] t := h0.set 1 v1
  have h2 : Blk (((W.setCell ⟨b, 0, none⟩ v0).setCell ⟨b, 1, none⟩ v1).setCell ⟨b, 2, none⟩ v2) b #[v0, v1, v2, u3, u4, u5, u6, u7, u8, u9] t := h1.set 2 v2
  have h3 : Blk ((((W.setCell ⟨b, 0, none⟩ v0).setCell ⟨b, 1, none⟩ v1).setCell ⟨b, 2, none⟩ v2).setCell ⟨b, 3, none⟩ v3) b #[v0, v1, v2, v3, u4, u5, u6, u7, u8, u9] t := h2.set 3 v3
  have h4 : Blk (((((W.setCell ⟨b, 0, none⟩ v0).setCell ⟨b, 1, none⟩ v1).setCell ⟨b, 2, none⟩ v2).setCell ⟨b, 3, none⟩ v3).setCell ⟨b, 4, none⟩ v4) b #[v0, v1, v2, v3, v4, u5, u6, u7, u8, u9] t := h3.set 4 v4
  have h5 : Blk ((((((W.setCell ⟨b, 0, none⟩ v0).setCell ⟨b, 1, none⟩ v1).setCell ⟨b, 2, none⟩ v2).setCell ⟨b, 3, none⟩ v3).setCell ⟨b, 4, none⟩ v4).setCell ⟨b, 5, none⟩ v5) b #[v0, v1, v2, v3, v4, v5, u6, u7, u8, u9] t := h4.set 5 v5
  have h6 : Blk (((((((W.setCell ⟨b, 0, none⟩ v0).setCell ⟨b, 1, none⟩ v1).setCell ⟨b, 2, none⟩ v2).setCell ⟨b, 3, none⟩ v3).setCell ⟨b, 4, none⟩ v4).setCell ⟨b, 5, none⟩ v5).setCell ⟨b, 6, none⟩ v6) b #[v0, v1, v2, v3, v4, v5, v6, u7, u8, u9] t := h5.set 6 v6
  have h7 : Blk ((((((((W.setCell ⟨b, 0, none⟩ v0).setCell ⟨b, 1, none⟩ v1).setCell ⟨b, 2, none⟩ v2).setCell ⟨b, 3, none⟩ v3).setCell ⟨b, 4, none⟩ v4).setCell ⟨b, 5, none⟩ v5).setCell ⟨b, 6, none⟩ v6).setCell ⟨b, 7, none⟩ v7) b #[v0, v1, v2, v3, v4, v5, v6, v7, u8, u9] t := h6.set 7 v7
  have h8 : Blk (((((((((W.setCell ⟨b, 0, none⟩ v0).setCell ⟨b, 1, none⟩ v1).setCell ⟨b, 2, none⟩ v2).setCell ⟨b, 3, none⟩ v3).setCell ⟨b, 4, none⟩ v4).setCell ⟨b, 5, none⟩ v5).setCell ⟨b, 6, none⟩ v6).setCell ⟨b, 7, none⟩ v7).setCell ⟨b, 8, none⟩ v8) b #[v0, v1, v2, v3, v4, v5, v6, v7, v8, u9] t := h7.set 8 v8
  have h9 : Blk ((((((((((W.setCell ⟨b, 0, none⟩ v0).setCell ⟨b, 1, none⟩ v1).setCell ⟨b, 2, none⟩ v2).setCell ⟨b, 3, none⟩ v3).setCell ⟨b, 4, none⟩ v4).setCell ⟨b, 5, none⟩ v5).setCell ⟨b, 6, none⟩ v6).setCell ⟨b, 7, none⟩ v7).setCell ⟨b, 8, none⟩ v8).setCell ⟨b, 9, none⟩ v9) b #[v0, v1, v2, v3, v4, v5, v6, v7, v8, v9] t := h8.set 9 v9
  exact h9
/-- Ten stores into a longer block. -/
theorem set10X {W : World} {g p : Nat} {cs : Array Value} {t : TypeId} (h : Blk W g cs t) (v0 v1 v2 v3 v4 v5 v6 v7 v8 v9 : Value) :
    ∃ cs', Blk ((((((((((W.setCell ⟨g, p, none⟩ v0).setCell ⟨g, p + 1, none⟩ v1).setCell ⟨g, p + 2, none⟩ v2).setCell ⟨g, p + 3, none⟩ v3).setCell ⟨g, p + 4, none⟩ v4).setCell ⟨g, p + 5, none⟩ v5).setCell ⟨g, p + 6, none⟩ v6).setCell ⟨g, p + 7, none⟩ v7).setCell ⟨g, p + 8, none⟩ v8).setCell ⟨g, p + 9, none⟩ v9) g cs' t ∧ cs'.size = cs.size ∧ (∀ q, q < p ∨ p + 10 ≤ q → cs'[q]? = cs[q]?) ∧ (p + 10 ≤ cs.size → ∀ j v, (#[v0, v1, v2, v3, v4, v5, v6, v7, v8, v9] : Array Value)[j]? = some v → cs'[p + j]? = some v) := by
  refine ⟨((((((((((cs.setIfInBounds p v0).setIfInBounds (p + 1) v1).setIfInBounds (p + 2) v2).setIfInBounds (p + 3) v3).setIfInBounds (p + 4) v4).setIfInBounds (p + 5) v5).setIfInBounds (p + 6) v6).setIfInBounds (p + 7) v7).setIfInBounds (p + 8) v8).setIfInBounds (p + 9) v9), ((((((((((h.set p v0).set (p + 1) v1).set (p + 2) v2).set (p + 3) v3).set (p + 4) v4).set (p + 5) v5).set (p + 6) v6).set (p + 7) v7).set (p + 8) v8).set (p + 9) v9), by simp, fun q hq => ?_, fun hs j v hv => ?_⟩
  · simp only [Array.getElem?_setIfInBounds]
    repeat (rw [if_neg (by omega)])
  · have hj : j < 10 := by
      have := (Array.getElem?_eq_some_iff.1 hv).1
      simpa using this
    have hc : j = 0 ∨ j = 1 ∨ j = 2 ∨ j = 3 ∨ j = 4 ∨ j = 5 ∨ j = 6 ∨ j = 7 ∨ j = 8 ∨ j = 9 := by omega
    simp only [Array.getElem?_setIfInBounds, Array.size_setIfInBounds]
    rcases hc with rfl | rfl | rfl | rfl | rfl | rfl | rfl | rfl | rfl | rfl
    all_goals
      have e : _ = v := Option.some.inj hv
      subst e
      repeat (first | rw [if_pos (by omega)] | rw [if_neg (by omega)])
      try simp
      try omega
theorem below10X {B g : Nat} {w W : World} (h : Below B w W) (hb : B ≤ g) (p : Nat) (v0 v1 v2 v3 v4 v5 v6 v7 v8 v9 : Value) : Below B w ((((((((((W.setCell ⟨g, p, none⟩ v0).setCell ⟨g, p + 1, none⟩ v1).setCell ⟨g, p + 2, none⟩ v2).setCell ⟨g, p + 3, none⟩ v3).setCell ⟨g, p + 4, none⟩ v4).setCell ⟨g, p + 5, none⟩ v5).setCell ⟨g, p + 6, none⟩ v6).setCell ⟨g, p + 7, none⟩ v7).setCell ⟨g, p + 8, none⟩ v8).setCell ⟨g, p + 9, none⟩ v9) := ((((((((((h.setCell (p := ⟨g, p, none⟩) hb v0).setCell (p := ⟨g, p + 1, none⟩) hb v1).setCell (p := ⟨g, p + 2, none⟩) hb v2).setCell (p := ⟨g, p + 3, none⟩) hb v3).setCell (p := ⟨g, p + 4, none⟩) hb v4).setCell (p := ⟨g, p + 5, none⟩) hb v5).setCell (p := ⟨g, p + 6, none⟩) hb v6).setCell (p := ⟨g, p + 7, none⟩) hb v7).setCell (p := ⟨g, p + 8, none⟩) hb v8).setCell (p := ⟨g, p + 9, none⟩) hb v9)
/-- The writes that stand in a row of so many, from the k-th on. -/
def WrP (W : World) (g n k : Nat) (l : List Ln) : Prop := ∃ cs, Blk W g cs 55 ∧ cs.size = n * 10 ∧ ∀ i x, k ≤ i → l[i]? = some x → ∀ j v, x.w.cells[j]? = some v → cs[i * 10 + j]? = some v
theorem run_makeW (W : World) (n : Nat) (hn : n ≤ 1000000) :
    (Instr.makeSlice 24 (.int .i64 (n : Int)) (.int .i64 (n : Int))).run Tryz.prog W = .ok (.slice (some ⟨W.heap.size, 0, none⟩) n n) (W.alloc (.cells (madeCells (wrI 0 0 0 ⟨#[]⟩ 0 0 ⟨#[]⟩ 0 0 ⟨#[]⟩) (n * 10)) 55)) := by
  obtain ⟨i0, hi0, hz0, hz1, hz2⟩ := info_parts wr_info
  have h := run_make W 24 55 i0 (.agg (wrI 0 0 0 ⟨#[]⟩ 0 0 ⟨#[]⟩ 0 0 ⟨#[]⟩)) Tryz.underlying24 hi0 hz0 .i64 .i64 (n : Int) (n : Int) (by omega) (Int.le_refl _) (by rw [hz2]; omega) (by omega)
  rw [Int.toNat_natCast, hz1] at h
  exact h

theorem cs_at {W : World} {g p : Nat} {cs : Array Value} {t : TypeId} (h : Blk W g cs t) (hp : p < cs.size) : ∃ u, W.cell? ⟨g, p, none⟩ = some u := ⟨cs[p], by rw [h.cell p]; exact Array.getElem?_eq_getElem hp⟩
theorem wr_next {l : List Ln} {k : Nat} {x : Ln} {cs cs' : Array Value} (hA : ∀ i y, i < k → l[i]? = some y → ∀ j v, y.w.cells[j]? = some v → cs[i * 10 + j]? = some v) (hx : l[k]? = some x) (h1 : ∀ q, q < k * 10 ∨ k * 10 + 10 ≤ q → cs'[q]? = cs[q]?) (h2 : ∀ j v, x.w.cells[j]? = some v → cs'[k * 10 + j]? = some v) :
    ∀ i y, i < k + 1 → l[i]? = some y → ∀ j v, y.w.cells[j]? = some v → cs'[i * 10 + j]? = some v := by
  intro i y hi hy j v hv
  have hj : j < 10 := by
    have := (Array.getElem?_eq_some_iff.1 hv).1
    simpa using this
  by_cases e : i = k
  · subst e
    rw [hx] at hy
    injection hy with hy
    subst hy
    exact h2 j v hv
  · rw [h1 _ (.inl (by omega))]
    exact hA i y (by omega) hy j v hv
end Go.Proofs.YtfpfalgbkbmkeaaGreatDoor
