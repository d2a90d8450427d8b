/-
  WHAT IS PROVED: letter.Good tells what the chapter says (goodLt). Conditions: those typed in each theorem.
-/
import Derived.Test.YtpjleeeligahaaaGreatDoorGQ12
namespace Go.Proofs.YtpjleeeligahaaaGreatDoor
open Go.RowKit

theorem un_l1 {x : Lt} {h : Hn} (e : x.re.length = h.n1) : (unU x).re.length = (unH x.k h).n1 := by
  unfold unU unH
  split
  · first | exact e | rfl
  · split
    · first | exact e | rfl
    · split
      · first | exact e | rfl
      · exact e
theorem un_l2 {x : Lt} {h : Hn} (e : x.ws.length = h.n2) : (unU x).ws.length = (unH x.k h).n2 := by
  unfold unU unH
  split
  · first | exact e | rfl
  · split
    · first | exact e | rfl
    · split
      · first | exact e | rfl
      · exact e
theorem un_l3 {x : Lt} {h : Hn} (e : x.ls.length = h.n3) : (unU x).ls.length = (unH x.k h).n3 := by
  unfold unU unH
  split
  · first | exact e | rfl
  · split
    · first | exact e | rfl
    · split
      · first | exact e | rfl
      · exact e
theorem un_l4 {x : Lt} {h : Hn} (e : x.cs.length = h.n4) : (unU x).cs.length = (unH x.k h).n4 := by
  unfold unU unH
  split
  · first | exact e | rfl
  · split
    · first | exact e | rfl
    · split
      · first | exact e | rfl
      · exact e
theorem enters_unused : ∀ args w, (callFunc 46 args).run Tryz.prog w = .ok (.enter 46 args) w := enters_of Tryz.func46 (by kernel_rfl) rfl

set_option maxRecDepth 100000 in
set_option maxHeartbeats 4000000 in
theorem ltGood_any {B : Nat} (x : Lt) (h : Hn) (w : World) (hr : LtR B w x h) (hrB : B ≤ w.heap.size) (hf : LtF x) : Calls Tryz.prog 17 #[.agg (ltI x h)] w fun e w' => e = .returned (.bool (goodLt x)) ∧ Below w.heap.size w w' := by
  go_enter Tryz.func17, Tryz.ntmps17
  go_upto_region 1 with fail
  have hX := blk_new w (ltI x h) 58
  have hB := b0 w (.cells (ltI x h) 58)
  have hR := hr.keep hB hrB
  generalize w.alloc (.cells (ltI x h) 58) = W at hX hB hR ⊢
  generalize hb : w.heap.size = b at hX hB ⊢
  have HX := Lib.hid hX
  have HR := Lib.hid hR
  have HF := Lib.hid hf
  have HBB := Lib.hid (Nat.le_trans hrB (Nat.le_of_eq hb))
  have q0 : W.cell? ⟨b, 0, none⟩ = some (.int .i64 x.k) := hX.cell 0
  clear hX hR hr hf
  by_cases k3 : x.k = 3
  · rw [k3] at q0
    go_upto_region 6 with fail
    refine wp_region_lit ?_
    refine fl_start ?_
    generalize ha : Act.mk _ _ = a0
    have hn : a0.tmps.size = 48 := by rw [← ha]; kernel_rfl
    have h1 : (fr a0 []).eval (.tmp 1) = .pointer (some ⟨b, 0, none⟩) := by rw [← ha]; kernel_rfl
    refine fl_know hn rfl h1 ?_
    clear h1
    repeat first | refine g_mv hn ?_ | refine g_as hn ?_ | refine g_fdL hn ?_ | refine g_ldL hn HX.out ?_ | refine g_ldA hn HX.out ?_ | refine g_fd hn ?_ | refine g_ld hn ?_ | refine g_nc hn ?_ | refine g_nt hn ?_ | refine g_an hn ?_ | refine g_or hn ?_ | refine g_ln hn ?_ | refine g_ex hn ?_ | refine g_neq2 hn ?_ | refine g_neq hn ?_ | refine g_eql2 hn ?_ | refine g_eql hn ?_ | refine g_leq2 hn ?_ | refine g_leq hn ?_ | refine g_lss2 hn ?_ | refine g_lss hn ?_ | refine g_gtr2 hn ?_ | refine g_gtr hn ?_ | refine g_geq2 hn ?_ | refine g_geq hn ?_ | refine g_b0 hn ?_ | refine g_bn hn ?_ | refine g_bc hn ?_ | refine g_cv hn ?_ | refine g_ac hn ?_ | refine g_mc hn ?_
    refine g_c1w enters_spans hn (spans_any x h _ HR.out (Nat.le_trans HBB.out (Nat.le_of_lt HX.out.lt)) HF.out) ?_
    intro w2 hb2
    replace hB := bnx hB HX.out hb2
    replace HR := Lib.hid (HR.out.keep hb2 (Nat.le_trans HBB.out (Nat.le_of_lt HX.out.lt)))
    replace HX := Lib.hid (HX.out.keep hb2)
    repeat first | refine g_mv hn ?_ | refine g_as hn ?_ | refine g_fdL hn ?_ | refine g_ldL hn HX.out ?_ | refine g_ldA hn HX.out ?_ | refine g_fd hn ?_ | refine g_ld hn ?_ | refine g_nc hn ?_ | refine g_nt hn ?_ | refine g_an hn ?_ | refine g_or hn ?_ | refine g_ln hn ?_ | refine g_ex hn ?_ | refine g_neq2 hn ?_ | refine g_neq hn ?_ | refine g_eql2 hn ?_ | refine g_eql hn ?_ | refine g_leq2 hn ?_ | refine g_leq hn ?_ | refine g_lss2 hn ?_ | refine g_lss hn ?_ | refine g_gtr2 hn ?_ | refine g_gtr hn ?_ | refine g_geq2 hn ?_ | refine g_geq hn ?_ | refine g_b0 hn ?_ | refine g_bn hn ?_ | refine g_bc hn ?_ | refine g_cv hn ?_ | refine g_ac hn ?_ | refine g_mc hn ?_
    refine g_c1w enters_snapped hn (snapped_any x h _ HR.out.l4) ?_
    intro w3 hb3
    replace hB := bnx hB HX.out hb3
    replace HR := Lib.hid (HR.out.keep hb3 (Nat.le_trans HBB.out (Nat.le_of_lt HX.out.lt)))
    replace HX := Lib.hid (HX.out.keep hb3)
    repeat first | refine g_mv hn ?_ | refine g_as hn ?_ | refine g_fdL hn ?_ | refine g_ldL hn HX.out ?_ | refine g_ldA hn HX.out ?_ | refine g_fd hn ?_ | refine g_ld hn ?_ | refine g_nc hn ?_ | refine g_nt hn ?_ | refine g_an hn ?_ | refine g_or hn ?_ | refine g_ln hn ?_ | refine g_ex hn ?_ | refine g_neq2 hn ?_ | refine g_neq hn ?_ | refine g_eql2 hn ?_ | refine g_eql hn ?_ | refine g_leq2 hn ?_ | refine g_leq hn ?_ | refine g_lss2 hn ?_ | refine g_lss hn ?_ | refine g_gtr2 hn ?_ | refine g_gtr hn ?_ | refine g_geq2 hn ?_ | refine g_geq hn ?_ | refine g_b0 hn ?_ | refine g_bn hn ?_ | refine g_bc hn ?_ | refine g_cv hn ?_ | refine g_ac hn ?_ | refine g_mc hn ?_
    refine fl_endb (c := !(spansB x && (x.sn || !snapB x))) (by cases spansB x <;> cases x.sn <;> cases snapB x <;> rfl) ?_
    clear hn 
    subst ha
    dsimp only [fr, cnd, Act.put, cond_true]
    simp only [List.setIfInBounds_toArray, List.set_cons_zero, List.set_cons_succ]
    cases hc : spansB x && (x.sn || !snapB x) with
    | false =>
      have R : Hid (goodLt x = false) := by
        show _ = _
        rw [← code_is]
        unfold codeB
        rw [hc, k3]
        rfl
      clear hc
      go_wp2_with fail
      go_ret
      exact ⟨ret_bool R.out.symm, by rw [hb]; exact hB⟩
    | true =>
      have HC := Lib.hid hc
      clear hc
      go_upto_region 8 with fail
      refine wp_region_lit ?_
      refine fl_start ?_
      generalize ha : Act.mk _ _ = a0
      have hn : a0.tmps.size = 48 := by rw [← ha]; kernel_rfl
      have h1 : (fr a0 []).eval (.tmp 1) = .pointer (some ⟨b, 0, none⟩) := by rw [← ha]; kernel_rfl
      refine fl_know hn rfl h1 ?_
      clear h1
      repeat first | refine g_mv hn ?_ | refine g_as hn ?_ | refine g_fdL hn ?_ | refine g_ldL hn HX.out ?_ | refine g_ldA hn HX.out ?_ | refine g_fd hn ?_ | refine g_ld hn ?_ | refine g_nc hn ?_ | refine g_nt hn ?_ | refine g_an hn ?_ | refine g_or hn ?_ | refine g_ln hn ?_ | refine g_ex hn ?_ | refine g_neq2 hn ?_ | refine g_neq hn ?_ | refine g_eql2 hn ?_ | refine g_eql hn ?_ | refine g_leq2 hn ?_ | refine g_leq hn ?_ | refine g_lss2 hn ?_ | refine g_lss hn ?_ | refine g_gtr2 hn ?_ | refine g_gtr hn ?_ | refine g_geq2 hn ?_ | refine g_geq hn ?_ | refine g_b0 hn ?_ | refine g_bn hn ?_ | refine g_bc hn ?_ | refine g_cv hn ?_ | refine g_ac hn ?_ | refine g_mc hn ?_
      refine g_c1w enters_goodNumbers hn (goodNumbers_any x h _) ?_
      intro w2 hb2
      replace hB := bnx hB HX.out hb2
      replace HR := Lib.hid (HR.out.keep hb2 (Nat.le_trans HBB.out (Nat.le_of_lt HX.out.lt)))
      replace HX := Lib.hid (HX.out.keep hb2)
      repeat first | refine g_mv hn ?_ | refine g_as hn ?_ | refine g_fdL hn ?_ | refine g_ldL hn HX.out ?_ | refine g_ldA hn HX.out ?_ | refine g_fd hn ?_ | refine g_ld hn ?_ | refine g_nc hn ?_ | refine g_nt hn ?_ | refine g_an hn ?_ | refine g_or hn ?_ | refine g_ln hn ?_ | refine g_ex hn ?_ | refine g_neq2 hn ?_ | refine g_neq hn ?_ | refine g_eql2 hn ?_ | refine g_eql hn ?_ | refine g_leq2 hn ?_ | refine g_leq hn ?_ | refine g_lss2 hn ?_ | refine g_lss hn ?_ | refine g_gtr2 hn ?_ | refine g_gtr hn ?_ | refine g_geq2 hn ?_ | refine g_geq hn ?_ | refine g_b0 hn ?_ | refine g_bn hn ?_ | refine g_bc hn ?_ | refine g_cv hn ?_ | refine g_ac hn ?_ | refine g_mc hn ?_
      refine g_c1w enters_goodLists hn (goodLists_any x h _ HR.out (Nat.le_trans HBB.out (Nat.le_of_lt HX.out.lt)) HF.out) ?_
      intro w3 hb3
      replace hB := bnx hB HX.out hb3
      replace HR := Lib.hid (HR.out.keep hb3 (Nat.le_trans HBB.out (Nat.le_of_lt HX.out.lt)))
      replace HX := Lib.hid (HX.out.keep hb3)
      repeat first | refine g_mv hn ?_ | refine g_as hn ?_ | refine g_fdL hn ?_ | refine g_ldL hn HX.out ?_ | refine g_ldA hn HX.out ?_ | refine g_fd hn ?_ | refine g_ld hn ?_ | refine g_nc hn ?_ | refine g_nt hn ?_ | refine g_an hn ?_ | refine g_or hn ?_ | refine g_ln hn ?_ | refine g_ex hn ?_ | refine g_neq2 hn ?_ | refine g_neq hn ?_ | refine g_eql2 hn ?_ | refine g_eql hn ?_ | refine g_leq2 hn ?_ | refine g_leq hn ?_ | refine g_lss2 hn ?_ | refine g_lss hn ?_ | refine g_gtr2 hn ?_ | refine g_gtr hn ?_ | refine g_geq2 hn ?_ | refine g_geq hn ?_ | refine g_b0 hn ?_ | refine g_bn hn ?_ | refine g_bc hn ?_ | refine g_cv hn ?_ | refine g_ac hn ?_ | refine g_mc hn ?_
      refine g_c1w enters_unused hn (unused_any x h _) ?_
      intro w4 hb4
      replace hB := bnx hB HX.out hb4
      replace HR := Lib.hid (HR.out.keep hb4 (Nat.le_trans HBB.out (Nat.le_of_lt HX.out.lt)))
      replace HX := Lib.hid (HX.out.keep hb4)
      repeat first | refine g_mv hn ?_ | refine g_as hn ?_ | refine g_fdL hn ?_ | refine g_ldL hn HX.out ?_ | refine g_ldA hn HX.out ?_ | refine g_fd hn ?_ | refine g_ld hn ?_ | refine g_nc hn ?_ | refine g_nt hn ?_ | refine g_an hn ?_ | refine g_or hn ?_ | refine g_ln hn ?_ | refine g_ex hn ?_ | refine g_neq2 hn ?_ | refine g_neq hn ?_ | refine g_eql2 hn ?_ | refine g_eql hn ?_ | refine g_leq2 hn ?_ | refine g_leq hn ?_ | refine g_lss2 hn ?_ | refine g_lss hn ?_ | refine g_gtr2 hn ?_ | refine g_gtr hn ?_ | refine g_geq2 hn ?_ | refine g_geq hn ?_ | refine g_b0 hn ?_ | refine g_bn hn ?_ | refine g_bc hn ?_ | refine g_cv hn ?_ | refine g_ac hn ?_ | refine g_mc hn ?_
      refine g_c1w enters_blank hn (blank_any (unU x) (unH x.k h) _ (un_l1 HR.out.l1) (un_l2 HR.out.l2) (un_l3 HR.out.l3) (un_l4 HR.out.l4)) ?_
      intro w5 hb5
      replace hB := bnx hB HX.out hb5
      replace HR := Lib.hid (HR.out.keep hb5 (Nat.le_trans HBB.out (Nat.le_of_lt HX.out.lt)))
      replace HX := Lib.hid (HX.out.keep hb5)
      repeat first | refine g_mv hn ?_ | refine g_as hn ?_ | refine g_fdL hn ?_ | refine g_ldL hn HX.out ?_ | refine g_ldA hn HX.out ?_ | refine g_fd hn ?_ | refine g_ld hn ?_ | refine g_nc hn ?_ | refine g_nt hn ?_ | refine g_an hn ?_ | refine g_or hn ?_ | refine g_ln hn ?_ | refine g_ex hn ?_ | refine g_neq2 hn ?_ | refine g_neq hn ?_ | refine g_eql2 hn ?_ | refine g_eql hn ?_ | refine g_leq2 hn ?_ | refine g_leq hn ?_ | refine g_lss2 hn ?_ | refine g_lss hn ?_ | refine g_gtr2 hn ?_ | refine g_gtr hn ?_ | refine g_geq2 hn ?_ | refine g_geq hn ?_ | refine g_b0 hn ?_ | refine g_bn hn ?_ | refine g_bc hn ?_ | refine g_cv hn ?_ | refine g_ac hn ?_ | refine g_mc hn ?_
      refine fl_endb (c := goodLt x) (by rw [← code_is]; unfold codeB; rw [HC.out, k3]; rfl) ?_
      clear hn 
      subst ha
      dsimp only [fr, cnd, Act.put, cond_true]
      simp only [List.setIfInBounds_toArray, List.set_cons_zero, List.set_cons_succ]
      go_wp2_with fail
      go_ret
      exact ⟨rfl, by rw [hb]; exact hB⟩
  · have i3 : (x.k == 3) = false := by simpa using k3
    have n3 : (x.k != 3) = true := by simpa using k3
    by_cases k1 : x.k = 1
    · rw [k1] at q0
      go_upto_region 8 with fail
      refine wp_region_lit ?_
      refine fl_start ?_
      generalize ha : Act.mk _ _ = a0
      have hn : a0.tmps.size = 48 := by rw [← ha]; kernel_rfl
      have h1 : (fr a0 []).eval (.tmp 1) = .pointer (some ⟨b, 0, none⟩) := by rw [← ha]; kernel_rfl
      refine fl_know hn rfl h1 ?_
      clear h1
      repeat first | refine g_mv hn ?_ | refine g_as hn ?_ | refine g_fdL hn ?_ | refine g_ldL hn HX.out ?_ | refine g_ldA hn HX.out ?_ | refine g_fd hn ?_ | refine g_ld hn ?_ | refine g_nc hn ?_ | refine g_nt hn ?_ | refine g_an hn ?_ | refine g_or hn ?_ | refine g_ln hn ?_ | refine g_ex hn ?_ | refine g_neq2 hn ?_ | refine g_neq hn ?_ | refine g_eql2 hn ?_ | refine g_eql hn ?_ | refine g_leq2 hn ?_ | refine g_leq hn ?_ | refine g_lss2 hn ?_ | refine g_lss hn ?_ | refine g_gtr2 hn ?_ | refine g_gtr hn ?_ | refine g_geq2 hn ?_ | refine g_geq hn ?_ | refine g_b0 hn ?_ | refine g_bn hn ?_ | refine g_bc hn ?_ | refine g_cv hn ?_ | refine g_ac hn ?_ | refine g_mc hn ?_
      refine g_c1w enters_goodNumbers hn (goodNumbers_any x h _) ?_
      intro w2 hb2
      replace hB := bnx hB HX.out hb2
      replace HR := Lib.hid (HR.out.keep hb2 (Nat.le_trans HBB.out (Nat.le_of_lt HX.out.lt)))
      replace HX := Lib.hid (HX.out.keep hb2)
      repeat first | refine g_mv hn ?_ | refine g_as hn ?_ | refine g_fdL hn ?_ | refine g_ldL hn HX.out ?_ | refine g_ldA hn HX.out ?_ | refine g_fd hn ?_ | refine g_ld hn ?_ | refine g_nc hn ?_ | refine g_nt hn ?_ | refine g_an hn ?_ | refine g_or hn ?_ | refine g_ln hn ?_ | refine g_ex hn ?_ | refine g_neq2 hn ?_ | refine g_neq hn ?_ | refine g_eql2 hn ?_ | refine g_eql hn ?_ | refine g_leq2 hn ?_ | refine g_leq hn ?_ | refine g_lss2 hn ?_ | refine g_lss hn ?_ | refine g_gtr2 hn ?_ | refine g_gtr hn ?_ | refine g_geq2 hn ?_ | refine g_geq hn ?_ | refine g_b0 hn ?_ | refine g_bn hn ?_ | refine g_bc hn ?_ | refine g_cv hn ?_ | refine g_ac hn ?_ | refine g_mc hn ?_
      refine g_c1w enters_goodLists hn (goodLists_any x h _ HR.out (Nat.le_trans HBB.out (Nat.le_of_lt HX.out.lt)) HF.out) ?_
      intro w3 hb3
      replace hB := bnx hB HX.out hb3
      replace HR := Lib.hid (HR.out.keep hb3 (Nat.le_trans HBB.out (Nat.le_of_lt HX.out.lt)))
      replace HX := Lib.hid (HX.out.keep hb3)
      repeat first | refine g_mv hn ?_ | refine g_as hn ?_ | refine g_fdL hn ?_ | refine g_ldL hn HX.out ?_ | refine g_ldA hn HX.out ?_ | refine g_fd hn ?_ | refine g_ld hn ?_ | refine g_nc hn ?_ | refine g_nt hn ?_ | refine g_an hn ?_ | refine g_or hn ?_ | refine g_ln hn ?_ | refine g_ex hn ?_ | refine g_neq2 hn ?_ | refine g_neq hn ?_ | refine g_eql2 hn ?_ | refine g_eql hn ?_ | refine g_leq2 hn ?_ | refine g_leq hn ?_ | refine g_lss2 hn ?_ | refine g_lss hn ?_ | refine g_gtr2 hn ?_ | refine g_gtr hn ?_ | refine g_geq2 hn ?_ | refine g_geq hn ?_ | refine g_b0 hn ?_ | refine g_bn hn ?_ | refine g_bc hn ?_ | refine g_cv hn ?_ | refine g_ac hn ?_ | refine g_mc hn ?_
      refine g_c1w enters_unused hn (unused_any x h _) ?_
      intro w4 hb4
      replace hB := bnx hB HX.out hb4
      replace HR := Lib.hid (HR.out.keep hb4 (Nat.le_trans HBB.out (Nat.le_of_lt HX.out.lt)))
      replace HX := Lib.hid (HX.out.keep hb4)
      repeat first | refine g_mv hn ?_ | refine g_as hn ?_ | refine g_fdL hn ?_ | refine g_ldL hn HX.out ?_ | refine g_ldA hn HX.out ?_ | refine g_fd hn ?_ | refine g_ld hn ?_ | refine g_nc hn ?_ | refine g_nt hn ?_ | refine g_an hn ?_ | refine g_or hn ?_ | refine g_ln hn ?_ | refine g_ex hn ?_ | refine g_neq2 hn ?_ | refine g_neq hn ?_ | refine g_eql2 hn ?_ | refine g_eql hn ?_ | refine g_leq2 hn ?_ | refine g_leq hn ?_ | refine g_lss2 hn ?_ | refine g_lss hn ?_ | refine g_gtr2 hn ?_ | refine g_gtr hn ?_ | refine g_geq2 hn ?_ | refine g_geq hn ?_ | refine g_b0 hn ?_ | refine g_bn hn ?_ | refine g_bc hn ?_ | refine g_cv hn ?_ | refine g_ac hn ?_ | refine g_mc hn ?_
      refine g_c1w enters_blank hn (blank_any (unU x) (unH x.k h) _ (un_l1 HR.out.l1) (un_l2 HR.out.l2) (un_l3 HR.out.l3) (un_l4 HR.out.l4)) ?_
      intro w5 hb5
      replace hB := bnx hB HX.out hb5
      replace HR := Lib.hid (HR.out.keep hb5 (Nat.le_trans HBB.out (Nat.le_of_lt HX.out.lt)))
      replace HX := Lib.hid (HX.out.keep hb5)
      repeat first | refine g_mv hn ?_ | refine g_as hn ?_ | refine g_fdL hn ?_ | refine g_ldL hn HX.out ?_ | refine g_ldA hn HX.out ?_ | refine g_fd hn ?_ | refine g_ld hn ?_ | refine g_nc hn ?_ | refine g_nt hn ?_ | refine g_an hn ?_ | refine g_or hn ?_ | refine g_ln hn ?_ | refine g_ex hn ?_ | refine g_neq2 hn ?_ | refine g_neq hn ?_ | refine g_eql2 hn ?_ | refine g_eql hn ?_ | refine g_leq2 hn ?_ | refine g_leq hn ?_ | refine g_lss2 hn ?_ | refine g_lss hn ?_ | refine g_gtr2 hn ?_ | refine g_gtr hn ?_ | refine g_geq2 hn ?_ | refine g_geq hn ?_ | refine g_b0 hn ?_ | refine g_bn hn ?_ | refine g_bc hn ?_ | refine g_cv hn ?_ | refine g_ac hn ?_ | refine g_mc hn ?_
      refine fl_endb (c := goodLt x) (by rw [← code_is]; unfold codeB; rw [k1]; rfl) ?_
      clear hn 
      subst ha
      dsimp only [fr, cnd, Act.put, cond_true]
      simp only [List.setIfInBounds_toArray, List.set_cons_zero, List.set_cons_succ]
      go_wp2_with fail
      go_ret
      exact ⟨rfl, by rw [hb]; exact hB⟩
    · by_cases k2 : x.k = 2
      · rw [k2] at q0
        go_upto_region 8 with fail
        refine wp_region_lit ?_
        refine fl_start ?_
        generalize ha : Act.mk _ _ = a0
        have hn : a0.tmps.size = 48 := by rw [← ha]; kernel_rfl
        have h1 : (fr a0 []).eval (.tmp 1) = .pointer (some ⟨b, 0, none⟩) := by rw [← ha]; kernel_rfl
        refine fl_know hn rfl h1 ?_
        clear h1
        repeat first | refine g_mv hn ?_ | refine g_as hn ?_ | refine g_fdL hn ?_ | refine g_ldL hn HX.out ?_ | refine g_ldA hn HX.out ?_ | refine g_fd hn ?_ | refine g_ld hn ?_ | refine g_nc hn ?_ | refine g_nt hn ?_ | refine g_an hn ?_ | refine g_or hn ?_ | refine g_ln hn ?_ | refine g_ex hn ?_ | refine g_neq2 hn ?_ | refine g_neq hn ?_ | refine g_eql2 hn ?_ | refine g_eql hn ?_ | refine g_leq2 hn ?_ | refine g_leq hn ?_ | refine g_lss2 hn ?_ | refine g_lss hn ?_ | refine g_gtr2 hn ?_ | refine g_gtr hn ?_ | refine g_geq2 hn ?_ | refine g_geq hn ?_ | refine g_b0 hn ?_ | refine g_bn hn ?_ | refine g_bc hn ?_ | refine g_cv hn ?_ | refine g_ac hn ?_ | refine g_mc hn ?_
        refine g_c1w enters_goodNumbers hn (goodNumbers_any x h _) ?_
        intro w2 hb2
        replace hB := bnx hB HX.out hb2
        replace HR := Lib.hid (HR.out.keep hb2 (Nat.le_trans HBB.out (Nat.le_of_lt HX.out.lt)))
        replace HX := Lib.hid (HX.out.keep hb2)
        repeat first | refine g_mv hn ?_ | refine g_as hn ?_ | refine g_fdL hn ?_ | refine g_ldL hn HX.out ?_ | refine g_ldA hn HX.out ?_ | refine g_fd hn ?_ | refine g_ld hn ?_ | refine g_nc hn ?_ | refine g_nt hn ?_ | refine g_an hn ?_ | refine g_or hn ?_ | refine g_ln hn ?_ | refine g_ex hn ?_ | refine g_neq2 hn ?_ | refine g_neq hn ?_ | refine g_eql2 hn ?_ | refine g_eql hn ?_ | refine g_leq2 hn ?_ | refine g_leq hn ?_ | refine g_lss2 hn ?_ | refine g_lss hn ?_ | refine g_gtr2 hn ?_ | refine g_gtr hn ?_ | refine g_geq2 hn ?_ | refine g_geq hn ?_ | refine g_b0 hn ?_ | refine g_bn hn ?_ | refine g_bc hn ?_ | refine g_cv hn ?_ | refine g_ac hn ?_ | refine g_mc hn ?_
        refine g_c1w enters_goodLists hn (goodLists_any x h _ HR.out (Nat.le_trans HBB.out (Nat.le_of_lt HX.out.lt)) HF.out) ?_
        intro w3 hb3
        replace hB := bnx hB HX.out hb3
        replace HR := Lib.hid (HR.out.keep hb3 (Nat.le_trans HBB.out (Nat.le_of_lt HX.out.lt)))
        replace HX := Lib.hid (HX.out.keep hb3)
        repeat first | refine g_mv hn ?_ | refine g_as hn ?_ | refine g_fdL hn ?_ | refine g_ldL hn HX.out ?_ | refine g_ldA hn HX.out ?_ | refine g_fd hn ?_ | refine g_ld hn ?_ | refine g_nc hn ?_ | refine g_nt hn ?_ | refine g_an hn ?_ | refine g_or hn ?_ | refine g_ln hn ?_ | refine g_ex hn ?_ | refine g_neq2 hn ?_ | refine g_neq hn ?_ | refine g_eql2 hn ?_ | refine g_eql hn ?_ | refine g_leq2 hn ?_ | refine g_leq hn ?_ | refine g_lss2 hn ?_ | refine g_lss hn ?_ | refine g_gtr2 hn ?_ | refine g_gtr hn ?_ | refine g_geq2 hn ?_ | refine g_geq hn ?_ | refine g_b0 hn ?_ | refine g_bn hn ?_ | refine g_bc hn ?_ | refine g_cv hn ?_ | refine g_ac hn ?_ | refine g_mc hn ?_
        refine g_c1w enters_unused hn (unused_any x h _) ?_
        intro w4 hb4
        replace hB := bnx hB HX.out hb4
        replace HR := Lib.hid (HR.out.keep hb4 (Nat.le_trans HBB.out (Nat.le_of_lt HX.out.lt)))
        replace HX := Lib.hid (HX.out.keep hb4)
        repeat first | refine g_mv hn ?_ | refine g_as hn ?_ | refine g_fdL hn ?_ | refine g_ldL hn HX.out ?_ | refine g_ldA hn HX.out ?_ | refine g_fd hn ?_ | refine g_ld hn ?_ | refine g_nc hn ?_ | refine g_nt hn ?_ | refine g_an hn ?_ | refine g_or hn ?_ | refine g_ln hn ?_ | refine g_ex hn ?_ | refine g_neq2 hn ?_ | refine g_neq hn ?_ | refine g_eql2 hn ?_ | refine g_eql hn ?_ | refine g_leq2 hn ?_ | refine g_leq hn ?_ | refine g_lss2 hn ?_ | refine g_lss hn ?_ | refine g_gtr2 hn ?_ | refine g_gtr hn ?_ | refine g_geq2 hn ?_ | refine g_geq hn ?_ | refine g_b0 hn ?_ | refine g_bn hn ?_ | refine g_bc hn ?_ | refine g_cv hn ?_ | refine g_ac hn ?_ | refine g_mc hn ?_
        refine g_c1w enters_blank hn (blank_any (unU x) (unH x.k h) _ (un_l1 HR.out.l1) (un_l2 HR.out.l2) (un_l3 HR.out.l3) (un_l4 HR.out.l4)) ?_
        intro w5 hb5
        replace hB := bnx hB HX.out hb5
        replace HR := Lib.hid (HR.out.keep hb5 (Nat.le_trans HBB.out (Nat.le_of_lt HX.out.lt)))
        replace HX := Lib.hid (HX.out.keep hb5)
        repeat first | refine g_mv hn ?_ | refine g_as hn ?_ | refine g_fdL hn ?_ | refine g_ldL hn HX.out ?_ | refine g_ldA hn HX.out ?_ | refine g_fd hn ?_ | refine g_ld hn ?_ | refine g_nc hn ?_ | refine g_nt hn ?_ | refine g_an hn ?_ | refine g_or hn ?_ | refine g_ln hn ?_ | refine g_ex hn ?_ | refine g_neq2 hn ?_ | refine g_neq hn ?_ | refine g_eql2 hn ?_ | refine g_eql hn ?_ | refine g_leq2 hn ?_ | refine g_leq hn ?_ | refine g_lss2 hn ?_ | refine g_lss hn ?_ | refine g_gtr2 hn ?_ | refine g_gtr hn ?_ | refine g_geq2 hn ?_ | refine g_geq hn ?_ | refine g_b0 hn ?_ | refine g_bn hn ?_ | refine g_bc hn ?_ | refine g_cv hn ?_ | refine g_ac hn ?_ | refine g_mc hn ?_
        refine fl_endb (c := goodLt x) (by rw [← code_is]; unfold codeB; rw [k2]; rfl) ?_
        clear hn 
        subst ha
        dsimp only [fr, cnd, Act.put, cond_true]
        simp only [List.setIfInBounds_toArray, List.set_cons_zero, List.set_cons_succ]
        go_wp2_with fail
        go_ret
        exact ⟨rfl, by rw [hb]; exact hB⟩
      · by_cases k4 : x.k = 4
        · rw [k4] at q0
          go_upto_region 8 with fail
          refine wp_region_lit ?_
          refine fl_start ?_
          generalize ha : Act.mk _ _ = a0
          have hn : a0.tmps.size = 48 := by rw [← ha]; kernel_rfl
          have h1 : (fr a0 []).eval (.tmp 1) = .pointer (some ⟨b, 0, none⟩) := by rw [← ha]; kernel_rfl
          refine fl_know hn rfl h1 ?_
          clear h1
          repeat first | refine g_mv hn ?_ | refine g_as hn ?_ | refine g_fdL hn ?_ | refine g_ldL hn HX.out ?_ | refine g_ldA hn HX.out ?_ | refine g_fd hn ?_ | refine g_ld hn ?_ | refine g_nc hn ?_ | refine g_nt hn ?_ | refine g_an hn ?_ | refine g_or hn ?_ | refine g_ln hn ?_ | refine g_ex hn ?_ | refine g_neq2 hn ?_ | refine g_neq hn ?_ | refine g_eql2 hn ?_ | refine g_eql hn ?_ | refine g_leq2 hn ?_ | refine g_leq hn ?_ | refine g_lss2 hn ?_ | refine g_lss hn ?_ | refine g_gtr2 hn ?_ | refine g_gtr hn ?_ | refine g_geq2 hn ?_ | refine g_geq hn ?_ | refine g_b0 hn ?_ | refine g_bn hn ?_ | refine g_bc hn ?_ | refine g_cv hn ?_ | refine g_ac hn ?_ | refine g_mc hn ?_
          refine g_c1w enters_goodNumbers hn (goodNumbers_any x h _) ?_
          intro w2 hb2
          replace hB := bnx hB HX.out hb2
          replace HR := Lib.hid (HR.out.keep hb2 (Nat.le_trans HBB.out (Nat.le_of_lt HX.out.lt)))
          replace HX := Lib.hid (HX.out.keep hb2)
          repeat first | refine g_mv hn ?_ | refine g_as hn ?_ | refine g_fdL hn ?_ | refine g_ldL hn HX.out ?_ | refine g_ldA hn HX.out ?_ | refine g_fd hn ?_ | refine g_ld hn ?_ | refine g_nc hn ?_ | refine g_nt hn ?_ | refine g_an hn ?_ | refine g_or hn ?_ | refine g_ln hn ?_ | refine g_ex hn ?_ | refine g_neq2 hn ?_ | refine g_neq hn ?_ | refine g_eql2 hn ?_ | refine g_eql hn ?_ | refine g_leq2 hn ?_ | refine g_leq hn ?_ | refine g_lss2 hn ?_ | refine g_lss hn ?_ | refine g_gtr2 hn ?_ | refine g_gtr hn ?_ | refine g_geq2 hn ?_ | refine g_geq hn ?_ | refine g_b0 hn ?_ | refine g_bn hn ?_ | refine g_bc hn ?_ | refine g_cv hn ?_ | refine g_ac hn ?_ | refine g_mc hn ?_
          refine g_c1w enters_goodLists hn (goodLists_any x h _ HR.out (Nat.le_trans HBB.out (Nat.le_of_lt HX.out.lt)) HF.out) ?_
          intro w3 hb3
          replace hB := bnx hB HX.out hb3
          replace HR := Lib.hid (HR.out.keep hb3 (Nat.le_trans HBB.out (Nat.le_of_lt HX.out.lt)))
          replace HX := Lib.hid (HX.out.keep hb3)
          repeat first | refine g_mv hn ?_ | refine g_as hn ?_ | refine g_fdL hn ?_ | refine g_ldL hn HX.out ?_ | refine g_ldA hn HX.out ?_ | refine g_fd hn ?_ | refine g_ld hn ?_ | refine g_nc hn ?_ | refine g_nt hn ?_ | refine g_an hn ?_ | refine g_or hn ?_ | refine g_ln hn ?_ | refine g_ex hn ?_ | refine g_neq2 hn ?_ | refine g_neq hn ?_ | refine g_eql2 hn ?_ | refine g_eql hn ?_ | refine g_leq2 hn ?_ | refine g_leq hn ?_ | refine g_lss2 hn ?_ | refine g_lss hn ?_ | refine g_gtr2 hn ?_ | refine g_gtr hn ?_ | refine g_geq2 hn ?_ | refine g_geq hn ?_ | refine g_b0 hn ?_ | refine g_bn hn ?_ | refine g_bc hn ?_ | refine g_cv hn ?_ | refine g_ac hn ?_ | refine g_mc hn ?_
          refine g_c1w enters_unused hn (unused_any x h _) ?_
          intro w4 hb4
          replace hB := bnx hB HX.out hb4
          replace HR := Lib.hid (HR.out.keep hb4 (Nat.le_trans HBB.out (Nat.le_of_lt HX.out.lt)))
          replace HX := Lib.hid (HX.out.keep hb4)
          repeat first | refine g_mv hn ?_ | refine g_as hn ?_ | refine g_fdL hn ?_ | refine g_ldL hn HX.out ?_ | refine g_ldA hn HX.out ?_ | refine g_fd hn ?_ | refine g_ld hn ?_ | refine g_nc hn ?_ | refine g_nt hn ?_ | refine g_an hn ?_ | refine g_or hn ?_ | refine g_ln hn ?_ | refine g_ex hn ?_ | refine g_neq2 hn ?_ | refine g_neq hn ?_ | refine g_eql2 hn ?_ | refine g_eql hn ?_ | refine g_leq2 hn ?_ | refine g_leq hn ?_ | refine g_lss2 hn ?_ | refine g_lss hn ?_ | refine g_gtr2 hn ?_ | refine g_gtr hn ?_ | refine g_geq2 hn ?_ | refine g_geq hn ?_ | refine g_b0 hn ?_ | refine g_bn hn ?_ | refine g_bc hn ?_ | refine g_cv hn ?_ | refine g_ac hn ?_ | refine g_mc hn ?_
          refine g_c1w enters_blank hn (blank_any (unU x) (unH x.k h) _ (un_l1 HR.out.l1) (un_l2 HR.out.l2) (un_l3 HR.out.l3) (un_l4 HR.out.l4)) ?_
          intro w5 hb5
          replace hB := bnx hB HX.out hb5
          replace HR := Lib.hid (HR.out.keep hb5 (Nat.le_trans HBB.out (Nat.le_of_lt HX.out.lt)))
          replace HX := Lib.hid (HX.out.keep hb5)
          repeat first | refine g_mv hn ?_ | refine g_as hn ?_ | refine g_fdL hn ?_ | refine g_ldL hn HX.out ?_ | refine g_ldA hn HX.out ?_ | refine g_fd hn ?_ | refine g_ld hn ?_ | refine g_nc hn ?_ | refine g_nt hn ?_ | refine g_an hn ?_ | refine g_or hn ?_ | refine g_ln hn ?_ | refine g_ex hn ?_ | refine g_neq2 hn ?_ | refine g_neq hn ?_ | refine g_eql2 hn ?_ | refine g_eql hn ?_ | refine g_leq2 hn ?_ | refine g_leq hn ?_ | refine g_lss2 hn ?_ | refine g_lss hn ?_ | refine g_gtr2 hn ?_ | refine g_gtr hn ?_ | refine g_geq2 hn ?_ | refine g_geq hn ?_ | refine g_b0 hn ?_ | refine g_bn hn ?_ | refine g_bc hn ?_ | refine g_cv hn ?_ | refine g_ac hn ?_ | refine g_mc hn ?_
          refine fl_endb (c := goodLt x) (by rw [← code_is]; unfold codeB; rw [k4]; rfl) ?_
          clear hn 
          subst ha
          dsimp only [fr, cnd, Act.put, cond_true]
          simp only [List.setIfInBounds_toArray, List.set_cons_zero, List.set_cons_succ]
          go_wp2_with fail
          go_ret
          exact ⟨rfl, by rw [hb]; exact hB⟩
        · have i1 : (x.k == 1) = false := by simpa using k1
          have i2 : (x.k == 2) = false := by simpa using k2
          have i4 : (x.k == 4) = false := by simpa using k4
          have R : Hid (goodLt x = false) := by
            show _ = _
            rw [← code_is]
            unfold codeB
            have : decide (1 ≤ x.k ∧ x.k ≤ 4) = false := decide_eq_false (by omega)
            rw [this]
            simp
          go_wp2_with fail
          go_ret
          exact ⟨ret_bool R.out.symm, by rw [hb]; exact hB⟩
end Go.Proofs.YtpjleeeligahaaaGreatDoor
