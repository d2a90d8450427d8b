/-
  WHAT IS PROVED: letter.blank, goodWrites, spans, goodLists answer what the plain words of LtCode say. Conditions: those typed in each theorem. · letter.unused, and Good: it tells what the chapter says (goodLt). Conditions: those typed in each theorem.
-/
import Derived.Test.YtpjleeeligahaaaGreatDoorGQ9
import Derived.Test.YtpjleeeligahaaaGreatDoorRGood
import Derived.Test.YtpjleeeligahaaaGreatDoorGQ10
import Derived.Test.YtpjleeeligahaaaGreatDoorRLasts2
namespace Go.Proofs.YtpjleeeligahaaaGreatDoor
open Go.RowKit

theorem bnx {w W w1 : World} {b : Nat} {cs : Array Value} {t : TypeId} (hB : Below b w W) (hX : Blk W b cs t) (h : Below W.heap.size W w1) : Below b w w1 := hB.trans (h.mono (Nat.le_of_lt hX.lt))
theorem zlen (n : Nat) : ((n : Int) == 0) = decide (n = 0) := by
  rw [Bool.eq_iff_iff]
  simp
set_option maxRecDepth 100000 in
set_option maxHeartbeats 2000000 in
theorem blank_any (x : Lt) (h : Hn) (w : World) (l1 : x.re.length = h.n1) (l2 : x.ws.length = h.n2) (l3 : x.ls.length = h.n3) (l4 : x.cs.length = h.n4) : Calls Tryz.prog 45 #[.agg (ltI x h)] w fun e w' => e = .returned (.bool (blankB x)) ∧ Below w.heap.size w w' := by
  go_enter Tryz.func45, Tryz.ntmps45
  go_upto_region 1 with fail
  have hX := blk_new w (ltI x h) 58
  have hB := b0 w (.cells (ltI x h) 58)
  generalize w.alloc (.cells (ltI x h) 58) = W at hX hB ⊢
  generalize hb : w.heap.size = b at hX hB ⊢
  have HX := Lib.hid hX
  clear hX
  go_upto_region 2 with fail
  refine wp_region_lit ?_
  refine fl_start ?_
  generalize ha : Act.mk _ _ = a0
  have hn : a0.tmps.size = 36 := by rw [← ha]; kernel_rfl
  have h1 : (fr a0 []).eval (.tmp 1) = .pointer (some ⟨b, 0, none⟩) := by rw [← ha]; kernel_rfl
  refine fl_know hn rfl h1 ?_
  clear h1
  have h3 : (fr a0 [(1, true, .pointer (some ⟨b, 0, none⟩))]).eval (.tmp 3) = .func (.func 96) #[] #[] := by rw [← ha]; kernel_rfl
  refine fl_know hn rfl h3 ?_
  clear h3
  refine g_c1x enters_numbers hn (numbers_x b W) ?_
  rintro v w1 ⟨c, rfl, -, ⟨t, hC⟩, hb1⟩
  replace hB := bnx hB HX.out hb1
  replace HX := Lib.hid (HX.out.keep hb1)
  refine g_mv hn ?_
  refine g_c2w enters_contN hn (cont_some HX.out hC) ?_
  intro w2 hb2
  replace hB := bnx hB HX.out hb2
  replace HX := Lib.hid (HX.out.keep hb2)
  repeat first | refine g_mv hn ?_ | refine g_as hn ?_ | refine g_fdL hn ?_ | refine g_ldL hn HX.out ?_ | refine g_ldA hn HX.out ?_ | refine g_fd hn ?_ | refine g_ld hn ?_ | refine g_nc hn ?_ | refine g_nt hn ?_ | refine g_an hn ?_ | refine g_or hn ?_ | refine g_ln hn ?_ | refine g_ex hn ?_ | refine g_neq2 hn ?_ | refine g_neq hn ?_ | refine g_eql2 hn ?_ | refine g_eql hn ?_ | refine g_leq2 hn ?_ | refine g_leq hn ?_ | refine g_lss2 hn ?_ | refine g_lss hn ?_ | refine g_gtr2 hn ?_ | refine g_gtr hn ?_ | refine g_geq2 hn ?_ | refine g_geq hn ?_ | refine g_b0 hn ?_ | refine g_bn hn ?_ | refine g_bc hn ?_ | refine g_cv hn ?_ | refine g_ac hn ?_ | refine g_mc hn ?_
  refine g_c1w enters_snapped hn (snapped_any x h _ l4) ?_
  intro w3 hb3
  replace hB := bnx hB HX.out hb3
  replace HX := Lib.hid (HX.out.keep hb3)
  repeat first | refine g_mv hn ?_ | refine g_as hn ?_ | refine g_fdL hn ?_ | refine g_ldL hn HX.out ?_ | refine g_ldA hn HX.out ?_ | refine g_fd hn ?_ | refine g_ld hn ?_ | refine g_nc hn ?_ | refine g_nt hn ?_ | refine g_an hn ?_ | refine g_or hn ?_ | refine g_ln hn ?_ | refine g_ex hn ?_ | refine g_neq2 hn ?_ | refine g_neq hn ?_ | refine g_eql2 hn ?_ | refine g_eql hn ?_ | refine g_leq2 hn ?_ | refine g_leq hn ?_ | refine g_lss2 hn ?_ | refine g_lss hn ?_ | refine g_gtr2 hn ?_ | refine g_gtr hn ?_ | refine g_geq2 hn ?_ | refine g_geq hn ?_ | refine g_b0 hn ?_ | refine g_bn hn ?_ | refine g_bc hn ?_ | refine g_cv hn ?_ | refine g_ac hn ?_ | refine g_mc hn ?_
  refine fl_endb (c := blankB x) (by unfold blankB; rw [l1, l2, l3, zlen, zlen, zlen]) ?_
  clear hn 
  subst ha
  dsimp only [fr, cnd, Act.put, cond_true]
  simp only [List.setIfInBounds_toArray, List.set_cons_zero, List.set_cons_succ]
  go_wp2_with fail
  go_ret
  exact ⟨rfl, by rw [hb]; exact hB⟩

/-! goodWrites. -/
theorem enters_gw1 : ∀ args w, (callFunc 136 args).run Tryz.prog w = .ok (.enter 136 args) w := enters_of Tryz.func136 (by kernel_rfl) rfl
theorem enters_contW : ∀ args w, (callFunc 137 args).run Tryz.prog w = .ok (.enter 137 args) w := enters_of Tryz.func137 (by kernel_rfl) rfl
theorem enters_goodWrites : ∀ args w, (callFunc 93 args).run Tryz.prog w = .ok (.enter 93 args) w := enters_of Tryz.func93 (by kernel_rfl) rfl

set_option maxRecDepth 100000 in
set_option maxHeartbeats 2000000 in
theorem gw1_any (x : Wr) (w : World) (hf : x.fits) : Calls Tryz.prog 136 #[.agg x.cells] w fun e w' => e = .returned (.bool (!x.good)) ∧ Below w.heap.size w w' := by
  have HG := Lib.hid (fun W => stampGood_any x W hf)
  generalize x.good = v at HG ⊢
  obtain ⟨dev, seq, K, ky, ka, na, sa, kb, nb, sb⟩ := x
  clear hf
  go_enter Tryz.func136, Tryz.ntmps136
  go_wp2_with (refine (HG.out _).mono ?_; rintro e w1 ⟨rfl, hb1⟩)
  go_ret
  exact ⟨rfl, below_up (hb1.mono (by simp))⟩
theorem all_any {α : Type} {p : α → Bool} : ∀ (l : List α), (!(l.any fun x => !p x)) = l.all p
  | [] => rfl
  | a :: t => by
    have := all_any (p := p) t
    rw [List.any_cons, List.all_cons, ← this]
    simp
set_option maxRecDepth 100000 in
set_option maxHeartbeats 2000000 in
theorem goodWrites_any (A : Option Addr) (n c : Nat) (l : List Wr) (w : World) (hn0 : l.length = n) (hr : RdW w.heap.size w A l) (hm : n ≤ maxLen) (hf : ∀ x, x ∈ l → x.fits) :
    Calls Tryz.prog 93 #[.slice A n c] w fun e w' => e = .returned (.bool (decide (l.length ≤ 512) && goodAll l)) ∧ Below w.heap.size w w' := by
  have HC := Lib.hid (contW_any 136 #[] enters_gw1 (fun x => !x.good) A n c l w hn0 (rdw_x hr) hm (fun x hx W _ => gw1_any x W (hf x hx)))
  have R : Hid ((decide ((n : Int) ≤ 512) && !(l.any fun x => !x.good)) = (decide (l.length ≤ 512) && goodAll l)) := by
    show _ = _
    rw [all_any, hn0]
    congr 1
    rw [Bool.eq_iff_iff]
    simp
    omega
  clear hr hf hm
  generalize (l.any fun x => !x.good) = v at HC R
  go_enter Tryz.func93, Tryz.ntmps93
  go_upto_region 2 with fail
  refine wp_region_lit ?_
  refine fl_start ?_
  generalize ha : Act.mk _ _ = a0
  have hn : a0.tmps.size = 13 := by rw [← ha]; kernel_rfl
  have h0 : (fr a0 []).eval (.tmp 0) = .slice A n c := by rw [← ha]; kernel_rfl
  refine fl_know hn rfl h0 ?_
  clear h0
  have h3 : (fr a0 [(0, true, .slice A n c)]).eval (.tmp 3) = .func (.func 136) #[] #[] := by rw [← ha]; kernel_rfl
  refine fl_know hn rfl h3 ?_
  clear h3
  repeat first | refine g_mv hn ?_ | refine g_as hn ?_ | refine g_fdL hn ?_ | refine g_ldL hn HX.out ?_ | refine g_ldA hn HX.out ?_ | refine g_fd hn ?_ | refine g_ld hn ?_ | refine g_nc hn ?_ | refine g_nt hn ?_ | refine g_an hn ?_ | refine g_or hn ?_ | refine g_ln hn ?_ | refine g_ex hn ?_ | refine g_neq2 hn ?_ | refine g_neq hn ?_ | refine g_eql2 hn ?_ | refine g_eql hn ?_ | refine g_leq2 hn ?_ | refine g_leq hn ?_ | refine g_lss2 hn ?_ | refine g_lss hn ?_ | refine g_gtr2 hn ?_ | refine g_gtr hn ?_ | refine g_geq2 hn ?_ | refine g_geq hn ?_ | refine g_b0 hn ?_ | refine g_bn hn ?_ | refine g_bc hn ?_ | refine g_cv hn ?_ | refine g_ac hn ?_ | refine g_mc hn ?_
  refine g_c2w enters_contW hn (HC.out) ?_
  intro w2 hb2
  repeat first | refine g_mv hn ?_ | refine g_as hn ?_ | refine g_fdL hn ?_ | refine g_ldL hn HX.out ?_ | refine g_ldA hn HX.out ?_ | refine g_fd hn ?_ | refine g_ld hn ?_ | refine g_nc hn ?_ | refine g_nt hn ?_ | refine g_an hn ?_ | refine g_or hn ?_ | refine g_ln hn ?_ | refine g_ex hn ?_ | refine g_neq2 hn ?_ | refine g_neq hn ?_ | refine g_eql2 hn ?_ | refine g_eql hn ?_ | refine g_leq2 hn ?_ | refine g_leq hn ?_ | refine g_lss2 hn ?_ | refine g_lss hn ?_ | refine g_gtr2 hn ?_ | refine g_gtr hn ?_ | refine g_geq2 hn ?_ | refine g_geq hn ?_ | refine g_b0 hn ?_ | refine g_bn hn ?_ | refine g_bc hn ?_ | refine g_cv hn ?_ | refine g_ac hn ?_ | refine g_mc hn ?_
  refine fl_endb (c := decide (l.length ≤ 512) && goodAll l) (R.out) ?_
  clear hn 
  subst ha
  dsimp only [fr, cnd, Act.put, cond_true]
  simp only [List.setIfInBounds_toArray, List.set_cons_zero, List.set_cons_succ]
  go_wp2_with fail
  go_ret
  exact ⟨rfl, hb2⟩

/-! spans. -/
theorem enters_sp1 : ∀ args w, (callFunc 87 args).run Tryz.prog w = .ok (.enter 87 args) w := enters_of Tryz.func87 (by kernel_rfl) rfl
theorem enters_contQ : ∀ args w, (callFunc 88 args).run Tryz.prog w = .ok (.enter 88 args) w := enters_of Tryz.func88 (by kernel_rfl) rfl
theorem enters_spans : ∀ args w, (callFunc 41 args).run Tryz.prog w = .ok (.enter 41 args) w := enters_of Tryz.func41 (by kernel_rfl) rfl

theorem ln_f (W : World) (g : Nat) : (Instr.fieldAt 49 (.pointer (some ⟨g, 0, none⟩)) 0).run Tryz.prog W = .ok (.pointer (some ⟨g, 0, none⟩)) W := by kernel_rfl
theorem ln_l {W : World} {g : Nat} {y : Ln} {t : TypeId} (hY : Blk W g y.cells t) : (Instr.loadAt 3 (.pointer (some ⟨g, 0, none⟩))).run Tryz.prog W = .ok (.int .i64 y.pl) W := load_int (hY.cell 0)
set_option maxRecDepth 100000 in
set_option maxHeartbeats 2000000 in
theorem sp1_any (x : Lt) (h : Hn) (b : Nat) (y : Ln) (w : World) (hX : Blk w b (ltI x h) 58) : Calls Tryz.prog 87 #[.agg y.cells, .pointer (some ⟨b, 0, none⟩)] w fun e w' => e = .returned (.bool (outL x.sr x.en y)) ∧ Below w.heap.size w w' := by
  have hX2 := hX.keep (b0 w (.cells y.cells 49))
  have hY := blk_new w y.cells 49
  have hB := b0 w (.cells y.cells 49)
  have hlt := hX.lt
  clear hX
  go_enter Tryz.func87, Tryz.ntmps87
  go_upto_region 1 with fail
  generalize w.alloc (.cells y.cells 49) = W at hX2 hY hB ⊢
  generalize hb : w.heap.size = g at hY hB hlt ⊢
  have HX := Lib.hid hX2
  have lf := ln_f W g
  have ll := ln_l hY
  have lne : ¬ b = g := by omega
  clear hX2 hY
  refine wp_region_lit ?_
  refine fl_start ?_
  generalize ha : Act.mk _ _ = a0
  have hn : a0.tmps.size = 16 := by rw [← ha]; kernel_rfl
  have h1 : (fr a0 []).eval (.tmp 1) = .pointer (some ⟨b, 0, none⟩) := by rw [← ha]; kernel_rfl
  refine fl_know hn rfl h1 ?_
  clear h1
  have h2 : (fr a0 [(1, true, .pointer (some ⟨b, 0, none⟩))]).eval (.tmp 2) = .pointer (some ⟨g, 0, none⟩) := by rw [← ha]; kernel_rfl
  refine fl_know hn rfl h2 ?_
  clear h2
  repeat first | refine g_mv hn ?_ | refine g_as hn ?_ | refine g_fdL hn ?_ | refine g_ldL hn HX.out ?_ | refine g_ldA hn HX.out ?_ | refine g_fd hn ?_ | refine g_ld hn ?_ | refine g_fd hn ?_ | refine g_ld hn ?_ | refine g_nc hn ?_ | refine g_nt hn ?_ | refine g_an hn ?_ | refine g_or hn ?_ | refine g_ln hn ?_ | refine g_ex hn ?_ | refine g_neq2 hn ?_ | refine g_neq hn ?_ | refine g_eql2 hn ?_ | refine g_eql hn ?_ | refine g_leq2 hn ?_ | refine g_leq hn ?_ | refine g_lss2 hn ?_ | refine g_lss hn ?_ | refine g_gtr2 hn ?_ | refine g_gtr hn ?_ | refine g_geq2 hn ?_ | refine g_geq hn ?_ | refine g_b0 hn ?_ | refine g_bn hn ?_ | refine g_bc hn ?_ | refine g_cv hn ?_ | refine g_ac hn ?_ | refine g_mc hn ?_
  refine fl_endb (c := outL x.sr x.en y) (rfl) ?_
  clear hn lf ll
  subst ha
  dsimp only [fr, cnd, Act.put, cond_true]
  simp only [List.setIfInBounds_toArray, List.set_cons_zero, List.set_cons_succ]
  go_wp2_with fail
  go_ret
  exact ⟨rfl, by rw [hb]; exact hB⟩
set_option maxRecDepth 100000 in
set_option maxHeartbeats 2000000 in
theorem spans_any {B : Nat} (x : Lt) (h : Hn) (w : World) (hr : LtR B w x h) (hrB : B ≤ w.heap.size) (hf : LtF x) : Calls Tryz.prog 41 #[.agg (ltI x h)] w fun e w' => e = .returned (.bool (spansB x)) ∧ Below w.heap.size w w' := by
  go_enter Tryz.func41, Tryz.ntmps41
  go_upto_region 1 with fail
  have hX := blk_new w (ltI x h) 58
  have hB := b0 w (.cells (ltI x h) 58)
  have hR := hr.keep hB hrB
  generalize w.alloc (.cells (ltI x h) 58) = W at hX hB hR ⊢
  generalize hb : w.heap.size = b at hX hB ⊢
  have HX := Lib.hid hX
  have HR := Lib.hid hR
  have HF := Lib.hid hf
  have HBB := Lib.hid (Nat.le_trans hrB (Nat.le_of_eq hb))
  clear hX hR hr hf
  go_upto_region 2 with fail
  refine wp_region_lit ?_
  refine fl_start ?_
  generalize ha : Act.mk _ _ = a0
  have hn : a0.tmps.size = 17 := by rw [← ha]; kernel_rfl
  have h1 : (fr a0 []).eval (.tmp 1) = .pointer (some ⟨b, 0, none⟩) := by rw [← ha]; kernel_rfl
  refine fl_know hn rfl h1 ?_
  clear h1
  have h3 : (fr a0 [(1, true, .pointer (some ⟨b, 0, none⟩))]).eval (.tmp 3) = .func (.func 87) #[] #[.pointer (some ⟨b, 0, none⟩)] := by rw [← ha]; kernel_rfl
  refine fl_know hn rfl h3 ?_
  clear h3
  repeat first | refine g_mv hn ?_ | refine g_as hn ?_ | refine g_fdL hn ?_ | refine g_ldL hn HX.out ?_ | refine g_ldA hn HX.out ?_ | refine g_fd hn ?_ | refine g_ld hn ?_ | refine g_nc hn ?_ | refine g_nt hn ?_ | refine g_an hn ?_ | refine g_or hn ?_ | refine g_ln hn ?_ | refine g_ex hn ?_ | refine g_neq2 hn ?_ | refine g_neq hn ?_ | refine g_eql2 hn ?_ | refine g_eql hn ?_ | refine g_leq2 hn ?_ | refine g_leq hn ?_ | refine g_lss2 hn ?_ | refine g_lss hn ?_ | refine g_gtr2 hn ?_ | refine g_gtr hn ?_ | refine g_geq2 hn ?_ | refine g_geq hn ?_ | refine g_b0 hn ?_ | refine g_bn hn ?_ | refine g_bc hn ?_ | refine g_cv hn ?_ | refine g_ac hn ?_ | refine g_mc hn ?_
  refine g_c2w enters_contQ hn (contQ_any 87 #[.pointer (some ⟨b, 0, none⟩)] enters_sp1 (outL x.sr x.en) h.A3 h.n3 h.c3 x.ls W HR.out.l3 (HR.out.r3.more (Nat.le_trans HBB.out (Nat.le_of_lt HX.out.lt))) (by have := HF.out.m3; rwa [HR.out.l3] at this) (fun y _ W2 hb2 => sp1_any x h b y W2 (HX.out.keep hb2))) ?_
  intro w2 hb2
  replace hB := bnx hB HX.out hb2
  replace HX := Lib.hid (HX.out.keep hb2)
  repeat first | refine g_mv hn ?_ | refine g_as hn ?_ | refine g_fdL hn ?_ | refine g_ldL hn HX.out ?_ | refine g_ldA hn HX.out ?_ | refine g_fd hn ?_ | refine g_ld hn ?_ | refine g_nc hn ?_ | refine g_nt hn ?_ | refine g_an hn ?_ | refine g_or hn ?_ | refine g_ln hn ?_ | refine g_ex hn ?_ | refine g_neq2 hn ?_ | refine g_neq hn ?_ | refine g_eql2 hn ?_ | refine g_eql hn ?_ | refine g_leq2 hn ?_ | refine g_leq hn ?_ | refine g_lss2 hn ?_ | refine g_lss hn ?_ | refine g_gtr2 hn ?_ | refine g_gtr hn ?_ | refine g_geq2 hn ?_ | refine g_geq hn ?_ | refine g_b0 hn ?_ | refine g_bn hn ?_ | refine g_bc hn ?_ | refine g_cv hn ?_ | refine g_ac hn ?_ | refine g_mc hn ?_
  refine fl_endb (c := spansB x) (rfl) ?_
  clear hn 
  subst ha
  dsimp only [fr, cnd, Act.put, cond_true]
  simp only [List.setIfInBounds_toArray, List.set_cons_zero, List.set_cons_succ]
  go_wp2_with fail
  go_ret
  exact ⟨rfl, by rw [hb]; exact hB⟩

/-! goodLists. -/
theorem enters_rG : ∀ args w, (callFunc 92 args).run Tryz.prog w = .ok (.enter 92 args) w := enters_of Tryz.func92 (by kernel_rfl) rfl
theorem enters_gLs : ∀ args w, (callFunc 35 args).run Tryz.prog w = .ok (.enter 35 args) w := enters_of Tryz.func35 (by kernel_rfl) rfl
theorem enters_gCs : ∀ args w, (callFunc 94 args).run Tryz.prog w = .ok (.enter 94 args) w := enters_of Tryz.func94 (by kernel_rfl) rfl
theorem enters_goodLists : ∀ args w, (callFunc 44 args).run Tryz.prog w = .ok (.enter 44 args) w := enters_of Tryz.func44 (by kernel_rfl) rfl

set_option maxRecDepth 100000 in
set_option maxHeartbeats 2000000 in
theorem goodLists_any {B : Nat} (x : Lt) (h : Hn) (w : World) (hr : LtR B w x h) (hrB : B ≤ w.heap.size) (hf : LtF x) : Calls Tryz.prog 44 #[.agg (ltI x h)] w fun e w' => e = .returned (.bool (listsB x)) ∧ Below w.heap.size w w' := by
  go_enter Tryz.func44, Tryz.ntmps44
  go_upto_region 1 with fail
  have hX := blk_new w (ltI x h) 58
  have hB := b0 w (.cells (ltI x h) 58)
  have hR := hr.keep hB hrB
  generalize w.alloc (.cells (ltI x h) 58) = W at hX hB hR ⊢
  generalize hb : w.heap.size = b at hX hB ⊢
  have HX := Lib.hid hX
  have HR := Lib.hid hR
  have HF := Lib.hid hf
  have HBB := Lib.hid (Nat.le_trans hrB (Nat.le_of_eq hb))
  clear hX hR hr hf
  refine wp_region_lit ?_
  refine fl_start ?_
  generalize ha : Act.mk _ _ = a0
  have hn : a0.tmps.size = 26 := by rw [← ha]; kernel_rfl
  have h1 : (fr a0 []).eval (.tmp 1) = .pointer (some ⟨b, 0, none⟩) := by rw [← ha]; kernel_rfl
  refine fl_know hn rfl h1 ?_
  clear h1
  repeat first | refine g_mv hn ?_ | refine g_as hn ?_ | refine g_fdL hn ?_ | refine g_ldL hn HX.out ?_ | refine g_ldA hn HX.out ?_ | refine g_fd hn ?_ | refine g_ld hn ?_ | refine g_nc hn ?_ | refine g_nt hn ?_ | refine g_an hn ?_ | refine g_or hn ?_ | refine g_ln hn ?_ | refine g_ex hn ?_ | refine g_neq2 hn ?_ | refine g_neq hn ?_ | refine g_eql2 hn ?_ | refine g_eql hn ?_ | refine g_leq2 hn ?_ | refine g_leq hn ?_ | refine g_lss2 hn ?_ | refine g_lss hn ?_ | refine g_gtr2 hn ?_ | refine g_gtr hn ?_ | refine g_geq2 hn ?_ | refine g_geq hn ?_ | refine g_b0 hn ?_ | refine g_bn hn ?_ | refine g_bc hn ?_ | refine g_cv hn ?_ | refine g_ac hn ?_ | refine g_mc hn ?_
  refine g_c1w enters_rG hn (reachGood_any h.A1 h.n1 h.c1 x.re _ HR.out.l1 (HR.out.r1.more (Nat.le_trans HBB.out (Nat.le_of_lt HX.out.lt))) (by have := HF.out.m1; rwa [HR.out.l1] at this) HF.out.f1) ?_
  intro w2 hb2
  replace hB := bnx hB HX.out hb2
  replace HR := Lib.hid (HR.out.keep hb2 (Nat.le_trans HBB.out (Nat.le_of_lt HX.out.lt)))
  replace HX := Lib.hid (HX.out.keep hb2)
  repeat first | refine g_mv hn ?_ | refine g_as hn ?_ | refine g_fdL hn ?_ | refine g_ldL hn HX.out ?_ | refine g_ldA hn HX.out ?_ | refine g_fd hn ?_ | refine g_ld hn ?_ | refine g_nc hn ?_ | refine g_nt hn ?_ | refine g_an hn ?_ | refine g_or hn ?_ | refine g_ln hn ?_ | refine g_ex hn ?_ | refine g_neq2 hn ?_ | refine g_neq hn ?_ | refine g_eql2 hn ?_ | refine g_eql hn ?_ | refine g_leq2 hn ?_ | refine g_leq hn ?_ | refine g_lss2 hn ?_ | refine g_lss hn ?_ | refine g_gtr2 hn ?_ | refine g_gtr hn ?_ | refine g_geq2 hn ?_ | refine g_geq hn ?_ | refine g_b0 hn ?_ | refine g_bn hn ?_ | refine g_bc hn ?_ | refine g_cv hn ?_ | refine g_ac hn ?_ | refine g_mc hn ?_
  refine g_c1w enters_goodWrites hn (goodWrites_any h.A2 h.n2 h.c2 x.ws _ HR.out.l2 (HR.out.r2.more (Nat.le_trans HBB.out (Nat.le_of_lt HX.out.lt))) (by have := HF.out.m2; rwa [HR.out.l2] at this) HF.out.f2) ?_
  intro w3 hb3
  replace hB := bnx hB HX.out hb3
  replace HR := Lib.hid (HR.out.keep hb3 (Nat.le_trans HBB.out (Nat.le_of_lt HX.out.lt)))
  replace HX := Lib.hid (HX.out.keep hb3)
  repeat first | refine g_mv hn ?_ | refine g_as hn ?_ | refine g_fdL hn ?_ | refine g_ldL hn HX.out ?_ | refine g_ldA hn HX.out ?_ | refine g_fd hn ?_ | refine g_ld hn ?_ | refine g_nc hn ?_ | refine g_nt hn ?_ | refine g_an hn ?_ | refine g_or hn ?_ | refine g_ln hn ?_ | refine g_ex hn ?_ | refine g_neq2 hn ?_ | refine g_neq hn ?_ | refine g_eql2 hn ?_ | refine g_eql hn ?_ | refine g_leq2 hn ?_ | refine g_leq hn ?_ | refine g_lss2 hn ?_ | refine g_lss hn ?_ | refine g_gtr2 hn ?_ | refine g_gtr hn ?_ | refine g_geq2 hn ?_ | refine g_geq hn ?_ | refine g_b0 hn ?_ | refine g_bn hn ?_ | refine g_bc hn ?_ | refine g_cv hn ?_ | refine g_ac hn ?_ | refine g_mc hn ?_
  refine g_c1w enters_gLs hn (goodLs_any h.A3 h.n3 h.c3 x.ls _ HR.out.l3 (HR.out.r3.more (Nat.le_trans HBB.out (Nat.le_of_lt HX.out.lt))) (by have := HF.out.m3; rwa [HR.out.l3] at this) HF.out.f3) ?_
  intro w4 hb4
  replace hB := bnx hB HX.out hb4
  replace HR := Lib.hid (HR.out.keep hb4 (Nat.le_trans HBB.out (Nat.le_of_lt HX.out.lt)))
  replace HX := Lib.hid (HX.out.keep hb4)
  repeat first | refine g_mv hn ?_ | refine g_as hn ?_ | refine g_fdL hn ?_ | refine g_ldL hn HX.out ?_ | refine g_ldA hn HX.out ?_ | refine g_fd hn ?_ | refine g_ld hn ?_ | refine g_nc hn ?_ | refine g_nt hn ?_ | refine g_an hn ?_ | refine g_or hn ?_ | refine g_ln hn ?_ | refine g_ex hn ?_ | refine g_neq2 hn ?_ | refine g_neq hn ?_ | refine g_eql2 hn ?_ | refine g_eql hn ?_ | refine g_leq2 hn ?_ | refine g_leq hn ?_ | refine g_lss2 hn ?_ | refine g_lss hn ?_ | refine g_gtr2 hn ?_ | refine g_gtr hn ?_ | refine g_geq2 hn ?_ | refine g_geq hn ?_ | refine g_b0 hn ?_ | refine g_bn hn ?_ | refine g_bc hn ?_ | refine g_cv hn ?_ | refine g_ac hn ?_ | refine g_mc hn ?_
  refine g_c1w enters_gCs hn (goodCs_any h.A4 h.n4 h.c4 x.cs _ HR.out.l4 (HR.out.r4.more (Nat.le_trans HBB.out (Nat.le_of_lt HX.out.lt))) (by have := HF.out.m4; rwa [HR.out.l4] at this) HF.out.f4) ?_
  intro w5 hb5
  replace hB := bnx hB HX.out hb5
  replace HR := Lib.hid (HR.out.keep hb5 (Nat.le_trans HBB.out (Nat.le_of_lt HX.out.lt)))
  replace HX := Lib.hid (HX.out.keep hb5)
  repeat first | refine g_mv hn ?_ | refine g_as hn ?_ | refine g_fdL hn ?_ | refine g_ldL hn HX.out ?_ | refine g_ldA hn HX.out ?_ | refine g_fd hn ?_ | refine g_ld hn ?_ | refine g_nc hn ?_ | refine g_nt hn ?_ | refine g_an hn ?_ | refine g_or hn ?_ | refine g_ln hn ?_ | refine g_ex hn ?_ | refine g_neq2 hn ?_ | refine g_neq hn ?_ | refine g_eql2 hn ?_ | refine g_eql hn ?_ | refine g_leq2 hn ?_ | refine g_leq hn ?_ | refine g_lss2 hn ?_ | refine g_lss hn ?_ | refine g_gtr2 hn ?_ | refine g_gtr hn ?_ | refine g_geq2 hn ?_ | refine g_geq hn ?_ | refine g_b0 hn ?_ | refine g_bn hn ?_ | refine g_bc hn ?_ | refine g_cv hn ?_ | refine g_ac hn ?_ | refine g_mc hn ?_
  refine g_c1w enters_gdLa hn (goodLa_any x.a0 x.a1 x.a2 x.a3 x.a4 x.a5 x.a6 x.a7 x.a8 x.a9 x.a10 x.a11 _) ?_
  intro w6 hb6
  replace hB := bnx hB HX.out hb6
  replace HX := Lib.hid (HX.out.keep hb6)
  repeat first | refine g_mv hn ?_ | refine g_as hn ?_ | refine g_fdL hn ?_ | refine g_ldL hn HX.out ?_ | refine g_ldA hn HX.out ?_ | refine g_fd hn ?_ | refine g_ld hn ?_ | refine g_nc hn ?_ | refine g_nt hn ?_ | refine g_an hn ?_ | refine g_or hn ?_ | refine g_ln hn ?_ | refine g_ex hn ?_ | refine g_neq2 hn ?_ | refine g_neq hn ?_ | refine g_eql2 hn ?_ | refine g_eql hn ?_ | refine g_leq2 hn ?_ | refine g_leq hn ?_ | refine g_lss2 hn ?_ | refine g_lss hn ?_ | refine g_gtr2 hn ?_ | refine g_gtr hn ?_ | refine g_geq2 hn ?_ | refine g_geq hn ?_ | refine g_b0 hn ?_ | refine g_bn hn ?_ | refine g_bc hn ?_ | refine g_cv hn ?_ | refine g_ac hn ?_ | refine g_mc hn ?_
  refine fl_endb (c := listsB x) (rfl) ?_
  clear hn 
  subst ha
  dsimp only [fr, cnd, Act.put, cond_true]
  simp only [List.setIfInBounds_toArray, List.set_cons_zero, List.set_cons_succ]
  go_wp2_with fail
  go_ret
  exact ⟨rfl, by rw [hb]; exact hB⟩
end Go.Proofs.YtpjleeeligahaaaGreatDoor

namespace Go.Proofs.YtpjleeeligahaaaGreatDoor
open Go.RowKit

def unH (k : Int) (h : Hn) : Hn :=
  if k = 1 then { h with A1 := none, n1 := 0, c1 := 0 }
  else if k = 2 then { h with A2 := none, n2 := 0, c2 := 0 }
  else if k = 3 then { h with A2 := none, n2 := 0, c2 := 0, A3 := none, n3 := 0, c3 := 0, A4 := none, n4 := 0, c4 := 0 }
  else h
theorem st_sR {W : World} {b j : Nat} {cs : Array Value} {T : TypeId} (hX : Blk W b cs T) (hj : j < cs.size) : (Instr.storeAt 53 (.pointer (some ⟨b, j, none⟩)) (.slice none 0 0)).run Tryz.prog W = .ok () (W.setCell ⟨b, j, none⟩ (.slice none 0 0)) := by
  obtain ⟨u, hu⟩ := blk_some hX hj
  have hf := hX.free j
  clear hX
  go_simp
theorem st_sW {W : World} {b j : Nat} {cs : Array Value} {T : TypeId} (hX : Blk W b cs T) (hj : j < cs.size) : (Instr.storeAt 37 (.pointer (some ⟨b, j, none⟩)) (.slice none 0 0)).run Tryz.prog W = .ok () (W.setCell ⟨b, j, none⟩ (.slice none 0 0)) := by
  obtain ⟨u, hu⟩ := blk_some hX hj
  have hf := hX.free j
  clear hX
  go_simp
theorem st_sL {W : World} {b j : Nat} {cs : Array Value} {T : TypeId} (hX : Blk W b cs T) (hj : j < cs.size) : (Instr.storeAt 22 (.pointer (some ⟨b, j, none⟩)) (.slice none 0 0)).run Tryz.prog W = .ok () (W.setCell ⟨b, j, none⟩ (.slice none 0 0)) := by
  obtain ⟨u, hu⟩ := blk_some hX hj
  have hf := hX.free j
  clear hX
  go_simp
theorem st_sC {W : World} {b j : Nat} {cs : Array Value} {T : TypeId} (hX : Blk W b cs T) (hj : j < cs.size) : (Instr.storeAt 54 (.pointer (some ⟨b, j, none⟩)) (.slice none 0 0)).run Tryz.prog W = .ok () (W.setCell ⟨b, j, none⟩ (.slice none 0 0)) := by
  obtain ⟨u, hu⟩ := blk_some hX hj
  have hf := hX.free j
  clear hX
  go_simp

theorem lt_one (x : Lt) (h : Hn) : (ltI x h).all (·.oneCell') = true := by simp [Value.oneCell']
abbrev ltZ : Array Value := ltI ⟨0, 0, 0, 0, 0, 0, 0, 0, 0, 0, 0, 0, false, [], [], [], [], 0, 0, 0, 0, 0, 0, 0, 0, 0, 0, 0, 0⟩ ⟨none, none, none, none, 0, 0, 0, 0, 0, 0, 0, 0⟩
set_option maxRecDepth 100000 in
set_option maxHeartbeats 4000000 in
theorem unused_any (x : Lt) (h : Hn) (w : World) : Calls Tryz.prog 46 #[.agg (ltI x h)] w fun e w' => e = .returned (.agg (ltI (unU x) (unH x.k h))) ∧ Below w.heap.size w w' := by
  go_enter Tryz.func46, Tryz.ntmps46
  go_upto_region 1 with fail
  have hX := (blk_new w (ltI x h) 58).alloc (.cells ltZ 58)
  have hY := blk_new (w.alloc (.cells (ltI x h) 58)) ltZ 58
  have hB := ba (b0 w (.cells (ltI x h) 58)) (.cells ltZ 58)
  have hs : (w.alloc (.cells (ltI x h) 58)).heap.size = w.heap.size + 1 := by simp
  rw [hs] at hY
  generalize (w.alloc (.cells (ltI x h) 58)).alloc (.cells ltZ 58) = W at hX hY hB ⊢
  generalize hb : w.heap.size = b at hX hY hB ⊢
  have HX := Lib.hid hX
  have HY := Lib.hid hY
  have HO := Only1.refl b W
  have hne : b + 1 ≠ b := by omega
  have q0 : W.cell? ⟨b, 0, none⟩ = some (.int .i64 x.k) := hX.cell 0
  clear hX hY hs
  by_cases k1 : x.k = 1
  · rw [k1] at q0
    go_upto_region 3 with fail
    refine wp_region_lit ?_
    refine fl_start ?_
    generalize ha : Act.mk _ _ = a0
    have hn : a0.tmps.size = 33 := by rw [← ha]; kernel_rfl
    have h1 : (fr a0 []).eval (.tmp 1) = .pointer (some ⟨b, 0, none⟩) := by rw [← ha]; kernel_rfl
    refine fl_know hn rfl h1 ?_
    clear h1
    refine g_fdL hn ?_
    refine g_stc HX.out (st_int (j := 5) HX.out (by simp) 0) ?_
    intro w2 ho hX2
    simp only [List.setIfInBounds_toArray, List.set_cons_zero, List.set_cons_succ] at hX2
    replace HO := HO.trans ho
    replace HX := Lib.hid hX2
    clear hX2 ho
    refine g_fdL hn ?_
    refine g_stc HX.out (st_sR (j := 13) HX.out (by simp)) ?_
    intro w2 ho hX2
    simp only [List.setIfInBounds_toArray, List.set_cons_zero, List.set_cons_succ] at hX2
    replace HO := HO.trans ho
    replace HX := Lib.hid hX2
    clear hX2 ho
    refine fl_end ?_
    clear hn
    subst ha
    dsimp only [fr, cnd, Act.put, cond_true]
    simp only [List.setIfInBounds_toArray, List.set_cons_zero, List.set_cons_succ]
    go_upto_region 9 with fail
    refine wp_region_lit ?_
    refine fl_start ?_
    generalize ha : Act.mk _ _ = a0
    have hn : a0.tmps.size = 33 := by rw [← ha]; kernel_rfl
    have h1 : (fr a0 []).eval (.tmp 1) = .pointer (some ⟨b, 0, none⟩) := by rw [← ha]; kernel_rfl
    refine fl_know hn rfl h1 ?_
    clear h1
    refine g_fdL hn ?_
    refine g_stc HX.out (st_int (j := 1) HX.out (by simp) 0) ?_
    intro w2 ho hX2
    simp only [List.setIfInBounds_toArray, List.set_cons_zero, List.set_cons_succ] at hX2
    replace HO := HO.trans ho
    replace HX := Lib.hid hX2
    clear hX2 ho
    refine g_fdL hn ?_
    refine g_stc HX.out (st_int (j := 2) HX.out (by simp) 0) ?_
    intro w2 ho hX2
    simp only [List.setIfInBounds_toArray, List.set_cons_zero, List.set_cons_succ] at hX2
    replace HO := HO.trans ho
    replace HX := Lib.hid hX2
    clear hX2 ho
    refine g_fdL hn ?_
    refine g_stc HX.out (st_int (j := 3) HX.out (by simp) 0) ?_
    intro w2 ho hX2
    simp only [List.setIfInBounds_toArray, List.set_cons_zero, List.set_cons_succ] at hX2
    replace HO := HO.trans ho
    replace HX := Lib.hid hX2
    clear hX2 ho
    refine g_fdL hn ?_
    refine g_stc HX.out (st_int (j := 4) HX.out (by simp) 0) ?_
    intro w2 ho hX2
    simp only [List.setIfInBounds_toArray, List.set_cons_zero, List.set_cons_succ] at hX2
    replace HO := HO.trans ho
    replace HX := Lib.hid hX2
    clear hX2 ho
    refine fl_end ?_
    clear hn
    subst ha
    dsimp only [fr, cnd, Act.put, cond_true]
    simp only [List.setIfInBounds_toArray, List.set_cons_zero, List.set_cons_succ]
    have eU : unU x = _ := if_pos k1
    have eH : unH x.k h = _ := if_pos k1
    have HX3 : Blk w2 b (ltI (unU x) (unH x.k h)) 58 := by
      rw [eU, eH]
      exact HX.out
    replace HX := Lib.hid HX3
    have HY2 := Lib.hid (HY.out.only HO hne)
    clear HX3 eU eH HY
    generalize hy : unU x = y at HX
    generalize hh : unH x.k h = h2 at HX
    go_upto_region 10 with fail
    refine wp_region_lit ?_
    refine fl_start ?_
    generalize ha : Act.mk _ _ = a0
    have hn : a0.tmps.size = 33 := by rw [← ha]; kernel_rfl
    have h1 : (fr a0 []).eval (.tmp 1) = .pointer (some ⟨b, 0, none⟩) := by rw [← ha]; kernel_rfl
    refine fl_know hn rfl h1 ?_
    clear h1
    have h2 : (fr a0 [(1, true, .pointer (some ⟨b, 0, none⟩))]).eval (.tmp 2) = .pointer (some ⟨b + 1, 0, none⟩) := by rw [← ha]; kernel_rfl
    refine fl_know hn rfl h2 ?_
    clear h2
    refine g_ldA hn HX.out ?_
    refine g_str HY2.out ?_ (h1 := lt_one y h2)
    intro w2 ho hY3
    refine fl_end ?_
    clear hn
    subst ha
    dsimp only [fr, cnd, Act.put, cond_true]
    simp only [List.setIfInBounds_toArray, List.set_cons_zero, List.set_cons_succ]
    go_wp2_with fail
    refine bodyPost_ret (results_cell_row Tryz.results46 _ _ (b + 1) 58 (ltI y h2) (0, 0) _ (by rfl) hY3 Tryz.underlying58 (by rfl) (by kernel_rfl)) rfl ?_
    exact ⟨by rw [hy, hh], by rw [hb]; exact (hB.trans (HO.below (Nat.le_refl _))).trans (ho.below (Nat.le_succ _))⟩
  · by_cases k2 : x.k = 2
    · rw [k2] at q0
      go_upto_region 5 with fail
      refine wp_region_lit ?_
      refine fl_start ?_
      generalize ha : Act.mk _ _ = a0
      have hn : a0.tmps.size = 33 := by rw [← ha]; kernel_rfl
      have h1 : (fr a0 []).eval (.tmp 1) = .pointer (some ⟨b, 0, none⟩) := by rw [← ha]; kernel_rfl
      refine fl_know hn rfl h1 ?_
      clear h1
      refine g_fdL hn ?_
      refine g_stc HX.out (st_int (j := 5) HX.out (by simp) 0) ?_
      intro w2 ho hX2
      simp only [List.setIfInBounds_toArray, List.set_cons_zero, List.set_cons_succ] at hX2
      replace HO := HO.trans ho
      replace HX := Lib.hid hX2
      clear hX2 ho
      refine g_fdL hn ?_
      refine g_stc HX.out (st_int (j := 6) HX.out (by simp) 0) ?_
      intro w2 ho hX2
      simp only [List.setIfInBounds_toArray, List.set_cons_zero, List.set_cons_succ] at hX2
      replace HO := HO.trans ho
      replace HX := Lib.hid hX2
      clear hX2 ho
      refine g_fdL hn ?_
      refine g_stc HX.out (st_int (j := 7) HX.out (by simp) 0) ?_
      intro w2 ho hX2
      simp only [List.setIfInBounds_toArray, List.set_cons_zero, List.set_cons_succ] at hX2
      replace HO := HO.trans ho
      replace HX := Lib.hid hX2
      clear hX2 ho
      refine g_fdL hn ?_
      refine g_stc HX.out (st_int (j := 8) HX.out (by simp) 0) ?_
      intro w2 ho hX2
      simp only [List.setIfInBounds_toArray, List.set_cons_zero, List.set_cons_succ] at hX2
      replace HO := HO.trans ho
      replace HX := Lib.hid hX2
      clear hX2 ho
      refine g_fdL hn ?_
      refine g_stc HX.out (st_sW (j := 14) HX.out (by simp)) ?_
      intro w2 ho hX2
      simp only [List.setIfInBounds_toArray, List.set_cons_zero, List.set_cons_succ] at hX2
      replace HO := HO.trans ho
      replace HX := Lib.hid hX2
      clear hX2 ho
      refine fl_end ?_
      clear hn
      subst ha
      dsimp only [fr, cnd, Act.put, cond_true]
      simp only [List.setIfInBounds_toArray, List.set_cons_zero, List.set_cons_succ]
      go_upto_region 9 with fail
      refine wp_region_lit ?_
      refine fl_start ?_
      generalize ha : Act.mk _ _ = a0
      have hn : a0.tmps.size = 33 := by rw [← ha]; kernel_rfl
      have h1 : (fr a0 []).eval (.tmp 1) = .pointer (some ⟨b, 0, none⟩) := by rw [← ha]; kernel_rfl
      refine fl_know hn rfl h1 ?_
      clear h1
      refine g_fdL hn ?_
      refine g_stc HX.out (st_int (j := 1) HX.out (by simp) 0) ?_
      intro w2 ho hX2
      simp only [List.setIfInBounds_toArray, List.set_cons_zero, List.set_cons_succ] at hX2
      replace HO := HO.trans ho
      replace HX := Lib.hid hX2
      clear hX2 ho
      refine g_fdL hn ?_
      refine g_stc HX.out (st_int (j := 2) HX.out (by simp) 0) ?_
      intro w2 ho hX2
      simp only [List.setIfInBounds_toArray, List.set_cons_zero, List.set_cons_succ] at hX2
      replace HO := HO.trans ho
      replace HX := Lib.hid hX2
      clear hX2 ho
      refine g_fdL hn ?_
      refine g_stc HX.out (st_int (j := 3) HX.out (by simp) 0) ?_
      intro w2 ho hX2
      simp only [List.setIfInBounds_toArray, List.set_cons_zero, List.set_cons_succ] at hX2
      replace HO := HO.trans ho
      replace HX := Lib.hid hX2
      clear hX2 ho
      refine g_fdL hn ?_
      refine g_stc HX.out (st_int (j := 4) HX.out (by simp) 0) ?_
      intro w2 ho hX2
      simp only [List.setIfInBounds_toArray, List.set_cons_zero, List.set_cons_succ] at hX2
      replace HO := HO.trans ho
      replace HX := Lib.hid hX2
      clear hX2 ho
      refine fl_end ?_
      clear hn
      subst ha
      dsimp only [fr, cnd, Act.put, cond_true]
      simp only [List.setIfInBounds_toArray, List.set_cons_zero, List.set_cons_succ]
      have eU : unU x = _ := (if_neg k1).trans (if_pos k2)
      have eH : unH x.k h = _ := (if_neg k1).trans (if_pos k2)
      have HX3 : Blk w2 b (ltI (unU x) (unH x.k h)) 58 := by
        rw [eU, eH]
        exact HX.out
      replace HX := Lib.hid HX3
      have HY2 := Lib.hid (HY.out.only HO hne)
      clear HX3 eU eH HY
      generalize hy : unU x = y at HX
      generalize hh : unH x.k h = h2 at HX
      go_upto_region 10 with fail
      refine wp_region_lit ?_
      refine fl_start ?_
      generalize ha : Act.mk _ _ = a0
      have hn : a0.tmps.size = 33 := by rw [← ha]; kernel_rfl
      have h1 : (fr a0 []).eval (.tmp 1) = .pointer (some ⟨b, 0, none⟩) := by rw [← ha]; kernel_rfl
      refine fl_know hn rfl h1 ?_
      clear h1
      have h2 : (fr a0 [(1, true, .pointer (some ⟨b, 0, none⟩))]).eval (.tmp 2) = .pointer (some ⟨b + 1, 0, none⟩) := by rw [← ha]; kernel_rfl
      refine fl_know hn rfl h2 ?_
      clear h2
      refine g_ldA hn HX.out ?_
      refine g_str HY2.out ?_ (h1 := lt_one y h2)
      intro w2 ho hY3
      refine fl_end ?_
      clear hn
      subst ha
      dsimp only [fr, cnd, Act.put, cond_true]
      simp only [List.setIfInBounds_toArray, List.set_cons_zero, List.set_cons_succ]
      go_wp2_with fail
      refine bodyPost_ret (results_cell_row Tryz.results46 _ _ (b + 1) 58 (ltI y h2) (0, 0) _ (by rfl) hY3 Tryz.underlying58 (by rfl) (by kernel_rfl)) rfl ?_
      exact ⟨by rw [hy, hh], by rw [hb]; exact (hB.trans (HO.below (Nat.le_refl _))).trans (ho.below (Nat.le_succ _))⟩
    · by_cases k3 : x.k = 3
      · rw [k3] at q0
        go_upto_region 7 with fail
        refine wp_region_lit ?_
        refine fl_start ?_
        generalize ha : Act.mk _ _ = a0
        have hn : a0.tmps.size = 33 := by rw [← ha]; kernel_rfl
        have h1 : (fr a0 []).eval (.tmp 1) = .pointer (some ⟨b, 0, none⟩) := by rw [← ha]; kernel_rfl
        refine fl_know hn rfl h1 ?_
        clear h1
        refine g_fdL hn ?_
        refine g_stc HX.out (st_int (j := 8) HX.out (by simp) 0) ?_
        intro w2 ho hX2
        simp only [List.setIfInBounds_toArray, List.set_cons_zero, List.set_cons_succ] at hX2
        replace HO := HO.trans ho
        replace HX := Lib.hid hX2
        clear hX2 ho
        refine g_fdL hn ?_
        refine g_stc HX.out (st_int (j := 9) HX.out (by simp) 0) ?_
        intro w2 ho hX2
        simp only [List.setIfInBounds_toArray, List.set_cons_zero, List.set_cons_succ] at hX2
        replace HO := HO.trans ho
        replace HX := Lib.hid hX2
        clear hX2 ho
        refine g_fdL hn ?_
        refine g_stc HX.out (st_int (j := 10) HX.out (by simp) 0) ?_
        intro w2 ho hX2
        simp only [List.setIfInBounds_toArray, List.set_cons_zero, List.set_cons_succ] at hX2
        replace HO := HO.trans ho
        replace HX := Lib.hid hX2
        clear hX2 ho
        refine g_fdL hn ?_
        refine g_stc HX.out (st_int (j := 11) HX.out (by simp) 0) ?_
        intro w2 ho hX2
        simp only [List.setIfInBounds_toArray, List.set_cons_zero, List.set_cons_succ] at hX2
        replace HO := HO.trans ho
        replace HX := Lib.hid hX2
        clear hX2 ho
        refine g_fdL hn ?_
        refine g_stc HX.out (st_sL (j := 15) HX.out (by simp)) ?_
        intro w2 ho hX2
        simp only [List.setIfInBounds_toArray, List.set_cons_zero, List.set_cons_succ] at hX2
        replace HO := HO.trans ho
        replace HX := Lib.hid hX2
        clear hX2 ho
        refine g_fdL hn ?_
        refine g_stc HX.out (st_sW (j := 14) HX.out (by simp)) ?_
        intro w2 ho hX2
        simp only [List.setIfInBounds_toArray, List.set_cons_zero, List.set_cons_succ] at hX2
        replace HO := HO.trans ho
        replace HX := Lib.hid hX2
        clear hX2 ho
        refine fl_end ?_
        clear hn
        subst ha
        dsimp only [fr, cnd, Act.put, cond_true]
        simp only [List.setIfInBounds_toArray, List.set_cons_zero, List.set_cons_succ]
        go_upto_region 8 with fail
        refine wp_region_lit ?_
        refine fl_start ?_
        generalize ha : Act.mk _ _ = a0
        have hn : a0.tmps.size = 33 := by rw [← ha]; kernel_rfl
        have h1 : (fr a0 []).eval (.tmp 1) = .pointer (some ⟨b, 0, none⟩) := by rw [← ha]; kernel_rfl
        refine fl_know hn rfl h1 ?_
        clear h1
        refine g_b0 hn ?_ (v := .agg (laI 0 0 0 0 0 0 0 0 0 0 0 0)) (hr := by kernel_rfl)
        refine g_fdL hn ?_
        refine g_stc HX.out (st_bool (j := 12) HX.out (by simp) false) ?_
        intro w2 ho hX2
        simp only [List.setIfInBounds_toArray, List.set_cons_zero, List.set_cons_succ] at hX2
        replace HO := HO.trans ho
        replace HX := Lib.hid hX2
        clear hX2 ho
        refine g_fdL hn ?_
        refine g_stc HX.out (st_sC (j := 16) HX.out (by simp)) ?_
        intro w2 ho hX2
        simp only [List.setIfInBounds_toArray, List.set_cons_zero, List.set_cons_succ] at hX2
        replace HO := HO.trans ho
        replace HX := Lib.hid hX2
        clear hX2 ho
        refine g_fdL hn ?_
        refine g_stm HX.out ?_ (h1 := by simp [Value.oneCell'])
        intro w2 ho hX2
        simp only [setL, List.setIfInBounds_toArray, List.set_cons_zero, List.set_cons_succ] at hX2
        replace HO := HO.trans ho
        replace HX := Lib.hid hX2
        clear hX2 ho
        refine fl_end ?_
        clear hn
        subst ha
        dsimp only [fr, cnd, Act.put, cond_true]
        simp only [List.setIfInBounds_toArray, List.set_cons_zero, List.set_cons_succ]
        go_upto_region 9 with fail
        refine wp_region_lit ?_
        refine fl_start ?_
        generalize ha : Act.mk _ _ = a0
        have hn : a0.tmps.size = 33 := by rw [← ha]; kernel_rfl
        have h1 : (fr a0 []).eval (.tmp 1) = .pointer (some ⟨b, 0, none⟩) := by rw [← ha]; kernel_rfl
        refine fl_know hn rfl h1 ?_
        clear h1
        refine g_fdL hn ?_
        refine g_stc HX.out (st_int (j := 1) HX.out (by simp) 0) ?_
        intro w2 ho hX2
        simp only [List.setIfInBounds_toArray, List.set_cons_zero, List.set_cons_succ] at hX2
        replace HO := HO.trans ho
        replace HX := Lib.hid hX2
        clear hX2 ho
        refine g_fdL hn ?_
        refine g_stc HX.out (st_int (j := 2) HX.out (by simp) 0) ?_
        intro w2 ho hX2
        simp only [List.setIfInBounds_toArray, List.set_cons_zero, List.set_cons_succ] at hX2
        replace HO := HO.trans ho
        replace HX := Lib.hid hX2
        clear hX2 ho
        refine g_fdL hn ?_
        refine g_stc HX.out (st_int (j := 3) HX.out (by simp) 0) ?_
        intro w2 ho hX2
        simp only [List.setIfInBounds_toArray, List.set_cons_zero, List.set_cons_succ] at hX2
        replace HO := HO.trans ho
        replace HX := Lib.hid hX2
        clear hX2 ho
        refine g_fdL hn ?_
        refine g_stc HX.out (st_int (j := 4) HX.out (by simp) 0) ?_
        intro w2 ho hX2
        simp only [List.setIfInBounds_toArray, List.set_cons_zero, List.set_cons_succ] at hX2
        replace HO := HO.trans ho
        replace HX := Lib.hid hX2
        clear hX2 ho
        refine fl_end ?_
        clear hn
        subst ha
        dsimp only [fr, cnd, Act.put, cond_true]
        simp only [List.setIfInBounds_toArray, List.set_cons_zero, List.set_cons_succ]
        have eU : unU x = _ := (if_neg k1).trans ((if_neg k2).trans (if_pos k3))
        have eH : unH x.k h = _ := (if_neg k1).trans ((if_neg k2).trans (if_pos k3))
        have HX3 : Blk w2 b (ltI (unU x) (unH x.k h)) 58 := by
          rw [eU, eH]
          exact HX.out
        replace HX := Lib.hid HX3
        have HY2 := Lib.hid (HY.out.only HO hne)
        clear HX3 eU eH HY
        generalize hy : unU x = y at HX
        generalize hh : unH x.k h = h2 at HX
        go_upto_region 10 with fail
        refine wp_region_lit ?_
        refine fl_start ?_
        generalize ha : Act.mk _ _ = a0
        have hn : a0.tmps.size = 33 := by rw [← ha]; kernel_rfl
        have h1 : (fr a0 []).eval (.tmp 1) = .pointer (some ⟨b, 0, none⟩) := by rw [← ha]; kernel_rfl
        refine fl_know hn rfl h1 ?_
        clear h1
        have h2 : (fr a0 [(1, true, .pointer (some ⟨b, 0, none⟩))]).eval (.tmp 2) = .pointer (some ⟨b + 1, 0, none⟩) := by rw [← ha]; kernel_rfl
        refine fl_know hn rfl h2 ?_
        clear h2
        refine g_ldA hn HX.out ?_
        refine g_str HY2.out ?_ (h1 := lt_one y h2)
        intro w2 ho hY3
        refine fl_end ?_
        clear hn
        subst ha
        dsimp only [fr, cnd, Act.put, cond_true]
        simp only [List.setIfInBounds_toArray, List.set_cons_zero, List.set_cons_succ]
        go_wp2_with fail
        refine bodyPost_ret (results_cell_row Tryz.results46 _ _ (b + 1) 58 (ltI y h2) (0, 0) _ (by rfl) hY3 Tryz.underlying58 (by rfl) (by kernel_rfl)) rfl ?_
        exact ⟨by rw [hy, hh], by rw [hb]; exact (hB.trans (HO.below (Nat.le_refl _))).trans (ho.below (Nat.le_succ _))⟩
      · have i1 : (x.k == 1) = false := by simpa using k1
        have i2 : (x.k == 2) = false := by simpa using k2
        have i3 : (x.k == 3) = false := by simpa using k3
        go_upto_region 9 with fail
        refine wp_region_lit ?_
        refine fl_start ?_
        generalize ha : Act.mk _ _ = a0
        have hn : a0.tmps.size = 33 := by rw [← ha]; kernel_rfl
        have h1 : (fr a0 []).eval (.tmp 1) = .pointer (some ⟨b, 0, none⟩) := by rw [← ha]; kernel_rfl
        refine fl_know hn rfl h1 ?_
        clear h1
        refine g_fdL hn ?_
        refine g_stc HX.out (st_int (j := 1) HX.out (by simp) 0) ?_
        intro w2 ho hX2
        simp only [List.setIfInBounds_toArray, List.set_cons_zero, List.set_cons_succ] at hX2
        replace HO := HO.trans ho
        replace HX := Lib.hid hX2
        clear hX2 ho
        refine g_fdL hn ?_
        refine g_stc HX.out (st_int (j := 2) HX.out (by simp) 0) ?_
        intro w2 ho hX2
        simp only [List.setIfInBounds_toArray, List.set_cons_zero, List.set_cons_succ] at hX2
        replace HO := HO.trans ho
        replace HX := Lib.hid hX2
        clear hX2 ho
        refine g_fdL hn ?_
        refine g_stc HX.out (st_int (j := 3) HX.out (by simp) 0) ?_
        intro w2 ho hX2
        simp only [List.setIfInBounds_toArray, List.set_cons_zero, List.set_cons_succ] at hX2
        replace HO := HO.trans ho
        replace HX := Lib.hid hX2
        clear hX2 ho
        refine g_fdL hn ?_
        refine g_stc HX.out (st_int (j := 4) HX.out (by simp) 0) ?_
        intro w2 ho hX2
        simp only [List.setIfInBounds_toArray, List.set_cons_zero, List.set_cons_succ] at hX2
        replace HO := HO.trans ho
        replace HX := Lib.hid hX2
        clear hX2 ho
        refine fl_end ?_
        clear hn
        subst ha
        dsimp only [fr, cnd, Act.put, cond_true]
        simp only [List.setIfInBounds_toArray, List.set_cons_zero, List.set_cons_succ]
        have eU : unU x = _ := (if_neg k1).trans ((if_neg k2).trans (if_neg k3))
        have eH : unH x.k h = _ := (if_neg k1).trans ((if_neg k2).trans (if_neg k3))
        have HX3 : Blk w2 b (ltI (unU x) (unH x.k h)) 58 := by
          rw [eU, eH]
          exact HX.out
        replace HX := Lib.hid HX3
        have HY2 := Lib.hid (HY.out.only HO hne)
        clear HX3 eU eH HY
        generalize hy : unU x = y at HX
        generalize hh : unH x.k h = h2 at HX
        go_upto_region 10 with fail
        refine wp_region_lit ?_
        refine fl_start ?_
        generalize ha : Act.mk _ _ = a0
        have hn : a0.tmps.size = 33 := by rw [← ha]; kernel_rfl
        have h1 : (fr a0 []).eval (.tmp 1) = .pointer (some ⟨b, 0, none⟩) := by rw [← ha]; kernel_rfl
        refine fl_know hn rfl h1 ?_
        clear h1
        have h2 : (fr a0 [(1, true, .pointer (some ⟨b, 0, none⟩))]).eval (.tmp 2) = .pointer (some ⟨b + 1, 0, none⟩) := by rw [← ha]; kernel_rfl
        refine fl_know hn rfl h2 ?_
        clear h2
        refine g_ldA hn HX.out ?_
        refine g_str HY2.out ?_ (h1 := lt_one y h2)
        intro w2 ho hY3
        refine fl_end ?_
        clear hn
        subst ha
        dsimp only [fr, cnd, Act.put, cond_true]
        simp only [List.setIfInBounds_toArray, List.set_cons_zero, List.set_cons_succ]
        go_wp2_with fail
        refine bodyPost_ret (results_cell_row Tryz.results46 _ _ (b + 1) 58 (ltI y h2) (0, 0) _ (by rfl) hY3 Tryz.underlying58 (by rfl) (by kernel_rfl)) rfl ?_
        exact ⟨by rw [hy, hh], by rw [hb]; exact (hB.trans (HO.below (Nat.le_refl _))).trans (ho.below (Nat.le_succ _))⟩

end Go.Proofs.YtpjleeeligahaaaGreatDoor
