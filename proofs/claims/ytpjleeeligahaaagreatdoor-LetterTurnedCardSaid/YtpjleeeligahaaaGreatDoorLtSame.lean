/-
  WHAT IS PROVED: the document's Same of letters tells whether all is the same; the law's Ref hands a letter over as it is. Conditions: those typed in each theorem.
-/
import Derived.Test.YtpjleeeligahaaaGreatDoorGQ16
import Derived.Test.YtpjleeeligahaaaGreatDoorFastH
import Derived.Test.YtpjleeeligahaaaGreatDoorGQ3
import Derived.Test.YtpjleeeligahaaaGreatDoorGQ12
namespace Go.Proofs.YtpjleeeligahaaaGreatDoor
open Go.RowKit

noncomputable def sameLt (x y : Lt) : Bool := ((((((((((((((((((x.k == y.k) && (x.fr == y.fr)) && (x.tt == y.tt)) && (x.li == y.li)) && (x.tu == y.tu)) && (x.pr == y.pr)) && (x.lo == y.lo)) && (x.fi == y.fi)) && (x.st == y.st)) && (x.ta == y.ta)) && (x.sr == y.sr)) && (x.en == y.en)) && (x.sn == y.sn)) && sameB x.re y.re) && sameW x.ws y.ws) && sameG x.ls y.ls) && sameG x.cs y.cs) && decide (x.la = y.la))
structure LtM (x : Lt) : Prop where
  m1 : x.re.length ≤ 1000000
  m2 : x.ws.length ≤ 1000000
  m3 : x.ls.length ≤ 1000000
  m4 : x.cs.length ≤ 1000000
theorem enters_s04 : ∀ args w, (callFunc 50 args).run Tryz.prog w = .ok (.enter 50 args) w := enters_of Tryz.func50 (by kernel_rfl) rfl
theorem enters_s03 : ∀ args w, (callFunc 51 args).run Tryz.prog w = .ok (.enter 51 args) w := enters_of Tryz.func51 (by kernel_rfl) rfl
theorem enters_s07 : ∀ args w, (callFunc 13 args).run Tryz.prog w = .ok (.enter 13 args) w := enters_of Tryz.func13 (by kernel_rfl) rfl
theorem enters_s07c : ∀ args w, (callFunc 52 args).run Tryz.prog w = .ok (.enter 52 args) w := enters_of Tryz.func52 (by kernel_rfl) rfl
theorem enters_sameLt : ∀ args w, (callFunc 21 args).run Tryz.prog w = .ok (.enter 21 args) w := enters_of Tryz.func21 (by kernel_rfl) rfl

theorem eq_sn (a b : Bool) (W : World) : ((do eqGuard .eql 4 (.tmp 89) (.tmp 91) (.bool a) (.bool b); binOp .eql 4 (.bool a) (.bool b)) : Sem Value).run Tryz.prog W = .ok (.bool (a == b)) W := by
  cases a <;> cases b <;> go_simp
theorem eq_la (x y : Lt) (W : World) : ((do eqGuard .eql 55 (.tmp 124) (.tmp 126) (.agg (laI x.a0 x.a1 x.a2 x.a3 x.a4 x.a5 x.a6 x.a7 x.a8 x.a9 x.a10 x.a11)) (.agg (laI y.a0 y.a1 y.a2 y.a3 y.a4 y.a5 y.a6 y.a7 y.a8 y.a9 y.a10 y.a11)); binOp .eql 55 (.agg (laI x.a0 x.a1 x.a2 x.a3 x.a4 x.a5 x.a6 x.a7 x.a8 x.a9 x.a10 x.a11)) (.agg (laI y.a0 y.a1 y.a2 y.a3 y.a4 y.a5 y.a6 y.a7 y.a8 y.a9 y.a10 y.a11))) : Sem Value).run Tryz.prog W = .ok (.bool (decide (x.la = y.la))) W := by
  generalize hb : decide (x.la = y.la) = bb
  go_simp
  rw [la_eqI]
  simp only [Result.andThen_ok]
  rw [← hb]
set_option maxRecDepth 100000 in
set_option maxHeartbeats 8000000 in
theorem refLtSame_any {B C : Nat} (x y : Lt) (h k : Hn) (w : World) (hr : LtR B w x h) (hrY : LtR C w y k) (hBw : B ≤ w.heap.size) (hCw : C ≤ w.heap.size) (hm : LtM x) : Calls Tryz.prog 21 #[.agg (ltI x h), .agg (ltI y k)] w fun e w' => e = .returned (.bool (sameLt x y)) ∧ Below w.heap.size w w' := by
  go_enter Tryz.func21, Tryz.ntmps21
  go_upto_region 1 with fail
  have hX := (blk_new w (ltI x h) 70).alloc (.cells (ltI y k) 70)
  have hY := blk_new (w.alloc (.cells (ltI x h) 70)) (ltI y k) 70
  have hB := ba (b0 w (.cells (ltI x h) 70)) (.cells (ltI y k) 70)
  have hR := hr.keep hB hBw
  have hRY := hrY.keep hB hCw
  have hs : (w.alloc (.cells (ltI x h) 70)).heap.size = w.heap.size + 1 := by simp
  rw [hs] at hY
  have hwz := hB.size
  generalize (w.alloc (.cells (ltI x h) 70)).alloc (.cells (ltI y k) 70) = W at hX hY hB hR hRY hwz ⊢
  generalize hb : w.heap.size = b at hX hY hB hBw hCw hwz ⊢
  have HX := Lib.hid hX
  have HY := Lib.hid hY
  have HR := Lib.hid hR
  have HRY := Lib.hid hRY
  have HM := Lib.hid hm
  have es := eq_sn x.sn y.sn W
  clear hX hY hR hRY hr hrY hs hm
  refine wp_region_lit ?_
  refine fl_start ?_
  generalize ha : Act.mk _ _ = a0
  have hn : a0.tmps.size = 129 := by rw [← ha]; kernel_rfl
  have h2 : (fr a0 []).eval (.tmp 2) = .pointer (some ⟨b, 0, none⟩) := by rw [← ha]; kernel_rfl
  refine fl_know hn rfl h2 ?_
  clear h2
  have h3 : (fr a0 [(2, true, .pointer (some ⟨b, 0, none⟩))]).eval (.tmp 3) = .pointer (some ⟨b + 1, 0, none⟩) := by rw [← ha]; kernel_rfl
  refine fl_know hn rfl h3 ?_
  clear h3
  repeat first | refine g_mv hn ?_ | refine g_as hn ?_ | refine g_fdD hn ?_ | refine g_ldD hn HX.out ?_ | refine g_ldD hn HY.out ?_ | refine g_fd hn ?_ | refine g_ld hn ?_ | refine g_nc hn ?_ | refine g_nt hn ?_ | refine g_an hn ?_ | refine g_or hn ?_ | refine g_ln hn ?_ | refine g_ex hn ?_ | refine g_neq2 hn ?_ | refine g_neq hn ?_ | refine g_eql2 hn ?_ | refine g_eql hn ?_ | refine g_leq2 hn ?_ | refine g_leq hn ?_ | refine g_lss2 hn ?_ | refine g_lss hn ?_ | refine g_gtr2 hn ?_ | refine g_gtr hn ?_ | refine g_geq2 hn ?_ | refine g_geq hn ?_ | refine g_b0 hn ?_ | refine g_bn hn ?_ | refine g_bc hn ?_ | refine g_cv hn ?_ | refine g_ac hn ?_ | refine g_mc hn ?_
  refine g_c2w enters_s04 hn ((refSame_any h.A1 k.A1 h.n1 h.c1 k.n1 k.c1 x.re y.re _ HR.out.l1 HR.out.r1 (by have := HM.out.m1; have := HR.out.l1; unfold maxLen; omega) HRY.out.l1 HRY.out.r1).mono fun _ _ ⟨he, hd⟩ => ⟨he, hd.below _⟩) ?_
  intro w2 hb2
  replace hB := hB.trans (hb2.mono hwz)
  replace HR := Lib.hid (HR.out.keep hb2 (Nat.le_trans hBw hwz))
  replace HRY := Lib.hid (HRY.out.keep hb2 (Nat.le_trans hCw hwz))
  replace HX := Lib.hid (HX.out.keep hb2)
  replace HY := Lib.hid (HY.out.keep hb2)
  replace hwz := Nat.le_trans hwz hb2.size
  repeat first | refine g_mv hn ?_ | refine g_as hn ?_ | refine g_fdD hn ?_ | refine g_ldD hn HX.out ?_ | refine g_ldD hn HY.out ?_ | refine g_fd hn ?_ | refine g_ld hn ?_ | refine g_nc hn ?_ | refine g_nt hn ?_ | refine g_an hn ?_ | refine g_or hn ?_ | refine g_ln hn ?_ | refine g_ex hn ?_ | refine g_neq2 hn ?_ | refine g_neq hn ?_ | refine g_eql2 hn ?_ | refine g_eql hn ?_ | refine g_leq2 hn ?_ | refine g_leq hn ?_ | refine g_lss2 hn ?_ | refine g_lss hn ?_ | refine g_gtr2 hn ?_ | refine g_gtr hn ?_ | refine g_geq2 hn ?_ | refine g_geq hn ?_ | refine g_b0 hn ?_ | refine g_bn hn ?_ | refine g_bc hn ?_ | refine g_cv hn ?_ | refine g_ac hn ?_ | refine g_mc hn ?_
  refine g_c2w enters_s03 hn ((refWrSame_any h.A2 k.A2 h.n2 h.c2 k.n2 k.c2 x.ws y.ws _ HR.out.l2 HR.out.r2 (Nat.le_trans hBw hwz) (by have := HM.out.m2; have := HR.out.l2; omega) HRY.out.l2 HRY.out.r2 (Nat.le_trans hCw hwz)).mono fun _ _ ⟨he, hd⟩ => ⟨he, hd.below _⟩) ?_
  intro w3 hb3
  replace hB := hB.trans (hb3.mono hwz)
  replace HR := Lib.hid (HR.out.keep hb3 (Nat.le_trans hBw hwz))
  replace HRY := Lib.hid (HRY.out.keep hb3 (Nat.le_trans hCw hwz))
  replace HX := Lib.hid (HX.out.keep hb3)
  replace HY := Lib.hid (HY.out.keep hb3)
  replace hwz := Nat.le_trans hwz hb3.size
  repeat first | refine g_mv hn ?_ | refine g_as hn ?_ | refine g_fdD hn ?_ | refine g_ldD hn HX.out ?_ | refine g_ldD hn HY.out ?_ | refine g_fd hn ?_ | refine g_ld hn ?_ | refine g_nc hn ?_ | refine g_nt hn ?_ | refine g_an hn ?_ | refine g_or hn ?_ | refine g_ln hn ?_ | refine g_ex hn ?_ | refine g_neq2 hn ?_ | refine g_neq hn ?_ | refine g_eql2 hn ?_ | refine g_eql hn ?_ | refine g_leq2 hn ?_ | refine g_leq hn ?_ | refine g_lss2 hn ?_ | refine g_lss hn ?_ | refine g_gtr2 hn ?_ | refine g_gtr hn ?_ | refine g_geq2 hn ?_ | refine g_geq hn ?_ | refine g_b0 hn ?_ | refine g_bn hn ?_ | refine g_bc hn ?_ | refine g_cv hn ?_ | refine g_ac hn ?_ | refine g_mc hn ?_
  refine g_c2w enters_s07 hn ((refSameL_any h.A3 k.A3 h.n3 h.c3 k.n3 k.c3 x.ls y.ls _ HR.out.l3 HR.out.r3 (by have := HM.out.m3; have := HR.out.l3; omega) HRY.out.l3 HRY.out.r3).mono fun _ _ ⟨he, hd⟩ => ⟨he, hd.below _⟩) ?_
  intro w4 hb4
  replace hB := hB.trans (hb4.mono hwz)
  replace HR := Lib.hid (HR.out.keep hb4 (Nat.le_trans hBw hwz))
  replace HRY := Lib.hid (HRY.out.keep hb4 (Nat.le_trans hCw hwz))
  replace HX := Lib.hid (HX.out.keep hb4)
  replace HY := Lib.hid (HY.out.keep hb4)
  replace hwz := Nat.le_trans hwz hb4.size
  repeat first | refine g_mv hn ?_ | refine g_as hn ?_ | refine g_fdD hn ?_ | refine g_ldD hn HX.out ?_ | refine g_ldD hn HY.out ?_ | refine g_fd hn ?_ | refine g_ld hn ?_ | refine g_nc hn ?_ | refine g_nt hn ?_ | refine g_an hn ?_ | refine g_or hn ?_ | refine g_ln hn ?_ | refine g_ex hn ?_ | refine g_neq2 hn ?_ | refine g_neq hn ?_ | refine g_eql2 hn ?_ | refine g_eql hn ?_ | refine g_leq2 hn ?_ | refine g_leq hn ?_ | refine g_lss2 hn ?_ | refine g_lss hn ?_ | refine g_gtr2 hn ?_ | refine g_gtr hn ?_ | refine g_geq2 hn ?_ | refine g_geq hn ?_ | refine g_b0 hn ?_ | refine g_bn hn ?_ | refine g_bc hn ?_ | refine g_cv hn ?_ | refine g_ac hn ?_ | refine g_mc hn ?_
  refine g_c2w enters_s07c hn ((refSameC_any h.A4 k.A4 h.n4 h.c4 k.n4 k.c4 x.cs y.cs _ HR.out.l4 HR.out.r4 (by have := HM.out.m4; have := HR.out.l4; omega) HRY.out.l4 HRY.out.r4).mono fun _ _ ⟨he, hd⟩ => ⟨he, hd.below _⟩) ?_
  intro w5 hb5
  replace hB := hB.trans (hb5.mono hwz)
  replace HR := Lib.hid (HR.out.keep hb5 (Nat.le_trans hBw hwz))
  replace HRY := Lib.hid (HRY.out.keep hb5 (Nat.le_trans hCw hwz))
  replace HX := Lib.hid (HX.out.keep hb5)
  replace HY := Lib.hid (HY.out.keep hb5)
  replace hwz := Nat.le_trans hwz hb5.size
  have el := eq_la x y w5
  repeat first | refine g_mv hn ?_ | refine g_as hn ?_ | refine g_fdD hn ?_ | refine g_ldD hn HX.out ?_ | refine g_ldD hn HY.out ?_ | refine g_fd hn ?_ | refine g_ld hn ?_ | refine g_nc hn ?_ | refine g_nt hn ?_ | refine g_an hn ?_ | refine g_or hn ?_ | refine g_ln hn ?_ | refine g_ex hn ?_ | refine g_neq2 hn ?_ | refine g_neq hn ?_ | refine g_eql2 hn ?_ | refine g_eql hn ?_ | refine g_leq2 hn ?_ | refine g_leq hn ?_ | refine g_lss2 hn ?_ | refine g_lss hn ?_ | refine g_gtr2 hn ?_ | refine g_gtr hn ?_ | refine g_geq2 hn ?_ | refine g_geq hn ?_ | refine g_b0 hn ?_ | refine g_bn hn ?_ | refine g_bc hn ?_ | refine g_cv hn ?_ | refine g_ac hn ?_ | refine g_mc hn ?_
  refine fl_endb (c := sameLt x y) (rfl) ?_
  clear hn es el
  subst ha
  dsimp only [fr, cnd, Act.put, cond_true]
  simp only [List.setIfInBounds_toArray, List.set_cons_zero, List.set_cons_succ]
  go_wp2_with fail
  go_ret
  exact ⟨rfl, by rw [hb]; exact hB⟩

/-! Ref. -/
theorem enters_Ref8 : ∀ args w, (callFunc 22 args).run Tryz.prog w = .ok (.enter 22 args) w := enters_of Tryz.func22 (by kernel_rfl) rfl
theorem enters_lines7 : ∀ args w, (callFunc 8 args).run Tryz.prog w = .ok (.enter 8 args) w := enters_of Tryz.func8 (by kernel_rfl) rfl

/-- A letter as the document has it: its lines lie in a row of their own. -/
abbrev hnL (h : Hn) (A : Option Addr) (c : Nat) : Hn := { h with A3 := A, c3 := c }
def RfR (w : World) (x : Lt) (h : Hn) (v : Value) (w' : World) : Prop := ∃ (A : Option Addr) (c : Nat), v = .agg (ltI x (hnL h A c)) ∧ LtR w'.heap.size w' x (hnL h A c) ∧ Below w.heap.size w w'
theorem bd_lt (x : Lt) (h : Hn) (W : World) : (Instr.build 70 #[(0, .int .i64 x.k), (1, .int .i64 x.fr), (2, .int .i64 x.tt), (3, .int .i64 x.li), (4, .int .i64 x.tu), (5, .int .i64 x.pr), (6, .int .i64 x.lo), (7, .int .i64 x.fi), (8, .int .i64 x.st), (9, .int .i64 x.ta), (10, .int .i64 x.sr), (11, .int .i64 x.en), (12, .bool x.sn), (13, .slice h.A1 h.n1 h.c1), (14, .slice h.A2 h.n2 h.c2), (15, .slice h.A3 h.n3 h.c3), (16, .slice h.A4 h.n4 h.c4), (17, .agg (laI x.a0 x.a1 x.a2 x.a3 x.a4 x.a5 x.a6 x.a7 x.a8 x.a9 x.a10 x.a11))]).run Tryz.prog W = .ok (.agg (ltI x h)) W := by kernel_rfl
set_option maxRecDepth 100000 in
set_option maxHeartbeats 8000000 in
theorem ref8_any {B : Nat} (x : Lt) (h : Hn) (w : World) (hr : LtR B w x h) (hBw : B ≤ w.heap.size) (hm : LtM x) : Calls Tryz.prog 22 #[.agg (ltI x h)] w fun e w' => ∃ v, e = .returned v ∧ RfR w x h v w' := by
  go_enter Tryz.func22, Tryz.ntmps22
  go_upto_region 1 with fail
  have hX := (blk_new w (ltI x h) 58).alloc (.cells ltZ 70)
  have hY := blk_new (w.alloc (.cells (ltI x h) 58)) ltZ 70
  have hB := ba (b0 w (.cells (ltI x h) 58)) (.cells ltZ 70)
  have hR := hr.keep hB hBw
  have hs : (w.alloc (.cells (ltI x h) 58)).heap.size = w.heap.size + 1 := by simp
  rw [hs] at hY
  have hwz := hB.size
  generalize (w.alloc (.cells (ltI x h) 58)).alloc (.cells ltZ 70) = W at hX hY hB hR hwz ⊢
  generalize hb : w.heap.size = b at hX hY hB hBw hwz ⊢
  have HM := Lib.hid hm
  clear hr hs hm
  have cf0 : ∀ W, Blk W b (ltI x h) 58 ∧ (∃ cs, Blk W (b + 1) cs 70 ∧ cs.size = 29) ∧ LtR B W x h ∧ Below b w W ∧ b ≤ W.heap.size → (Instr.fieldAt 58 (.pointer (some ⟨b, 0, none⟩)) 0).run Tryz.prog W = .ok (.pointer (some ⟨b, 0, none⟩)) W := fun W _ => lc_a0 W b
  have cf1 : ∀ W, Blk W b (ltI x h) 58 ∧ (∃ cs, Blk W (b + 1) cs 70 ∧ cs.size = 29) ∧ LtR B W x h ∧ Below b w W ∧ b ≤ W.heap.size → (Instr.fieldAt 58 (.pointer (some ⟨b, 0, none⟩)) 1).run Tryz.prog W = .ok (.pointer (some ⟨b, 1, none⟩)) W := fun W _ => lc_a1 W b
  have cf2 : ∀ W, Blk W b (ltI x h) 58 ∧ (∃ cs, Blk W (b + 1) cs 70 ∧ cs.size = 29) ∧ LtR B W x h ∧ Below b w W ∧ b ≤ W.heap.size → (Instr.fieldAt 58 (.pointer (some ⟨b, 0, none⟩)) 2).run Tryz.prog W = .ok (.pointer (some ⟨b, 2, none⟩)) W := fun W _ => lc_a2 W b
  have cf3 : ∀ W, Blk W b (ltI x h) 58 ∧ (∃ cs, Blk W (b + 1) cs 70 ∧ cs.size = 29) ∧ LtR B W x h ∧ Below b w W ∧ b ≤ W.heap.size → (Instr.fieldAt 58 (.pointer (some ⟨b, 0, none⟩)) 3).run Tryz.prog W = .ok (.pointer (some ⟨b, 3, none⟩)) W := fun W _ => lc_a3 W b
  have cf4 : ∀ W, Blk W b (ltI x h) 58 ∧ (∃ cs, Blk W (b + 1) cs 70 ∧ cs.size = 29) ∧ LtR B W x h ∧ Below b w W ∧ b ≤ W.heap.size → (Instr.fieldAt 58 (.pointer (some ⟨b, 0, none⟩)) 4).run Tryz.prog W = .ok (.pointer (some ⟨b, 4, none⟩)) W := fun W _ => lc_a4 W b
  have cf5 : ∀ W, Blk W b (ltI x h) 58 ∧ (∃ cs, Blk W (b + 1) cs 70 ∧ cs.size = 29) ∧ LtR B W x h ∧ Below b w W ∧ b ≤ W.heap.size → (Instr.fieldAt 58 (.pointer (some ⟨b, 0, none⟩)) 5).run Tryz.prog W = .ok (.pointer (some ⟨b, 5, none⟩)) W := fun W _ => lc_a5 W b
  have cf6 : ∀ W, Blk W b (ltI x h) 58 ∧ (∃ cs, Blk W (b + 1) cs 70 ∧ cs.size = 29) ∧ LtR B W x h ∧ Below b w W ∧ b ≤ W.heap.size → (Instr.fieldAt 58 (.pointer (some ⟨b, 0, none⟩)) 6).run Tryz.prog W = .ok (.pointer (some ⟨b, 6, none⟩)) W := fun W _ => lc_a6 W b
  have cf7 : ∀ W, Blk W b (ltI x h) 58 ∧ (∃ cs, Blk W (b + 1) cs 70 ∧ cs.size = 29) ∧ LtR B W x h ∧ Below b w W ∧ b ≤ W.heap.size → (Instr.fieldAt 58 (.pointer (some ⟨b, 0, none⟩)) 7).run Tryz.prog W = .ok (.pointer (some ⟨b, 7, none⟩)) W := fun W _ => lc_a7 W b
  have cf8 : ∀ W, Blk W b (ltI x h) 58 ∧ (∃ cs, Blk W (b + 1) cs 70 ∧ cs.size = 29) ∧ LtR B W x h ∧ Below b w W ∧ b ≤ W.heap.size → (Instr.fieldAt 58 (.pointer (some ⟨b, 0, none⟩)) 8).run Tryz.prog W = .ok (.pointer (some ⟨b, 8, none⟩)) W := fun W _ => lc_a8 W b
  have cf9 : ∀ W, Blk W b (ltI x h) 58 ∧ (∃ cs, Blk W (b + 1) cs 70 ∧ cs.size = 29) ∧ LtR B W x h ∧ Below b w W ∧ b ≤ W.heap.size → (Instr.fieldAt 58 (.pointer (some ⟨b, 0, none⟩)) 9).run Tryz.prog W = .ok (.pointer (some ⟨b, 9, none⟩)) W := fun W _ => lc_a9 W b
  have cf10 : ∀ W, Blk W b (ltI x h) 58 ∧ (∃ cs, Blk W (b + 1) cs 70 ∧ cs.size = 29) ∧ LtR B W x h ∧ Below b w W ∧ b ≤ W.heap.size → (Instr.fieldAt 58 (.pointer (some ⟨b, 0, none⟩)) 10).run Tryz.prog W = .ok (.pointer (some ⟨b, 10, none⟩)) W := fun W _ => lc_a10 W b
  have cf11 : ∀ W, Blk W b (ltI x h) 58 ∧ (∃ cs, Blk W (b + 1) cs 70 ∧ cs.size = 29) ∧ LtR B W x h ∧ Below b w W ∧ b ≤ W.heap.size → (Instr.fieldAt 58 (.pointer (some ⟨b, 0, none⟩)) 11).run Tryz.prog W = .ok (.pointer (some ⟨b, 11, none⟩)) W := fun W _ => lc_a11 W b
  have cf12 : ∀ W, Blk W b (ltI x h) 58 ∧ (∃ cs, Blk W (b + 1) cs 70 ∧ cs.size = 29) ∧ LtR B W x h ∧ Below b w W ∧ b ≤ W.heap.size → (Instr.fieldAt 58 (.pointer (some ⟨b, 0, none⟩)) 12).run Tryz.prog W = .ok (.pointer (some ⟨b, 12, none⟩)) W := fun W _ => lc_a12 W b
  have cf13 : ∀ W, Blk W b (ltI x h) 58 ∧ (∃ cs, Blk W (b + 1) cs 70 ∧ cs.size = 29) ∧ LtR B W x h ∧ Below b w W ∧ b ≤ W.heap.size → (Instr.fieldAt 58 (.pointer (some ⟨b, 0, none⟩)) 13).run Tryz.prog W = .ok (.pointer (some ⟨b, 13, none⟩)) W := fun W _ => lc_a13 W b
  have cf14 : ∀ W, Blk W b (ltI x h) 58 ∧ (∃ cs, Blk W (b + 1) cs 70 ∧ cs.size = 29) ∧ LtR B W x h ∧ Below b w W ∧ b ≤ W.heap.size → (Instr.fieldAt 58 (.pointer (some ⟨b, 0, none⟩)) 14).run Tryz.prog W = .ok (.pointer (some ⟨b, 14, none⟩)) W := fun W _ => lc_a14 W b
  have cf15 : ∀ W, Blk W b (ltI x h) 58 ∧ (∃ cs, Blk W (b + 1) cs 70 ∧ cs.size = 29) ∧ LtR B W x h ∧ Below b w W ∧ b ≤ W.heap.size → (Instr.fieldAt 58 (.pointer (some ⟨b, 0, none⟩)) 15).run Tryz.prog W = .ok (.pointer (some ⟨b, 15, none⟩)) W := fun W _ => lc_a15 W b
  have cf16 : ∀ W, Blk W b (ltI x h) 58 ∧ (∃ cs, Blk W (b + 1) cs 70 ∧ cs.size = 29) ∧ LtR B W x h ∧ Below b w W ∧ b ≤ W.heap.size → (Instr.fieldAt 58 (.pointer (some ⟨b, 0, none⟩)) 16).run Tryz.prog W = .ok (.pointer (some ⟨b, 16, none⟩)) W := fun W _ => lc_a16 W b
  have cf17 : ∀ W, Blk W b (ltI x h) 58 ∧ (∃ cs, Blk W (b + 1) cs 70 ∧ cs.size = 29) ∧ LtR B W x h ∧ Below b w W ∧ b ≤ W.heap.size → (Instr.fieldAt 58 (.pointer (some ⟨b, 0, none⟩)) 17).run Tryz.prog W = .ok (.pointer (some ⟨b, 17, none⟩)) W := fun W _ => lc_a17 W b
  have cl0 : ∀ W, Blk W b (ltI x h) 58 ∧ (∃ cs, Blk W (b + 1) cs 70 ∧ cs.size = 29) ∧ LtR B W x h ∧ Below b w W ∧ b ≤ W.heap.size → (Instr.loadAt 3 (.pointer (some ⟨b, 0, none⟩))).run Tryz.prog W = .ok (.int .i64 x.k) W := fun W hs => lc_l0 hs.1
  have cl1 : ∀ W, Blk W b (ltI x h) 58 ∧ (∃ cs, Blk W (b + 1) cs 70 ∧ cs.size = 29) ∧ LtR B W x h ∧ Below b w W ∧ b ≤ W.heap.size → (Instr.loadAt 3 (.pointer (some ⟨b, 1, none⟩))).run Tryz.prog W = .ok (.int .i64 x.fr) W := fun W hs => lc_l1 hs.1
  have cl2 : ∀ W, Blk W b (ltI x h) 58 ∧ (∃ cs, Blk W (b + 1) cs 70 ∧ cs.size = 29) ∧ LtR B W x h ∧ Below b w W ∧ b ≤ W.heap.size → (Instr.loadAt 3 (.pointer (some ⟨b, 2, none⟩))).run Tryz.prog W = .ok (.int .i64 x.tt) W := fun W hs => lc_l2 hs.1
  have cl3 : ∀ W, Blk W b (ltI x h) 58 ∧ (∃ cs, Blk W (b + 1) cs 70 ∧ cs.size = 29) ∧ LtR B W x h ∧ Below b w W ∧ b ≤ W.heap.size → (Instr.loadAt 3 (.pointer (some ⟨b, 3, none⟩))).run Tryz.prog W = .ok (.int .i64 x.li) W := fun W hs => lc_l3 hs.1
  have cl4 : ∀ W, Blk W b (ltI x h) 58 ∧ (∃ cs, Blk W (b + 1) cs 70 ∧ cs.size = 29) ∧ LtR B W x h ∧ Below b w W ∧ b ≤ W.heap.size → (Instr.loadAt 3 (.pointer (some ⟨b, 4, none⟩))).run Tryz.prog W = .ok (.int .i64 x.tu) W := fun W hs => lc_l4 hs.1
  have cl5 : ∀ W, Blk W b (ltI x h) 58 ∧ (∃ cs, Blk W (b + 1) cs 70 ∧ cs.size = 29) ∧ LtR B W x h ∧ Below b w W ∧ b ≤ W.heap.size → (Instr.loadAt 3 (.pointer (some ⟨b, 5, none⟩))).run Tryz.prog W = .ok (.int .i64 x.pr) W := fun W hs => lc_l5 hs.1
  have cl6 : ∀ W, Blk W b (ltI x h) 58 ∧ (∃ cs, Blk W (b + 1) cs 70 ∧ cs.size = 29) ∧ LtR B W x h ∧ Below b w W ∧ b ≤ W.heap.size → (Instr.loadAt 3 (.pointer (some ⟨b, 6, none⟩))).run Tryz.prog W = .ok (.int .i64 x.lo) W := fun W hs => lc_l6 hs.1
  have cl7 : ∀ W, Blk W b (ltI x h) 58 ∧ (∃ cs, Blk W (b + 1) cs 70 ∧ cs.size = 29) ∧ LtR B W x h ∧ Below b w W ∧ b ≤ W.heap.size → (Instr.loadAt 3 (.pointer (some ⟨b, 7, none⟩))).run Tryz.prog W = .ok (.int .i64 x.fi) W := fun W hs => lc_l7 hs.1
  have cl8 : ∀ W, Blk W b (ltI x h) 58 ∧ (∃ cs, Blk W (b + 1) cs 70 ∧ cs.size = 29) ∧ LtR B W x h ∧ Below b w W ∧ b ≤ W.heap.size → (Instr.loadAt 3 (.pointer (some ⟨b, 8, none⟩))).run Tryz.prog W = .ok (.int .i64 x.st) W := fun W hs => lc_l8 hs.1
  have cl9 : ∀ W, Blk W b (ltI x h) 58 ∧ (∃ cs, Blk W (b + 1) cs 70 ∧ cs.size = 29) ∧ LtR B W x h ∧ Below b w W ∧ b ≤ W.heap.size → (Instr.loadAt 3 (.pointer (some ⟨b, 9, none⟩))).run Tryz.prog W = .ok (.int .i64 x.ta) W := fun W hs => lc_l9 hs.1
  have cl10 : ∀ W, Blk W b (ltI x h) 58 ∧ (∃ cs, Blk W (b + 1) cs 70 ∧ cs.size = 29) ∧ LtR B W x h ∧ Below b w W ∧ b ≤ W.heap.size → (Instr.loadAt 3 (.pointer (some ⟨b, 10, none⟩))).run Tryz.prog W = .ok (.int .i64 x.sr) W := fun W hs => lc_l10 hs.1
  have cl11 : ∀ W, Blk W b (ltI x h) 58 ∧ (∃ cs, Blk W (b + 1) cs 70 ∧ cs.size = 29) ∧ LtR B W x h ∧ Below b w W ∧ b ≤ W.heap.size → (Instr.loadAt 3 (.pointer (some ⟨b, 11, none⟩))).run Tryz.prog W = .ok (.int .i64 x.en) W := fun W hs => lc_l11 hs.1
  have cl12 : ∀ W, Blk W b (ltI x h) 58 ∧ (∃ cs, Blk W (b + 1) cs 70 ∧ cs.size = 29) ∧ LtR B W x h ∧ Below b w W ∧ b ≤ W.heap.size → (Instr.loadAt 4 (.pointer (some ⟨b, 12, none⟩))).run Tryz.prog W = .ok (.bool x.sn) W := fun W hs => lc_l12 hs.1
  have cl13 : ∀ W, Blk W b (ltI x h) 58 ∧ (∃ cs, Blk W (b + 1) cs 70 ∧ cs.size = 29) ∧ LtR B W x h ∧ Below b w W ∧ b ≤ W.heap.size → (Instr.loadAt 53 (.pointer (some ⟨b, 13, none⟩))).run Tryz.prog W = .ok (.slice h.A1 h.n1 h.c1) W := fun W hs => lc_l13 hs.1
  have cl14 : ∀ W, Blk W b (ltI x h) 58 ∧ (∃ cs, Blk W (b + 1) cs 70 ∧ cs.size = 29) ∧ LtR B W x h ∧ Below b w W ∧ b ≤ W.heap.size → (Instr.loadAt 37 (.pointer (some ⟨b, 14, none⟩))).run Tryz.prog W = .ok (.slice h.A2 h.n2 h.c2) W := fun W hs => lc_l14 hs.1
  have cl15 : ∀ W, Blk W b (ltI x h) 58 ∧ (∃ cs, Blk W (b + 1) cs 70 ∧ cs.size = 29) ∧ LtR B W x h ∧ Below b w W ∧ b ≤ W.heap.size → (Instr.loadAt 22 (.pointer (some ⟨b, 15, none⟩))).run Tryz.prog W = .ok (.slice h.A3 h.n3 h.c3) W := fun W hs => lc_l15 hs.1
  have cl16 : ∀ W, Blk W b (ltI x h) 58 ∧ (∃ cs, Blk W (b + 1) cs 70 ∧ cs.size = 29) ∧ LtR B W x h ∧ Below b w W ∧ b ≤ W.heap.size → (Instr.loadAt 54 (.pointer (some ⟨b, 16, none⟩))).run Tryz.prog W = .ok (.slice h.A4 h.n4 h.c4) W := fun W hs => lc_l16 hs.1
  have cl17 : ∀ W, Blk W b (ltI x h) 58 ∧ (∃ cs, Blk W (b + 1) cs 70 ∧ cs.size = 29) ∧ LtR B W x h ∧ Below b w W ∧ b ≤ W.heap.size → (Instr.loadAt 56 (.pointer (some ⟨b, 17, none⟩))).run Tryz.prog W = .ok (.agg (laI x.a0 x.a1 x.a2 x.a3 x.a4 x.a5 x.a6 x.a7 x.a8 x.a9 x.a10 x.a11)) W := fun W hs => lc_l17 hs.1
  refine fh_start (S := (fun W => Blk W b (ltI x h) 58 ∧ (∃ cs, Blk W (b + 1) cs 70 ∧ cs.size = 29) ∧ LtR B W x h ∧ Below b w W ∧ b ≤ W.heap.size)) (by kernel_rfl) (⟨hX, ⟨_, hY, rfl⟩, hR.keep ((Below.refl B _).drew) (Nat.le_refl _), hB.drew, hwz⟩) (fun hS => ?_)
  generalize ha : Act.mk _ _ = a0
  have hn : a0.tmps.size = 41 := by rw [← ha]; kernel_rfl
  have h1 : (fr a0 []).eval (.tmp 1) = .pointer (some ⟨b, 0, none⟩) := by rw [← ha]; kernel_rfl
  refine fh_know hn rfl h1 ?_
  clear h1
  have h2 : (fr a0 [(1, true, .pointer (some ⟨b, 0, none⟩))]).eval (.tmp 2) = .pointer (some ⟨b + 1, 0, none⟩) := by rw [← ha]; kernel_rfl
  refine fh_know hn rfl h2 ?_
  clear h2
  have hYlt := hY.lt
  clear hX hY hR hB hwz
  first | refine h_mv 0 hn hS ?_ | refine h_as 0 hn hS ?_ | refine h_fd 0 hn hS ?_ | refine h_ld 0 hn hS ?_ | refine h_nc 0 hn hS ?_ | refine h_cv 0 hn hS ?_ | refine h_ex 0 hn hS ?_ | refine h_nt 0 hn hS ?_ | refine h_ix 0 hn hS ?_ | refine h_lk 0 hn hS ?_
  first | refine h_mv 1 hn hS ?_ | refine h_as 1 hn hS ?_ | refine h_fd 1 hn hS ?_ | refine h_ld 1 hn hS ?_ | refine h_nc 1 hn hS ?_ | refine h_cv 1 hn hS ?_ | refine h_ex 1 hn hS ?_ | refine h_nt 1 hn hS ?_ | refine h_ix 1 hn hS ?_ | refine h_lk 1 hn hS ?_
  first | refine h_mv 2 hn hS ?_ | refine h_as 2 hn hS ?_ | refine h_fd 2 hn hS ?_ | refine h_ld 2 hn hS ?_ | refine h_nc 2 hn hS ?_ | refine h_cv 2 hn hS ?_ | refine h_ex 2 hn hS ?_ | refine h_nt 2 hn hS ?_ | refine h_ix 2 hn hS ?_ | refine h_lk 2 hn hS ?_
  first | refine h_mv 3 hn hS ?_ | refine h_as 3 hn hS ?_ | refine h_fd 3 hn hS ?_ | refine h_ld 3 hn hS ?_ | refine h_nc 3 hn hS ?_ | refine h_cv 3 hn hS ?_ | refine h_ex 3 hn hS ?_ | refine h_nt 3 hn hS ?_ | refine h_ix 3 hn hS ?_ | refine h_lk 3 hn hS ?_
  first | refine h_mv 4 hn hS ?_ | refine h_as 4 hn hS ?_ | refine h_fd 4 hn hS ?_ | refine h_ld 4 hn hS ?_ | refine h_nc 4 hn hS ?_ | refine h_cv 4 hn hS ?_ | refine h_ex 4 hn hS ?_ | refine h_nt 4 hn hS ?_ | refine h_ix 4 hn hS ?_ | refine h_lk 4 hn hS ?_
  first | refine h_mv 5 hn hS ?_ | refine h_as 5 hn hS ?_ | refine h_fd 5 hn hS ?_ | refine h_ld 5 hn hS ?_ | refine h_nc 5 hn hS ?_ | refine h_cv 5 hn hS ?_ | refine h_ex 5 hn hS ?_ | refine h_nt 5 hn hS ?_ | refine h_ix 5 hn hS ?_ | refine h_lk 5 hn hS ?_
  first | refine h_mv 6 hn hS ?_ | refine h_as 6 hn hS ?_ | refine h_fd 6 hn hS ?_ | refine h_ld 6 hn hS ?_ | refine h_nc 6 hn hS ?_ | refine h_cv 6 hn hS ?_ | refine h_ex 6 hn hS ?_ | refine h_nt 6 hn hS ?_ | refine h_ix 6 hn hS ?_ | refine h_lk 6 hn hS ?_
  first | refine h_mv 7 hn hS ?_ | refine h_as 7 hn hS ?_ | refine h_fd 7 hn hS ?_ | refine h_ld 7 hn hS ?_ | refine h_nc 7 hn hS ?_ | refine h_cv 7 hn hS ?_ | refine h_ex 7 hn hS ?_ | refine h_nt 7 hn hS ?_ | refine h_ix 7 hn hS ?_ | refine h_lk 7 hn hS ?_
  first | refine h_mv 8 hn hS ?_ | refine h_as 8 hn hS ?_ | refine h_fd 8 hn hS ?_ | refine h_ld 8 hn hS ?_ | refine h_nc 8 hn hS ?_ | refine h_cv 8 hn hS ?_ | refine h_ex 8 hn hS ?_ | refine h_nt 8 hn hS ?_ | refine h_ix 8 hn hS ?_ | refine h_lk 8 hn hS ?_
  first | refine h_mv 9 hn hS ?_ | refine h_as 9 hn hS ?_ | refine h_fd 9 hn hS ?_ | refine h_ld 9 hn hS ?_ | refine h_nc 9 hn hS ?_ | refine h_cv 9 hn hS ?_ | refine h_ex 9 hn hS ?_ | refine h_nt 9 hn hS ?_ | refine h_ix 9 hn hS ?_ | refine h_lk 9 hn hS ?_
  first | refine h_mv 10 hn hS ?_ | refine h_as 10 hn hS ?_ | refine h_fd 10 hn hS ?_ | refine h_ld 10 hn hS ?_ | refine h_nc 10 hn hS ?_ | refine h_cv 10 hn hS ?_ | refine h_ex 10 hn hS ?_ | refine h_nt 10 hn hS ?_ | refine h_ix 10 hn hS ?_ | refine h_lk 10 hn hS ?_
  first | refine h_mv 11 hn hS ?_ | refine h_as 11 hn hS ?_ | refine h_fd 11 hn hS ?_ | refine h_ld 11 hn hS ?_ | refine h_nc 11 hn hS ?_ | refine h_cv 11 hn hS ?_ | refine h_ex 11 hn hS ?_ | refine h_nt 11 hn hS ?_ | refine h_ix 11 hn hS ?_ | refine h_lk 11 hn hS ?_
  first | refine h_mv 12 hn hS ?_ | refine h_as 12 hn hS ?_ | refine h_fd 12 hn hS ?_ | refine h_ld 12 hn hS ?_ | refine h_nc 12 hn hS ?_ | refine h_cv 12 hn hS ?_ | refine h_ex 12 hn hS ?_ | refine h_nt 12 hn hS ?_ | refine h_ix 12 hn hS ?_ | refine h_lk 12 hn hS ?_
  first | refine h_mv 13 hn hS ?_ | refine h_as 13 hn hS ?_ | refine h_fd 13 hn hS ?_ | refine h_ld 13 hn hS ?_ | refine h_nc 13 hn hS ?_ | refine h_cv 13 hn hS ?_ | refine h_ex 13 hn hS ?_ | refine h_nt 13 hn hS ?_ | refine h_ix 13 hn hS ?_ | refine h_lk 13 hn hS ?_
  first | refine h_mv 14 hn hS ?_ | refine h_as 14 hn hS ?_ | refine h_fd 14 hn hS ?_ | refine h_ld 14 hn hS ?_ | refine h_nc 14 hn hS ?_ | refine h_cv 14 hn hS ?_ | refine h_ex 14 hn hS ?_ | refine h_nt 14 hn hS ?_ | refine h_ix 14 hn hS ?_ | refine h_lk 14 hn hS ?_
  first | refine h_mv 15 hn hS ?_ | refine h_as 15 hn hS ?_ | refine h_fd 15 hn hS ?_ | refine h_ld 15 hn hS ?_ | refine h_nc 15 hn hS ?_ | refine h_cv 15 hn hS ?_ | refine h_ex 15 hn hS ?_ | refine h_nt 15 hn hS ?_ | refine h_ix 15 hn hS ?_ | refine h_lk 15 hn hS ?_
  first | refine h_mv 16 hn hS ?_ | refine h_as 16 hn hS ?_ | refine h_fd 16 hn hS ?_ | refine h_ld 16 hn hS ?_ | refine h_nc 16 hn hS ?_ | refine h_cv 16 hn hS ?_ | refine h_ex 16 hn hS ?_ | refine h_nt 16 hn hS ?_ | refine h_ix 16 hn hS ?_ | refine h_lk 16 hn hS ?_
  first | refine h_mv 17 hn hS ?_ | refine h_as 17 hn hS ?_ | refine h_fd 17 hn hS ?_ | refine h_ld 17 hn hS ?_ | refine h_nc 17 hn hS ?_ | refine h_cv 17 hn hS ?_ | refine h_ex 17 hn hS ?_ | refine h_nt 17 hn hS ?_ | refine h_ix 17 hn hS ?_ | refine h_lk 17 hn hS ?_
  first | refine h_mv 18 hn hS ?_ | refine h_as 18 hn hS ?_ | refine h_fd 18 hn hS ?_ | refine h_ld 18 hn hS ?_ | refine h_nc 18 hn hS ?_ | refine h_cv 18 hn hS ?_ | refine h_ex 18 hn hS ?_ | refine h_nt 18 hn hS ?_ | refine h_ix 18 hn hS ?_ | refine h_lk 18 hn hS ?_
  first | refine h_mv 19 hn hS ?_ | refine h_as 19 hn hS ?_ | refine h_fd 19 hn hS ?_ | refine h_ld 19 hn hS ?_ | refine h_nc 19 hn hS ?_ | refine h_cv 19 hn hS ?_ | refine h_ex 19 hn hS ?_ | refine h_nt 19 hn hS ?_ | refine h_ix 19 hn hS ?_ | refine h_lk 19 hn hS ?_
  first | refine h_mv 20 hn hS ?_ | refine h_as 20 hn hS ?_ | refine h_fd 20 hn hS ?_ | refine h_ld 20 hn hS ?_ | refine h_nc 20 hn hS ?_ | refine h_cv 20 hn hS ?_ | refine h_ex 20 hn hS ?_ | refine h_nt 20 hn hS ?_ | refine h_ix 20 hn hS ?_ | refine h_lk 20 hn hS ?_
  first | refine h_mv 21 hn hS ?_ | refine h_as 21 hn hS ?_ | refine h_fd 21 hn hS ?_ | refine h_ld 21 hn hS ?_ | refine h_nc 21 hn hS ?_ | refine h_cv 21 hn hS ?_ | refine h_ex 21 hn hS ?_ | refine h_nt 21 hn hS ?_ | refine h_ix 21 hn hS ?_ | refine h_lk 21 hn hS ?_
  first | refine h_mv 22 hn hS ?_ | refine h_as 22 hn hS ?_ | refine h_fd 22 hn hS ?_ | refine h_ld 22 hn hS ?_ | refine h_nc 22 hn hS ?_ | refine h_cv 22 hn hS ?_ | refine h_ex 22 hn hS ?_ | refine h_nt 22 hn hS ?_ | refine h_ix 22 hn hS ?_ | refine h_lk 22 hn hS ?_
  first | refine h_mv 23 hn hS ?_ | refine h_as 23 hn hS ?_ | refine h_fd 23 hn hS ?_ | refine h_ld 23 hn hS ?_ | refine h_nc 23 hn hS ?_ | refine h_cv 23 hn hS ?_ | refine h_ex 23 hn hS ?_ | refine h_nt 23 hn hS ?_ | refine h_ix 23 hn hS ?_ | refine h_lk 23 hn hS ?_
  first | refine h_mv 24 hn hS ?_ | refine h_as 24 hn hS ?_ | refine h_fd 24 hn hS ?_ | refine h_ld 24 hn hS ?_ | refine h_nc 24 hn hS ?_ | refine h_cv 24 hn hS ?_ | refine h_ex 24 hn hS ?_ | refine h_nt 24 hn hS ?_ | refine h_ix 24 hn hS ?_ | refine h_lk 24 hn hS ?_
  first | refine h_mv 25 hn hS ?_ | refine h_as 25 hn hS ?_ | refine h_fd 25 hn hS ?_ | refine h_ld 25 hn hS ?_ | refine h_nc 25 hn hS ?_ | refine h_cv 25 hn hS ?_ | refine h_ex 25 hn hS ?_ | refine h_nt 25 hn hS ?_ | refine h_ix 25 hn hS ?_ | refine h_lk 25 hn hS ?_
  first | refine h_mv 26 hn hS ?_ | refine h_as 26 hn hS ?_ | refine h_fd 26 hn hS ?_ | refine h_ld 26 hn hS ?_ | refine h_nc 26 hn hS ?_ | refine h_cv 26 hn hS ?_ | refine h_ex 26 hn hS ?_ | refine h_nt 26 hn hS ?_ | refine h_ix 26 hn hS ?_ | refine h_lk 26 hn hS ?_
  first | refine h_mv 27 hn hS ?_ | refine h_as 27 hn hS ?_ | refine h_fd 27 hn hS ?_ | refine h_ld 27 hn hS ?_ | refine h_nc 27 hn hS ?_ | refine h_cv 27 hn hS ?_ | refine h_ex 27 hn hS ?_ | refine h_nt 27 hn hS ?_ | refine h_ix 27 hn hS ?_ | refine h_lk 27 hn hS ?_
  first | refine h_mv 28 hn hS ?_ | refine h_as 28 hn hS ?_ | refine h_fd 28 hn hS ?_ | refine h_ld 28 hn hS ?_ | refine h_nc 28 hn hS ?_ | refine h_cv 28 hn hS ?_ | refine h_ex 28 hn hS ?_ | refine h_nt 28 hn hS ?_ | refine h_ix 28 hn hS ?_ | refine h_lk 28 hn hS ?_
  first | refine h_mv 29 hn hS ?_ | refine h_as 29 hn hS ?_ | refine h_fd 29 hn hS ?_ | refine h_ld 29 hn hS ?_ | refine h_nc 29 hn hS ?_ | refine h_cv 29 hn hS ?_ | refine h_ex 29 hn hS ?_ | refine h_nt 29 hn hS ?_ | refine h_ix 29 hn hS ?_ | refine h_lk 29 hn hS ?_
  first | refine h_mv 30 hn hS ?_ | refine h_as 30 hn hS ?_ | refine h_fd 30 hn hS ?_ | refine h_ld 30 hn hS ?_ | refine h_nc 30 hn hS ?_ | refine h_cv 30 hn hS ?_ | refine h_ex 30 hn hS ?_ | refine h_nt 30 hn hS ?_ | refine h_ix 30 hn hS ?_ | refine h_lk 30 hn hS ?_
  first | refine h_mv 31 hn hS ?_ | refine h_as 31 hn hS ?_ | refine h_fd 31 hn hS ?_ | refine h_ld 31 hn hS ?_ | refine h_nc 31 hn hS ?_ | refine h_cv 31 hn hS ?_ | refine h_ex 31 hn hS ?_ | refine h_nt 31 hn hS ?_ | refine h_ix 31 hn hS ?_ | refine h_lk 31 hn hS ?_
  first | refine h_mv 33 hn hS ?_ | refine h_as 33 hn hS ?_ | refine h_fd 33 hn hS ?_ | refine h_ld 33 hn hS ?_ | refine h_nc 33 hn hS ?_ | refine h_cv 33 hn hS ?_ | refine h_ex 33 hn hS ?_ | refine h_nt 33 hn hS ?_ | refine h_ix 33 hn hS ?_ | refine h_lk 33 hn hS ?_
  first | refine h_mv 34 hn hS ?_ | refine h_as 34 hn hS ?_ | refine h_fd 34 hn hS ?_ | refine h_ld 34 hn hS ?_ | refine h_nc 34 hn hS ?_ | refine h_cv 34 hn hS ?_ | refine h_ex 34 hn hS ?_ | refine h_nt 34 hn hS ?_ | refine h_ix 34 hn hS ?_ | refine h_lk 34 hn hS ?_
  first | refine h_mv 35 hn hS ?_ | refine h_as 35 hn hS ?_ | refine h_fd 35 hn hS ?_ | refine h_ld 35 hn hS ?_ | refine h_nc 35 hn hS ?_ | refine h_cv 35 hn hS ?_ | refine h_ex 35 hn hS ?_ | refine h_nt 35 hn hS ?_ | refine h_ix 35 hn hS ?_ | refine h_lk 35 hn hS ?_
  first | refine h_mv 36 hn hS ?_ | refine h_as 36 hn hS ?_ | refine h_fd 36 hn hS ?_ | refine h_ld 36 hn hS ?_ | refine h_nc 36 hn hS ?_ | refine h_cv 36 hn hS ?_ | refine h_ex 36 hn hS ?_ | refine h_nt 36 hn hS ?_ | refine h_ix 36 hn hS ?_ | refine h_lk 36 hn hS ?_
  refine h_c1 32 enters_lines7 hn (R := fun v w3 => ∃ (A : Option Addr) (c : Nat), v = .slice A h.n3 c ∧ OwnX 75 11 (World.drew W).heap.size w3 A h.n3 c (x.ls.map Ln.cells) ∧ Below (World.drew W).heap.size (World.drew W) w3) ((lines_any h.A3 h.n3 h.c3 x.ls (World.drew W) hS.2.2.1.l3 hS.2.2.1.r3 (Nat.le_trans hBw hS.2.2.2.2) (by have := HM.out.m3; have := hS.2.2.1.l3; omega)).mono fun _ _ ⟨⟨A, c, he, hO⟩, hb2⟩ => ⟨_, he, A, c, rfl, hO, hb2⟩) ?_
  rintro v w3 ⟨A3, c3, rfl, hO3, hb3⟩
  have hsz := hS.2.2.2.2
  replace hS := (show (fun W => Blk W b (ltI x h) 58 ∧ (∃ cs, Blk W (b + 1) cs 70 ∧ cs.size = 29) ∧ LtR B W x h ∧ Below b w W ∧ b ≤ W.heap.size) w3 from ⟨hS.1.keep hb3, (let ⟨cs, hc, hz⟩ := hS.2.1; ⟨cs, hc.keep hb3, hz⟩), hS.2.2.1.keep hb3 (Nat.le_trans hBw hsz), hS.2.2.2.1.trans (hb3.mono hsz), Nat.le_trans hsz hb3.size⟩)
  refine ⟨hS, ?_⟩
  have cb : ∀ W, Blk W b (ltI x h) 58 ∧ (∃ cs, Blk W (b + 1) cs 70 ∧ cs.size = 29) ∧ LtR B W x h ∧ Below b w W ∧ b ≤ W.heap.size → (Instr.build 70 #[(0, .int .i64 x.k), (1, .int .i64 x.fr), (2, .int .i64 x.tt), (3, .int .i64 x.li), (4, .int .i64 x.tu), (5, .int .i64 x.pr), (6, .int .i64 x.lo), (7, .int .i64 x.fi), (8, .int .i64 x.st), (9, .int .i64 x.ta), (10, .int .i64 x.sr), (11, .int .i64 x.en), (12, .bool x.sn), (13, .slice h.A1 h.n1 h.c1), (14, .slice h.A2 h.n2 h.c2), (15, .slice A3 h.n3 c3), (16, .slice h.A4 h.n4 h.c4), (17, .agg (laI x.a0 x.a1 x.a2 x.a3 x.a4 x.a5 x.a6 x.a7 x.a8 x.a9 x.a10 x.a11))]).run Tryz.prog W = .ok (.agg (ltI x (hnL h A3 c3))) W := fun W _ => bd_lt x (hnL h A3 c3) W
  refine h_bd 37 hn hS ?_ (qs := #[(0, .int .i64 x.k), (1, .int .i64 x.fr), (2, .int .i64 x.tt), (3, .int .i64 x.li), (4, .int .i64 x.tu), (5, .int .i64 x.pr), (6, .int .i64 x.lo), (7, .int .i64 x.fi), (8, .int .i64 x.st), (9, .int .i64 x.ta), (10, .int .i64 x.sr), (11, .int .i64 x.en), (12, .bool x.sn), (13, .slice h.A1 h.n1 h.c1), (14, .slice h.A2 h.n2 h.c2), (15, .slice A3 h.n3 c3), (16, .slice h.A4 h.n4 h.c4), (17, .agg (laI x.a0 x.a1 x.a2 x.a3 x.a4 x.a5 x.a6 x.a7 x.a8 x.a9 x.a10 x.a11))]) (hp := fun hk _ => by simp only [List.map_toArray, List.map_cons, List.map_nil, lk_at hk (i := 4) rfl (fun _ => rfl) rfl, lk_at hk (i := 6) rfl (fun _ => rfl) rfl, lk_at hk (i := 8) rfl (fun _ => rfl) rfl, lk_at hk (i := 10) rfl (fun _ => rfl) rfl, lk_at hk (i := 12) rfl (fun _ => rfl) rfl, lk_at hk (i := 14) rfl (fun _ => rfl) rfl, lk_at hk (i := 16) rfl (fun _ => rfl) rfl, lk_at hk (i := 18) rfl (fun _ => rfl) rfl, lk_at hk (i := 20) rfl (fun _ => rfl) rfl, lk_at hk (i := 22) rfl (fun _ => rfl) rfl, lk_at hk (i := 24) rfl (fun _ => rfl) rfl, lk_at hk (i := 26) rfl (fun _ => rfl) rfl, lk_at hk (i := 28) rfl (fun _ => rfl) rfl, lk_at hk (i := 30) rfl (fun _ => rfl) rfl, lk_at hk (i := 32) rfl (fun _ => rfl) rfl, lk_at hk (i := 35) rfl (fun _ => rfl) rfl, lk_at hk (i := 37) rfl (fun _ => rfl) rfl, lk_at hk (i := 39) rfl (fun _ => rfl) rfl])
  have hO4 := only_row w3 (b + 1) (ltI x (hnL h A3 c3))
  obtain ⟨cs, hY3, hz⟩ := hS.2.1
  have hRow := hY3.row (ltI x (hnL h A3 c3))
  have hlt := hY3.lt
  refine fh_skip 38 rfl (w2 := w3.setRow (b + 1) (ltI x (hnL h A3 c3))) (fun hk => run_st (lk_at hk (i := 2) rfl (fun _ => rfl) rfl) (lk_at hk (i := 40) rfl (fun _ => rfl) rfl) (by
    simp only [Instr.storeAt, Instr.sureAddr, Sem.run_bind, Sem.run_pure, Result.andThen_ok]
    exact run_storeVar_row w3 (b + 1) 70 70 cs _ hY3 (by kernel_rfl) hz (lt_one _ _))) ⟨hS.1.only hO4 (by omega), ⟨_, hRow, rfl⟩, hS.2.2.1.keep (hO4.below (B := b) (by omega)) hBw, hS.2.2.2.1.trans (hO4.below (by omega)), by rw [hO4.size]; exact hS.2.2.2.2⟩ ?_ rfl (by kernel_rfl) rfl
  refine fh_end (by kernel_rfl) ?_
  clear hn cb cf0 cl0 cf1 cl1 cf2 cl2 cf3 cl3 cf4 cl4 cf5 cl5 cf6 cl6 cf7 cl7 cf8 cl8 cf9 cl9 cf10 cl10 cf11 cl11 cf12 cl12 cf13 cl13 cf14 cl14 cf15 cl15 cf16 cl16 cf17 cl17
  subst ha
  dsimp only [fr, cnd, Act.put, cond_true]
  simp only [List.setIfInBounds_toArray, List.set_cons_zero, List.set_cons_succ]
  go_wp2_with fail
  refine bodyPost_ret (results_cell_row Tryz.results22 _ _ (b + 1) 70 (ltI x (hnL h A3 c3)) (0, 0) _ (by rfl) hRow Tryz.underlying70 (by rfl) (by kernel_rfl)) rfl ?_
  have hR5 := hS.2.2.1.keep (hO4.below (B := b) (by omega)) hBw
  have hO5 : RdX 11 w3.heap.size (w3.setRow (b + 1) (ltI x (hnL h A3 c3))) A3 (x.ls.map Ln.cells) := fun k cs hk => by
    obtain ⟨ad, hA, hl, hc⟩ := hO3.rd k cs hk
    have hbl : (World.drew W).heap.size ≤ ad.block := (hO3.blk hA).1
    have hne : ad.block ≠ b + 1 := by
      have h1 : b + 1 < (World.drew W).heap.size := by
        have := hb3.size
        show b + 1 < W.heap.size
        exact hYlt
      omega
    exact ⟨ad, hA, hl, fun j v hv => by
      rw [cell_setRow_other _ _ _ _ (by rw [add_block]; exact hne)]
      exact hc j v hv⟩
  have hsz5 : (w3.setRow (b + 1) (ltI x (hnL h A3 c3))).heap.size = w3.heap.size := hO4.size
  have hge : B ≤ (w3.setRow (b + 1) (ltI x (hnL h A3 c3))).heap.size := by rw [hsz5]; exact Nat.le_trans hBw hS.2.2.2.2
  exact ⟨_, rfl, A3, c3, rfl, ⟨hR5.l1, hR5.r1.more hge, hR5.l2, hR5.r2.more hge, hR5.l3, by rw [hsz5]; exact hO5, hR5.l4, hR5.r4.more hge⟩, by rw [hb]; exact hS.2.2.2.1.trans (hO4.below (by omega))⟩
end Go.Proofs.YtpjleeeligahaaaGreatDoor
