/-
  WHAT IS PROVED: the statement LetterTurned (spinneylaw08): a letter's bytes of which one bit is turned aren't decoded. Conditions: those typed in each theorem.
-/
import Derived.Test.YtpjleeeligahaaaGreatDoorGQ16
import Derived.Test.YtpjleeeligahaaaGreatDoorLtSame
import Derived.Test.YtpjleeeligahaaaGreatDoorGQ17
namespace Go.Proofs.YtpjleeeligahaaaGreatDoor
open Go.RowKit

abbrev lt0 : Lt := (⟨0, 0, 0, 0, 0, 0, 0, 0, 0, 0, 0, 0, false, [], [], [], [], 0, 0, 0, 0, 0, 0, 0, 0, 0, 0, 0, 0⟩ : Lt)
theorem wB_most {x : Wr} (h : x.good = true) (hf : x.fits) : (wB x).length ≤ 200 := wB_200 h hf
/-- A good letter that is soon gone through has room in a frame. -/
def fewB (x : Lt) : Bool := decide (x.re.length ≤ 20) && decide (x.ws.length ≤ 60) && decide (x.ls.length ≤ 60) && decide (x.cs.length ≤ 60)
theorem few_in {x : Lt} (h : fewB x = true) : x.re.length ≤ 20 ∧ x.ws.length ≤ 60 ∧ x.ls.length ≤ 60 ∧ x.cs.length ≤ 60 := by
  unfold fewB at h
  simp only [Bool.and_eq_true, decide_eq_true_eq] at h
  exact ⟨h.1.1.1, h.1.1.2, h.1.2, h.2⟩
theorem few_s {x : Lt} (h : fewB x = true) (hg : goodLt x = true) (hf : LtF x) : LtS x := by
  obtain ⟨f1, f2, f3, f4⟩ := few_in h
  obtain ⟨g1, g2, g3, g4, g5, g6⟩ := good_lists hg
  have h0 := nmB_small (good_outs hg).1 11 (by omega)
  have a1 : (x.re.flatMap fun s : ByteArray => textB s.data.toList).length ≤ x.re.length * 109 := flat_most _ fun s hs => text_most (Nat.le_trans (goodR_sizes g1 s hs) (by omega))
  have a2 : (x.ws.flatMap wB).length ≤ x.ws.length * 200 := flat_most _ fun y hy => wB_200 (g3 y hy) (hf.f2 y hy)
  have a3 : (x.ls.flatMap lnB).length ≤ x.ls.length * 209 := flat_most _ fun y hy => by
    have h1 := ln_in (g4 y hy)
    have h2 := wB_200 h1.2 (hf.f3 y hy)
    have h3 := numB_small (n := y.pl.toNat) (by omega)
    unfold lnB
    rw [List.length_append]
    omega
  have a4 : (x.cs.flatMap clB).length ≤ x.cs.length * 300 := flat_most _ fun y hy => clB_most (g5 y hy) (hf.f4 y hy)
  have a5 : (laB x.la).length ≤ x.la.length * 9 := flat_most _ fun y hy => by
    have := la_in g6 y hy
    exact numB_small (n := y.toNat) (by omega)
  have n1 := numB_small (n := x.re.length) (by omega)
  have n2 := numB_small (n := x.ws.length) (by omega)
  have n3 := numB_small (n := x.ls.length) (by omega)
  have n4 := numB_small (n := x.cs.length) (by omega)
  have n5 : (flagB x.sn).length ≤ 1 := by cases x.sn <;> decide
  have n6 : x.la.length = 12 := rfl
  refine ⟨?_, by omega, by omega⟩
  unfold insB hd5 hd4 hd3 hd2 hd1 wsB
  simp only [List.length_append]
  omega
theorem le20 (n : Nat) : decide ((n : Int) ≤ 20) = decide (n ≤ 20) := by
  rw [Bool.eq_iff_iff]
  simp
  omega
theorem le60 (n : Nat) : decide ((n : Int) ≤ 60) = decide (n ≤ 60) := by
  rw [Bool.eq_iff_iff]
  simp
  omega
/-! Few. -/
theorem enters_Few : ∀ args w, (callFunc 18 args).run Tryz.prog w = .ok (.enter 18 args) w := enters_of Tryz.func18 (by kernel_rfl) rfl

set_option maxRecDepth 100000 in
set_option maxHeartbeats 4000000 in
theorem few_any (x : Lt) (h : Hn) (w : World) (l1 : x.re.length = h.n1) (l2 : x.ws.length = h.n2) (l3 : x.ls.length = h.n3) (l4 : x.cs.length = h.n4) : Calls Tryz.prog 18 #[.agg (ltI x h)] w fun e w' => e = .returned (.bool (fewB x)) ∧ Below w.heap.size w w' := by
  go_enter Tryz.func18, Tryz.ntmps18
  go_upto_region 1 with fail
  have hX := blk_new w (ltI x h) 58
  have hB := b0 w (.cells (ltI x h) 58)
  generalize w.alloc (.cells (ltI x h) 58) = W at hX hB ⊢
  generalize hb : w.heap.size = b at hX hB ⊢
  have HX := Lib.hid hX
  clear hX
  refine wp_region_lit ?_
  refine fl_start ?_
  generalize ha : Act.mk _ _ = a0
  have hn : a0.tmps.size = 25 := by rw [← ha]; kernel_rfl
  have h1 : (fr a0 []).eval (.tmp 1) = .pointer (some ⟨b, 0, none⟩) := by rw [← ha]; kernel_rfl
  refine fl_know hn rfl h1 ?_
  clear h1
  repeat first | refine g_mv hn ?_ | refine g_as hn ?_ | refine g_fdL hn ?_ | refine g_ldL hn HX.out ?_ | refine g_ldA hn HX.out ?_ | refine g_fd hn ?_ | refine g_ld hn ?_ | refine g_nc hn ?_ | refine g_nt hn ?_ | refine g_an hn ?_ | refine g_or hn ?_ | refine g_ln hn ?_ | refine g_ex hn ?_ | refine g_neq2 hn ?_ | refine g_neq hn ?_ | refine g_eql2 hn ?_ | refine g_eql hn ?_ | refine g_leq2 hn ?_ | refine g_leq hn ?_ | refine g_lss2 hn ?_ | refine g_lss hn ?_ | refine g_gtr2 hn ?_ | refine g_gtr hn ?_ | refine g_geq2 hn ?_ | refine g_geq hn ?_ | refine g_b0 hn ?_ | refine g_bn hn ?_ | refine g_bc hn ?_ | refine g_cv hn ?_ | refine g_ac hn ?_ | refine g_mc hn ?_
  refine fl_endb (c := fewB x) (by unfold fewB; rw [l1, l2, l3, l4, le20, le60, le60, le60]) ?_
  clear hn 
  subst ha
  dsimp only [fr, cnd, Act.put, cond_true]
  simp only [List.setIfInBounds_toArray, List.set_cons_zero, List.set_cons_succ]
  go_wp2_with fail
  go_ret
  exact ⟨rfl, by rw [hb]; exact hB⟩

/-! Decode of bytes that aren't a frame. -/
theorem enters_Decode : ∀ args w, (callFunc 20 args).run Tryz.prog w = .ok (.enter 20 args) w := enters_of Tryz.func20 (by kernel_rfl) rfl

theorem ne_errno (c : Nat) (hc : c ≠ 0) (W : World) : ((do eqGuard .neq 31 (.tmp 13) (.const (.int .i64 0)) (.int .i64 (c : Int)) (.int .i64 0); binOp .neq 31 (.int .i64 (c : Int)) (.int .i64 0)) : Sem Value).run Tryz.prog W = .ok (.bool true) W := by
  have h : ¬ c = 0 := hc
  have e : ((c : Int) == 0) = false := by rw [Bool.eq_false_iff]; simpa using hc
  go_simp
set_option maxRecDepth 100000 in
set_option maxHeartbeats 4000000 in
theorem decode_bad (A : Option Addr) (n c : Nat) (b : List UInt8) (w : World) (hL : LaidF w) (hn : b.length = n) (hc : n ≤ c) (hm : n ≤ 200000) (hr : RdB w.heap.size w A b) (hbad : (openF b).2.2 ≠ 0) : Calls Tryz.prog 20 #[.slice A n c] w fun e w' => (∃ v, e = .returned v ∧ v = .tuple #[.agg (ltI lt0 hn0), .int .i64 ((openF b).2.2 : Nat)]) ∧ Below w.heap.size w w' := by
  have HC := Lib.hid hbad
  go_enter Tryz.func20, Tryz.ntmps20
  go_upto_region 1 with fail
  have hY := blk_new w ltZ 58
  have hB := b0 w (.cells ltZ 58)
  have hlt : w.heap.size < (w.alloc (.cells ltZ 58)).heap.size := hY.lt
  have HO := Lib.hid (open_x A n c b (w.alloc (.cells ltZ 58)) (hL.keep hB) hn hc hm ((hr.keep hB (Nat.le_refl _)).more hB.size))
  generalize w.alloc (.cells ltZ 58) = W at hY hB HO hlt ⊢
  generalize hb : w.heap.size = bb at hY hB hlt ⊢
  refine wp_region_lit ?_
  refine fl_start ?_
  generalize ha : Act.mk _ _ = a0
  have hn : a0.tmps.size = 31 := by rw [← ha]; kernel_rfl
  have h0 : (fr a0 []).eval (.tmp 0) = .slice A n c := by rw [← ha]; kernel_rfl
  refine fl_know hn rfl h0 ?_
  clear h0
  have h2 : (fr a0 [(0, true, .slice A n c)]).eval (.tmp 2) = .pointer (some ⟨bb, 0, none⟩) := by rw [← ha]; kernel_rfl
  refine fl_know hn rfl h2 ?_
  clear h2
  repeat first | refine g_mv hn ?_ | refine g_as hn ?_ | refine g_fd hn ?_ | refine g_ld hn ?_ | refine g_nc hn ?_ | refine g_nt hn ?_ | refine g_an hn ?_ | refine g_or hn ?_ | refine g_ln hn ?_ | refine g_ex hn ?_ | refine g_neq2 hn ?_ | refine g_neq hn ?_ | refine g_eql2 hn ?_ | refine g_eql hn ?_ | refine g_leq2 hn ?_ | refine g_leq hn ?_ | refine g_lss2 hn ?_ | refine g_lss hn ?_ | refine g_gtr2 hn ?_ | refine g_gtr hn ?_ | refine g_geq2 hn ?_ | refine g_geq hn ?_ | refine g_b0 hn ?_ | refine g_bn hn ?_ | refine g_bc hn ?_ | refine g_cv hn ?_ | refine g_ac hn ?_ | refine g_mc hn ?_
  refine g_c1x enters_fOpen hn HO.out ?_
  rintro v w1 ⟨A1, c1, rfl, hO1, hb1⟩
  repeat first | refine g_mv hn ?_ | refine g_as hn ?_ | refine g_fd hn ?_ | refine g_ld hn ?_ | refine g_nc hn ?_ | refine g_nt hn ?_ | refine g_an hn ?_ | refine g_or hn ?_ | refine g_ln hn ?_ | refine g_ex hn ?_ | refine g_neq2 hn ?_ | refine g_neq hn ?_ | refine g_eql2 hn ?_ | refine g_eql hn ?_ | refine g_leq2 hn ?_ | refine g_leq hn ?_ | refine g_lss2 hn ?_ | refine g_lss hn ?_ | refine g_gtr2 hn ?_ | refine g_gtr hn ?_ | refine g_geq2 hn ?_ | refine g_geq hn ?_ | refine g_b0 hn ?_ | refine g_bn hn ?_ | refine g_bc hn ?_ | refine g_cv hn ?_ | refine g_ac hn ?_ | refine g_mc hn ?_
  refine g_w hn (w2 := w1.alloc (.cells #[.int .u8 0, .slice none 0 0] 99)) (v := .pointer (some ⟨w1.heap.size, 0, none⟩)) (fun _ => by kernel_rfl) ?_
  have hY1 := (hY.keep hb1).alloc (.cells #[.int .u8 0, .slice none 0 0] 99)
  have hZ := blk_new w1 #[.int .u8 0, .slice none 0 0] 99
  have hB1 := (bnx hB hY hb1).trans ((b0 w1 (.cells #[.int .u8 0, .slice none 0 0] 99)).mono (Nat.le_of_lt (hY.keep hb1).lt))
  have hne : bb < w1.heap.size := (hY.keep hb1).lt
  generalize w1.alloc (.cells #[.int .u8 0, .slice none 0 0] 99) = w2 at hY1 hZ hB1 ⊢
  generalize w1.heap.size = p0 at hZ hne ⊢
  refine g_str hZ ?_ (h1 := by simp [Value.oneCell'])
  intro w3 ho3 hZ3
  repeat first | refine g_mv hn ?_ | refine g_as hn ?_ | refine g_fd hn ?_ | refine g_ld hn ?_ | refine g_nc hn ?_ | refine g_nt hn ?_ | refine g_an hn ?_ | refine g_or hn ?_ | refine g_ln hn ?_ | refine g_ex hn ?_ | refine g_neq2 hn ?_ | refine g_neq hn ?_ | refine g_eql2 hn ?_ | refine g_eql hn ?_ | refine g_leq2 hn ?_ | refine g_leq hn ?_ | refine g_lss2 hn ?_ | refine g_lss hn ?_ | refine g_gtr2 hn ?_ | refine g_gtr hn ?_ | refine g_geq2 hn ?_ | refine g_geq hn ?_ | refine g_b0 hn ?_ | refine g_bn hn ?_ | refine g_bc hn ?_ | refine g_cv hn ?_ | refine g_ac hn ?_ | refine g_mc hn ?_
  refine fl_end ?_
  clear hn
  subst ha
  dsimp only [fr, cnd, Act.put, cond_true]
  simp only [List.setIfInBounds_toArray, List.set_cons_zero, List.set_cons_succ]
  have hY3 := hY1.only ho3 (by omega)
  have hB3 := hB1.trans (ho3.below (Nat.le_of_lt hne))
  generalize hcc : (openF b).2.2 = cc at HC ⊢
  have hne := ne_errno cc HC.out w3
  clear hY hY1 hZ hZ3 hB1 ho3 HO hO1
  go_upto_region 2 with fail
  refine wp_region_lit ?_
  refine fl_start ?_
  generalize ha : Act.mk _ _ = a0
  have hn : a0.tmps.size = 31 := by rw [← ha]; kernel_rfl
  have h5 : (fr a0 []).eval (.tmp 5) = .int .i64 (cc : Int) := by rw [← ha]; kernel_rfl
  refine fl_know hn rfl h5 ?_
  clear h5
  repeat first | refine g_mv hn ?_ | refine g_as hn ?_ | refine g_fd hn ?_ | refine g_ld hn ?_ | refine g_nc hn ?_ | refine g_nt hn ?_ | refine g_an hn ?_ | refine g_or hn ?_ | refine g_ln hn ?_ | refine g_ex hn ?_ | refine g_neq2 hn ?_ | refine g_neq hn ?_ | refine g_eql2 hn ?_ | refine g_eql hn ?_ | refine g_leq2 hn ?_ | refine g_leq hn ?_ | refine g_lss2 hn ?_ | refine g_lss hn ?_ | refine g_gtr2 hn ?_ | refine g_gtr hn ?_ | refine g_geq2 hn ?_ | refine g_geq hn ?_ | refine g_b0 hn ?_ | refine g_bn hn ?_ | refine g_bc hn ?_ | refine g_cv hn ?_ | refine g_ac hn ?_ | refine g_mc hn ?_
  refine fl_end ?_
  clear hn
  subst ha
  dsimp only [fr, cnd, Act.put, cond_true]
  simp only [List.setIfInBounds_toArray, List.set_cons_zero, List.set_cons_succ]
  clear hne
  go_upto_region 3 with fail
  refine wp_region_lit ?_
  refine fl_start ?_
  generalize ha : Act.mk _ _ = a0
  have hn : a0.tmps.size = 31 := by rw [← ha]; kernel_rfl
  have h5 : (fr a0 []).eval (.tmp 5) = .int .i64 (cc : Int) := by rw [← ha]; kernel_rfl
  refine fl_know hn rfl h5 ?_
  clear h5
  have h2 : (fr a0 [(5, true, .int .i64 (cc : Int))]).eval (.tmp 2) = .pointer (some ⟨bb, 0, none⟩) := by rw [← ha]; kernel_rfl
  refine fl_know hn rfl h2 ?_
  clear h2
  refine g_bd hn ?_ (qs := #[]) (v := .agg (ltI lt0 hn0)) (hx := by kernel_rfl) (hp := fun _ _ => by simp)
  repeat first | refine g_mv hn ?_ | refine g_as hn ?_ | refine g_fd hn ?_ | refine g_ld hn ?_ | refine g_nc hn ?_ | refine g_nt hn ?_ | refine g_an hn ?_ | refine g_or hn ?_ | refine g_ln hn ?_ | refine g_ex hn ?_ | refine g_neq2 hn ?_ | refine g_neq hn ?_ | refine g_eql2 hn ?_ | refine g_eql hn ?_ | refine g_leq2 hn ?_ | refine g_leq hn ?_ | refine g_lss2 hn ?_ | refine g_lss hn ?_ | refine g_gtr2 hn ?_ | refine g_gtr hn ?_ | refine g_geq2 hn ?_ | refine g_geq hn ?_ | refine g_b0 hn ?_ | refine g_bn hn ?_ | refine g_bc hn ?_ | refine g_cv hn ?_ | refine g_ac hn ?_ | refine g_mc hn ?_
  refine g_str hY3 ?_ (h1 := lt_one _ _)
  intro w4 ho4 hY4
  repeat first | refine g_mv hn ?_ | refine g_as hn ?_ | refine g_fd hn ?_ | refine g_ld hn ?_ | refine g_nc hn ?_ | refine g_nt hn ?_ | refine g_an hn ?_ | refine g_or hn ?_ | refine g_ln hn ?_ | refine g_ex hn ?_ | refine g_neq2 hn ?_ | refine g_neq hn ?_ | refine g_eql2 hn ?_ | refine g_eql hn ?_ | refine g_leq2 hn ?_ | refine g_leq hn ?_ | refine g_lss2 hn ?_ | refine g_lss hn ?_ | refine g_gtr2 hn ?_ | refine g_gtr hn ?_ | refine g_geq2 hn ?_ | refine g_geq hn ?_ | refine g_b0 hn ?_ | refine g_bn hn ?_ | refine g_bc hn ?_ | refine g_cv hn ?_ | refine g_ac hn ?_ | refine g_mc hn ?_
  refine fl_end ?_
  clear hn
  subst ha
  dsimp only [fr, cnd, Act.put, cond_true]
  simp only [List.setIfInBounds_toArray, List.set_cons_zero, List.set_cons_succ]
  go_wp2_with fail
  refine bodyPost_ret (results_cell_tmp_row Tryz.results20 _ _ bb 58 (ltI lt0 hn0) (0, 0) _ (by rfl) hY4 Tryz.underlying58 (by rfl) (by kernel_rfl)) rfl ?_
  exact ⟨⟨_, rfl, by rw [hcc]; rfl⟩, by rw [hb]; exact hB3.trans (ho4.below (Nat.le_refl _))⟩

/-! The law. -/
theorem enters_awake8T : ∀ args w, (callFunc 16 args).run Tryz.prog w = .ok (.enter 16 args) w := enters_of Tryz.func16 (by kernel_rfl) rfl

theorem call0_is {f : FuncId} (he : ∀ args w, (callFunc f args).run Tryz.prog w = .ok (.enter f args) w) {w : World} (d : Option Tmp) (ts : Array TypeId) (ty : TypeId) (p : String) (af : Array Edge) (gd : Option (Nat × Bool)) (ρ : Operand → Value) (hf : ρ (.func f) = .func (.func f) #[] #[]) : (execOp ρ ⟨d, .call { callee := .value (.func f), args := #[], argTypes := ts }, ty, p, af, gd⟩).run Tryz.prog w = .ok (.enter f #[]) w := by
  unfold execOp
  dsimp only
  go_simp
theorem g_c0w {l : List Oper} {Q : Exit → Act → World → Prop} {rest : List Oper} {a0 : Act} {L : List (Nat × Bool × Value)} {w : World} {f : FuncId} {d n : Nat} {r : Value} {ts : Array TypeId} {ty : TypeId} {p : String} {af : Array Edge} {gd : Option (Nat × Bool)} {g : Bool} (he : ∀ args w, (callFunc f args).run Tryz.prog w = .ok (.enter f args) w) (hn : a0.tmps.size = n) (hc : Calls Tryz.prog f #[] w fun e w' => e = .returned r ∧ Below w.heap.size w w') (h : ∀ w2, Below w.heap.size w w2 → FL Tryz.prog l Q rest a0 ((d, g, r) :: L) w2) (hd : Nat.blt d n = true := by rfl) (hw : wtG l L gd = some g := by rfl) : FL Tryz.prog l Q (⟨some d, .call { callee := .value (.func f), args := #[], argTypes := ts }, ty, p, af, gd⟩ :: rest) a0 L w :=
  fl_callw hn rfl hd hw (fun _ _ => call0_is he _ _ _ _ _ _ _ rfl) (fun _ => hc) h
theorem ne_e2 (W : World) : ((do eqGuard .neq 31 (.tmp 23) (.const (.int .i64 0)) (.int .i64 2) (.int .i64 0); binOp .neq 31 (.int .i64 2) (.int .i64 0)) : Sem Value).run Tryz.prog W = .ok (.bool true) W := by go_simp
theorem ne_e0 (W : World) : ((do eqGuard .neq 31 (.tmp 23) (.const (.int .i64 0)) (.int .i64 0) (.int .i64 0); binOp .neq 31 (.int .i64 0) (.int .i64 0)) : Sem Value).run Tryz.prog W = .ok (.bool false) W := by go_simp
theorem ne_e9 (c : Nat) (hc : c ≠ 0) (W : World) : ((do eqGuard .neq 31 (.tmp 47) (.const (.int .i64 0)) (.int .i64 (c : Int)) (.int .i64 0); binOp .neq 31 (.int .i64 (c : Int)) (.int .i64 0)) : Sem Value).run Tryz.prog W = .ok (.bool true) W := by
  have h : ¬ c = 0 := hc
  have e : ((c : Int) == 0) = false := by rw [Bool.eq_false_iff]; simpa using hc
  go_simp
theorem same_zero : sameLt lt0 lt0 = true := by
  unfold sameLt sameB sameW sameG
  simp
set_option maxRecDepth 100000 in
set_option maxHeartbeats 8000000 in
theorem lawTurned_all (x : Lt) (h : Hn) (t : Int) (w : World) (hr : LtR w.heap.size w x h) (hf : LtF x) (_ht : -9223372036854775808 ≤ t ∧ t ≤ 9223372036854775807) (hL : LaidF w) : Calls Tryz.prog 5 #[.agg (ltI x h), .int .i64 t] w fun e w' => e = .returned (.bool true) ∧ Below w.heap.size w w' := by
  go_enter Tryz.func5, Tryz.ntmps5
  go_upto_region 1 with fail
  have hX := blk_new w (ltI x h) 58
  have hB := b0 w (.cells (ltI x h) 58)
  have hR := hr.keep hB (Nat.le_refl _)
  have hLW := hL.keep hB
  generalize w.alloc (.cells (ltI x h) 58) = W at hX hB hR hLW ⊢
  generalize hb : w.heap.size = b at hX hB hR ⊢
  have HX := Lib.hid hX
  have HR := Lib.hid hR
  have HF := Lib.hid hf
  have HL := Lib.hid hLW
  have HBB := Lib.hid (Nat.le_refl b)
  have HL0 := Lib.hid hL
  clear hX hR hr hf hL hLW
  refine wp_region_lit ?_
  refine fl_start ?_
  generalize ha : Act.mk _ _ = a0
  have hn : a0.tmps.size = 55 := by rw [← ha]; kernel_rfl
  have h1 : (fr a0 []).eval (.tmp 1) = .int .i64 t := by rw [← ha]; kernel_rfl
  refine fl_know hn rfl h1 ?_
  clear h1
  have h2 : (fr a0 [(1, true, .int .i64 t)]).eval (.tmp 2) = .pointer (some ⟨b, 0, none⟩) := by rw [← ha]; kernel_rfl
  refine fl_know hn rfl h2 ?_
  clear h2
  refine g_c0w enters_awake8T hn (awake8_any W HL.out) ?_
  intro w1 hb1
  replace hB := bnx hB HX.out hb1
  replace HR := Lib.hid (HR.out.keep hb1 (Nat.le_trans HBB.out (Nat.le_of_lt HX.out.lt)))
  replace HL := Lib.hid (HL.out.keep hb1)
  replace HX := Lib.hid (HX.out.keep hb1)
  repeat first | refine g_mv hn ?_ | refine g_as hn ?_ | refine g_fdL hn ?_ | refine g_ldL hn HX.out ?_ | refine g_ldA hn HX.out ?_ | refine g_fd hn ?_ | refine g_ld hn ?_ | refine g_nc hn ?_ | refine g_nt hn ?_ | refine g_an hn ?_ | refine g_or hn ?_ | refine g_ln hn ?_ | refine g_ex hn ?_ | refine g_neq2 hn ?_ | refine g_neq hn ?_ | refine g_eql2 hn ?_ | refine g_eql hn ?_ | refine g_leq2 hn ?_ | refine g_leq hn ?_ | refine g_lss2 hn ?_ | refine g_lss hn ?_ | refine g_gtr2 hn ?_ | refine g_gtr hn ?_ | refine g_geq2 hn ?_ | refine g_geq hn ?_ | refine g_b0 hn ?_ | refine g_bn hn ?_ | refine g_bc hn ?_ | refine g_cv hn ?_ | refine g_ac hn ?_ | refine g_mc hn ?_
  refine g_c1w enters_Few hn (few_any x h _ HR.out.l1 HR.out.l2 HR.out.l3 HR.out.l4) ?_
  intro w2 hb2
  replace hB := bnx hB HX.out hb2
  replace HR := Lib.hid (HR.out.keep hb2 (Nat.le_trans HBB.out (Nat.le_of_lt HX.out.lt)))
  replace HL := Lib.hid (HL.out.keep hb2)
  replace HX := Lib.hid (HX.out.keep hb2)
  repeat first | refine g_mv hn ?_ | refine g_as hn ?_ | refine g_fdL hn ?_ | refine g_ldL hn HX.out ?_ | refine g_ldA hn HX.out ?_ | refine g_fd hn ?_ | refine g_ld hn ?_ | refine g_nc hn ?_ | refine g_nt hn ?_ | refine g_an hn ?_ | refine g_or hn ?_ | refine g_ln hn ?_ | refine g_ex hn ?_ | refine g_neq2 hn ?_ | refine g_neq hn ?_ | refine g_eql2 hn ?_ | refine g_eql hn ?_ | refine g_leq2 hn ?_ | refine g_leq hn ?_ | refine g_lss2 hn ?_ | refine g_lss hn ?_ | refine g_gtr2 hn ?_ | refine g_gtr hn ?_ | refine g_geq2 hn ?_ | refine g_geq hn ?_ | refine g_b0 hn ?_ | refine g_bn hn ?_ | refine g_bc hn ?_ | refine g_cv hn ?_ | refine g_ac hn ?_ | refine g_mc hn ?_
  refine fl_endb (c := !fewB x) (by cases fewB x <;> rfl) ?_
  clear hn 
  subst ha
  dsimp only [fr, cnd, Act.put, cond_true]
  simp only [List.setIfInBounds_toArray, List.set_cons_zero, List.set_cons_succ]
  cases hfew : fewB x with
  | false =>
    clear hfew
    go_upto_region 2 with fail
    refine wp_region_lit ?_
    refine fl_start ?_
    generalize ha : Act.mk _ _ = a0
    have hn : a0.tmps.size = 55 := by rw [← ha]; kernel_rfl
    refine g_c0w enters_awake8T hn (awake8_any w2 HL.out) ?_
    intro w3 hb3
    repeat first | refine g_mv hn ?_ | refine g_as hn ?_ | refine g_fd hn ?_ | refine g_ld hn ?_ | refine g_nc hn ?_ | refine g_nt hn ?_ | refine g_an hn ?_ | refine g_or hn ?_ | refine g_ln hn ?_ | refine g_ex hn ?_ | refine g_neq2 hn ?_ | refine g_neq hn ?_ | refine g_eql2 hn ?_ | refine g_eql hn ?_ | refine g_leq2 hn ?_ | refine g_leq hn ?_ | refine g_lss2 hn ?_ | refine g_lss hn ?_ | refine g_gtr2 hn ?_ | refine g_gtr hn ?_ | refine g_geq2 hn ?_ | refine g_geq hn ?_ | refine g_b0 hn ?_ | refine g_bn hn ?_ | refine g_bc hn ?_ | refine g_cv hn ?_ | refine g_ac hn ?_ | refine g_mc hn ?_
    refine fl_end ?_
    clear hn
    subst ha
    dsimp only [fr, cnd, Act.put, cond_true]
    simp only [List.setIfInBounds_toArray, List.set_cons_zero, List.set_cons_succ]
    go_wp2_with fail
    go_ret
    exact ⟨rfl, by rw [hb]; exact bnx hB HX.out hb3⟩
  | true =>
  have HW := Lib.hid hfew
  clear hfew
  go_upto_region 3 with fail
  refine wp_region_lit ?_
  refine fl_start ?_
  generalize ha : Act.mk _ _ = a0
  have hn : a0.tmps.size = 55 := by rw [← ha]; kernel_rfl
  have h1 : (fr a0 []).eval (.tmp 1) = .int .i64 t := by rw [← ha]; kernel_rfl
  refine fl_know hn rfl h1 ?_
  clear h1
  have h2 : (fr a0 [(1, true, .int .i64 t)]).eval (.tmp 2) = .pointer (some ⟨b, 0, none⟩) := by rw [← ha]; kernel_rfl
  refine fl_know hn rfl h2 ?_
  clear h2
  refine g_ldA hn HX.out ?_
  cases hg : goodLt x with
  | false =>
    refine g_c1x enters_Encode hn (R := fun v w3 => v = .tuple #[.slice none 0 0, .int .i64 2] ∧ Below w2.heap.size w2 w3) ((encode_bad x h w2 HR.out (Nat.le_trans HBB.out (Nat.le_of_lt HX.out.lt)) HF.out hg).mono fun _ _ ⟨he, hb3⟩ => ⟨_, he, rfl, hb3⟩) ?_
    rintro v w3 ⟨rfl, hb3⟩
    repeat first | refine g_mv hn ?_ | refine g_as hn ?_ | refine g_fd hn ?_ | refine g_ld hn ?_ | refine g_nc hn ?_ | refine g_nt hn ?_ | refine g_an hn ?_ | refine g_or hn ?_ | refine g_ln hn ?_ | refine g_ex hn ?_ | refine g_neq2 hn ?_ | refine g_neq hn ?_ | refine g_eql2 hn ?_ | refine g_eql hn ?_ | refine g_leq2 hn ?_ | refine g_leq hn ?_ | refine g_lss2 hn ?_ | refine g_lss hn ?_ | refine g_gtr2 hn ?_ | refine g_gtr hn ?_ | refine g_geq2 hn ?_ | refine g_geq hn ?_ | refine g_b0 hn ?_ | refine g_bn hn ?_ | refine g_bc hn ?_ | refine g_cv hn ?_ | refine g_ac hn ?_ | refine g_mc hn ?_
    refine fl_end ?_
    clear hn
    subst ha
    dsimp only [fr, cnd, Act.put, cond_true]
    simp only [List.setIfInBounds_toArray, List.set_cons_zero, List.set_cons_succ]
    have ne := ne_e2 w3
    clear hg
    go_upto_region 4 with fail
    refine wp_region_lit ?_
    refine fl_start ?_
    generalize ha : Act.mk _ _ = a0
    have hn : a0.tmps.size = 55 := by rw [← ha]; kernel_rfl
    have h6 : (fr a0 []).eval (.tmp 6) = .int .i64 2 := by rw [← ha]; kernel_rfl
    refine fl_know hn rfl h6 ?_
    clear h6
    repeat first | refine g_mv hn ?_ | refine g_as hn ?_ | refine g_fd hn ?_ | refine g_ld hn ?_ | refine g_nc hn ?_ | refine g_nt hn ?_ | refine g_an hn ?_ | refine g_or hn ?_ | refine g_ln hn ?_ | refine g_ex hn ?_ | refine g_neq2 hn ?_ | refine g_neq hn ?_ | refine g_eql2 hn ?_ | refine g_eql hn ?_ | refine g_leq2 hn ?_ | refine g_leq hn ?_ | refine g_lss2 hn ?_ | refine g_lss hn ?_ | refine g_gtr2 hn ?_ | refine g_gtr hn ?_ | refine g_geq2 hn ?_ | refine g_geq hn ?_ | refine g_b0 hn ?_ | refine g_bn hn ?_ | refine g_bc hn ?_ | refine g_cv hn ?_ | refine g_ac hn ?_ | refine g_mc hn ?_
    refine fl_end ?_
    clear hn ne
    subst ha
    dsimp only [fr, cnd, Act.put, cond_true]
    simp only [List.setIfInBounds_toArray, List.set_cons_zero, List.set_cons_succ]
    go_wp2_with fail
    go_ret
    exact ⟨rfl, by rw [hb]; exact bnx hB HX.out hb3⟩
  | true =>
  have hs := few_s HW.out hg HF.out
  have HS := Lib.hid hs
  refine g_c1x enters_Encode hn (encode_good x h w2 HR.out (Nat.le_trans HBB.out (Nat.le_of_lt HX.out.lt)) HF.out hg hs HL.out) ?_
  rintro v w3 ⟨A3, n, c3, rfl, hO3, hb3⟩
  repeat first | refine g_mv hn ?_ | refine g_as hn ?_ | refine g_fd hn ?_ | refine g_ld hn ?_ | refine g_nc hn ?_ | refine g_nt hn ?_ | refine g_an hn ?_ | refine g_or hn ?_ | refine g_ln hn ?_ | refine g_ex hn ?_ | refine g_neq2 hn ?_ | refine g_neq hn ?_ | refine g_eql2 hn ?_ | refine g_eql hn ?_ | refine g_leq2 hn ?_ | refine g_leq hn ?_ | refine g_lss2 hn ?_ | refine g_lss hn ?_ | refine g_gtr2 hn ?_ | refine g_gtr hn ?_ | refine g_geq2 hn ?_ | refine g_geq hn ?_ | refine g_b0 hn ?_ | refine g_bn hn ?_ | refine g_bc hn ?_ | refine g_cv hn ?_ | refine g_ac hn ?_ | refine g_mc hn ?_
  refine fl_end ?_
  clear hn
  subst ha
  dsimp only [fr, cnd, Act.put, cond_true]
  simp only [List.setIfInBounds_toArray, List.set_cons_zero, List.set_cons_succ]
  have ne := ne_e0 w3
  clear hg hs
  go_upto_region 4 with fail
  refine wp_region_lit ?_
  refine fl_start ?_
  generalize ha : Act.mk _ _ = a0
  have hn : a0.tmps.size = 55 := by rw [← ha]; kernel_rfl
  have h6 : (fr a0 []).eval (.tmp 6) = .int .i64 0 := by rw [← ha]; kernel_rfl
  refine fl_know hn rfl h6 ?_
  clear h6
  repeat first | refine g_mv hn ?_ | refine g_as hn ?_ | refine g_fd hn ?_ | refine g_ld hn ?_ | refine g_nc hn ?_ | refine g_nt hn ?_ | refine g_an hn ?_ | refine g_or hn ?_ | refine g_ln hn ?_ | refine g_ex hn ?_ | refine g_neq2 hn ?_ | refine g_neq hn ?_ | refine g_eql2 hn ?_ | refine g_eql hn ?_ | refine g_leq2 hn ?_ | refine g_leq hn ?_ | refine g_lss2 hn ?_ | refine g_lss hn ?_ | refine g_gtr2 hn ?_ | refine g_gtr hn ?_ | refine g_geq2 hn ?_ | refine g_geq hn ?_ | refine g_b0 hn ?_ | refine g_bn hn ?_ | refine g_bc hn ?_ | refine g_cv hn ?_ | refine g_ac hn ?_ | refine g_mc hn ?_
  refine fl_end ?_
  clear hn
  subst ha
  dsimp only [fr, cnd, Act.put, cond_true]
  simp only [List.setIfInBounds_toArray, List.set_cons_zero, List.set_cons_succ]
  clear ne
  replace hB := bnx hB HX.out hb3
  replace HL := Lib.hid (HL.out.keep hb3)
  have hbn : b ≤ w2.heap.size := Nat.le_of_lt HX.out.lt
  replace HX := Lib.hid (HX.out.keep hb3)
  have hlen := hO3.len
  have hle : (encB x).length = 9 + (insB x).length := by unfold encB; exact sealL_len _ _
  have hin := HS.out.ins
  have hn9 : 9 ≤ n := by omega
  have hn2 : n ≤ 100009 := by omega
  obtain ⟨g, rfl, hg1, hg2⟩ := hO3.form (by omega)
  have hcap := hO3.cap.1
  obtain ⟨u, hu⟩ : ∃ u : Nat, IntKind.u64.wrap t = (u : Int) := ⟨(IntKind.u64.wrap t).toNat, (Int.toNat_of_nonneg (by rw [IntKind.wrap_u64]; omega)).symm⟩
  have hkk : ((u : Int) % (8 * (n : Int))) = ((u % (8 * n) : Nat) : Int) := by
    rw [show (8 * (n : Int)) = ((8 * n : Nat) : Int) by omega]
    exact (Int.natCast_emod _ _).symm
  have hkl : u % (8 * n) < 8 * n := Nat.mod_lt _ (by omega)
  generalize u % (8 * n) = kk at hkk hkl
  have hd8 : ((kk : Int) / 8) = ((kk / 8 : Nat) : Int) := by omega
  have hm8 : ((kk : Int) % 8) = ((kk % 8 : Nat) : Int) := by omega
  have hr8 : kk % 8 < 8 := Nat.mod_lt _ (by omega)
  have hp8 : kk / 8 < n := by omega
  generalize kk / 8 = p at hd8 hp8
  generalize kk % 8 = r at hm8 hr8
  obtain ⟨old, hold⟩ : ∃ y, (encB x)[p]? = some y := ⟨_, List.getElem?_eq_getElem (show p < (encB x).length by omega)⟩
  have c0 : w3.cell? ⟨g, p, none⟩ = some (.int .u8 (old.toNat : Int)) := hO3.cellAt hold
  have f0 : w3.frozen? ⟨g, p, none⟩ = false := hO3.free p
  have i1 : (p : Int) < (n : Int) := by omega
  obtain ⟨y, hy, hyne⟩ := flip_is old hr8
  have hO8 := hO3.set p y
  have BW8 := hB.setCell (p := ⟨g, p, none⟩) (show b ≤ g by omega) (.int .u8 (y.toNat : Int))
  have hL8 : LaidF (w3.setCell ⟨g, p, none⟩ (.int .u8 (y.toNat : Int))) := HL0.out.keep (by rw [hb]; exact BW8)
  have hturn := open_turned (k := UInt8.ofNat x.k.toNat) (b := insB x) (by omega) (j := p) (c := y) (by omega) (by
    have : (sealL (UInt8.ofNat x.k.toNat) (insB x))[p]? = some old := hold
    rw [this]
    intro e
    injection e with e
    exact hyne e.symm)
  have hbad : (openF ((encB x).set p y)).2.2 ≠ 0 := by
    have h2 : (openF ((encB x).set p y)).2.2 = 2 ∨ (openF ((encB x).set p y)).2.2 = 4 := hturn.2
    omega
  have HD := Lib.hid (decode_bad (some ⟨g, 0, none⟩) n c3 _ _ hL8 hO8.len hcap (by omega) hO8.rd hbad)
  generalize (openF ((encB x).set p y)).2.2 = cc at HD hbad
  have HCC := Lib.hid hbad
  have HB8 := Lib.hid BW8
  have HB8s : Hid (b ≤ (w3.setCell ⟨g, p, none⟩ (.int .u8 (y.toNat : Int))).heap.size) := by
    have := BW8.size
    rw [hb] at this
    exact this
  clear hturn hbad hO8 hO3 hold hyne hlen hle hin BW8 hL8 HX HR hb3 hB
  go_upto_region 8 with fail
  generalize w3.setCell ⟨g, p, none⟩ (.int .u8 (y.toNat : Int)) = w4 at HD HB8 HB8s ⊢
  refine wp_region_lit ?_
  refine fl_start ?_
  generalize ha : Act.mk _ _ = a0
  have hn : a0.tmps.size = 55 := by rw [← ha]; kernel_rfl
  have h5 : (fr a0 []).eval (.tmp 5) = .slice (some ⟨g, 0, none⟩) n c3 := by rw [← ha]; kernel_rfl
  refine fl_know hn rfl h5 ?_
  clear h5
  repeat first | refine g_mv hn ?_ | refine g_as hn ?_ | refine g_fd hn ?_ | refine g_ld hn ?_ | refine g_nc hn ?_ | refine g_nt hn ?_ | refine g_an hn ?_ | refine g_or hn ?_ | refine g_ln hn ?_ | refine g_ex hn ?_ | refine g_neq2 hn ?_ | refine g_neq hn ?_ | refine g_eql2 hn ?_ | refine g_eql hn ?_ | refine g_leq2 hn ?_ | refine g_leq hn ?_ | refine g_lss2 hn ?_ | refine g_lss hn ?_ | refine g_gtr2 hn ?_ | refine g_gtr hn ?_ | refine g_geq2 hn ?_ | refine g_geq hn ?_ | refine g_b0 hn ?_ | refine g_bn hn ?_ | refine g_bc hn ?_ | refine g_cv hn ?_ | refine g_ac hn ?_ | refine g_mc hn ?_
  refine g_c1x enters_Decode hn (R := fun v w5 => v = .tuple #[.agg (ltI lt0 hn0), .int .i64 (cc : Int)] ∧ Below w4.heap.size w4 w5) (HD.out.mono fun _ _ ⟨⟨v, he, hv⟩, hb5⟩ => ⟨v, he, hv, hb5⟩) ?_
  rintro v w5 ⟨rfl, hb5⟩
  repeat first | refine g_mv hn ?_ | refine g_as hn ?_ | refine g_fd hn ?_ | refine g_ld hn ?_ | refine g_nc hn ?_ | refine g_nt hn ?_ | refine g_an hn ?_ | refine g_or hn ?_ | refine g_ln hn ?_ | refine g_ex hn ?_ | refine g_neq2 hn ?_ | refine g_neq hn ?_ | refine g_eql2 hn ?_ | refine g_eql hn ?_ | refine g_leq2 hn ?_ | refine g_leq hn ?_ | refine g_lss2 hn ?_ | refine g_lss hn ?_ | refine g_gtr2 hn ?_ | refine g_gtr hn ?_ | refine g_geq2 hn ?_ | refine g_geq hn ?_ | refine g_b0 hn ?_ | refine g_bn hn ?_ | refine g_bc hn ?_ | refine g_cv hn ?_ | refine g_ac hn ?_ | refine g_mc hn ?_
  refine g_w hn (w2 := w5.alloc (.cells ltZ 58)) (v := .pointer (some ⟨w5.heap.size, 0, none⟩)) (fun _ => by kernel_rfl) ?_
  have hX6 := blk_new w5 ltZ 58
  have hB6 : Below b w (w5.alloc (.cells ltZ 58)) := (HB8.out.trans (hb5.mono HB8s.out)).trans ((b0 w5 (.cells ltZ 58)).mono (Nat.le_trans HB8s.out hb5.size))
  have hbb : b ≤ w5.heap.size := Nat.le_trans HB8s.out hb5.size
  generalize w5.alloc (.cells ltZ 58) = w6 at hX6 hB6 ⊢
  generalize w5.heap.size = d at hX6 hbb ⊢
  refine g_str hX6 ?_ (h1 := lt_one _ _)
  intro w7 ho7 hX7
  repeat first | refine g_mv hn ?_ | refine g_as hn ?_ | refine g_fd hn ?_ | refine g_ld hn ?_ | refine g_nc hn ?_ | refine g_nt hn ?_ | refine g_an hn ?_ | refine g_or hn ?_ | refine g_ln hn ?_ | refine g_ex hn ?_ | refine g_neq2 hn ?_ | refine g_neq hn ?_ | refine g_eql2 hn ?_ | refine g_eql hn ?_ | refine g_leq2 hn ?_ | refine g_leq hn ?_ | refine g_lss2 hn ?_ | refine g_lss hn ?_ | refine g_gtr2 hn ?_ | refine g_gtr hn ?_ | refine g_geq2 hn ?_ | refine g_geq hn ?_ | refine g_b0 hn ?_ | refine g_bn hn ?_ | refine g_bc hn ?_ | refine g_cv hn ?_ | refine g_ac hn ?_ | refine g_mc hn ?_
  refine fl_end ?_
  clear hn
  subst ha
  dsimp only [fr, cnd, Act.put, cond_true]
  simp only [List.setIfInBounds_toArray, List.set_cons_zero, List.set_cons_succ]
  have ne := ne_e9 cc HCC.out w7
  have HX := Lib.hid hX7
  have hB7 := hB6.trans (ho7.below hbb)
  have hR7 := ltR_nil w7.heap.size w7 lt0 rfl rfl rfl rfl
  have hM : LtM lt0 := ⟨by decide, by decide, by decide, by decide⟩
  clear hX6 hB6 hX7 ho7 hb5 HD
  go_upto_region 9 with fail
  refine wp_region_lit ?_
  refine fl_start ?_
  generalize ha : Act.mk _ _ = a0
  have hn : a0.tmps.size = 55 := by rw [← ha]; kernel_rfl
  have h8 : (fr a0 []).eval (.tmp 8) = .pointer (some ⟨d, 0, none⟩) := by rw [← ha]; kernel_rfl
  refine fl_know hn rfl h8 ?_
  clear h8
  have h9 : (fr a0 [(8, true, .pointer (some ⟨d, 0, none⟩))]).eval (.tmp 9) = .int .i64 (cc : Int) := by rw [← ha]; kernel_rfl
  refine fl_know hn rfl h9 ?_
  clear h9
  repeat first | refine g_mv hn ?_ | refine g_as hn ?_ | refine g_fdL hn ?_ | refine g_ldL hn HX.out ?_ | refine g_ldA hn HX.out ?_ | refine g_fd hn ?_ | refine g_ld hn ?_ | refine g_nc hn ?_ | refine g_nt hn ?_ | refine g_an hn ?_ | refine g_or hn ?_ | refine g_ln hn ?_ | refine g_ex hn ?_ | refine g_neq2 hn ?_ | refine g_neq hn ?_ | refine g_eql2 hn ?_ | refine g_eql hn ?_ | refine g_leq2 hn ?_ | refine g_leq hn ?_ | refine g_lss2 hn ?_ | refine g_lss hn ?_ | refine g_gtr2 hn ?_ | refine g_gtr hn ?_ | refine g_geq2 hn ?_ | refine g_geq hn ?_ | refine g_b0 hn ?_ | refine g_bn hn ?_ | refine g_bc hn ?_ | refine g_cv hn ?_ | refine g_ac hn ?_ | refine g_mc hn ?_
  refine g_c1x enters_Ref8 hn (ref8_any lt0 hn0 w7 hR7 (Nat.le_refl _) hM) ?_
  rintro v w8 ⟨A8, c8, rfl, hR8, hb8⟩
  refine g_bd hn ?_ (qs := #[]) (v := .agg (ltI lt0 hn0)) (hx := by kernel_rfl) (hp := fun _ _ => by simp)
  refine g_c2w enters_sameLt hn (refLtSame_any lt0 lt0 (hnL hn0 A8 c8) hn0 w8 hR8 (ltR_nil w8.heap.size w8 lt0 rfl rfl rfl rfl) (Nat.le_refl _) (Nat.le_refl _) hM) ?_
  intro w9 hb9
  rw [same_zero]
  repeat first | refine g_mv hn ?_ | refine g_as hn ?_ | refine g_fd hn ?_ | refine g_ld hn ?_ | refine g_nc hn ?_ | refine g_nt hn ?_ | refine g_an hn ?_ | refine g_or hn ?_ | refine g_ln hn ?_ | refine g_ex hn ?_ | refine g_neq2 hn ?_ | refine g_neq hn ?_ | refine g_eql2 hn ?_ | refine g_eql hn ?_ | refine g_leq2 hn ?_ | refine g_leq hn ?_ | refine g_lss2 hn ?_ | refine g_lss hn ?_ | refine g_gtr2 hn ?_ | refine g_gtr hn ?_ | refine g_geq2 hn ?_ | refine g_geq hn ?_ | refine g_b0 hn ?_ | refine g_bn hn ?_ | refine g_bc hn ?_ | refine g_cv hn ?_ | refine g_ac hn ?_ | refine g_mc hn ?_
  refine fl_end ?_
  clear hn ne
  subst ha
  dsimp only [fr, cnd, Act.put, cond_true]
  simp only [List.setIfInBounds_toArray, List.set_cons_zero, List.set_cons_succ]
  go_wp2_with fail
  go_ret
  exact ⟨rfl, by
    have h7 : b ≤ w7.heap.size := Nat.le_trans hbb (Nat.le_of_lt HX.out.lt)
    rw [hb]
    exact (hB7.trans (hb8.mono h7)).trans (hb9.mono (Nat.le_trans h7 hb8.size))⟩
end Go.Proofs.YtpjleeeligahaaaGreatDoor
