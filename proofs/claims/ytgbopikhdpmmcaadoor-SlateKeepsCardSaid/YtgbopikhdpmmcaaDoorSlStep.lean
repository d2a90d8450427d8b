/-
  WHAT IS PROVED: slate's step, isFile, isBlock: what they answer, what turns. Conditions: those typed in each theorem.
-/
import Derived.Test.YtgbopikhdpmmcaaDoorSlDo
import Derived.Test.YtgbopikhdpmmcaaDoorErrs
namespace Go.Proofs.YtgbopikhdpmmcaaDoor
open Go.RowKit

/-- A slate's cells. -/
abbrev slI (d1 d2 : Nat) (A : Option Addr) (n c : Nat) (ar : Bool) (bu : Int) (de : Bool) : Array Value := #[.map (some d1), .map (some d2), .slice A n c, .bool ar, .int .i64 bu, .bool de]
/-- What the row lists: the error of a step behind the budget. -/
def LaidE (S : Addr) (W : World) : Prop := W.cell? ⟨1, 0, none⟩ = some (.iface 133 (.pointer (some S)))
theorem LaidE.keep {S : Addr} {W W' : World} (h : LaidE S W) (hb : Below W.heap.size W W') : LaidE S W' := (hb.cell (World.block_lt_of_cell? W _ h)).trans h
theorem LaidE.only {S : Addr} {W W' : World} {s : Nat} (h : LaidE S W) (ho : Only1 s W W') (hs : 1 < s) : LaidE S W' := by
  unfold LaidE World.cell? at *
  rw [ho.block _ (by show 1 ≠ s; omega)]
  exact h
theorem sl_a0 (W : World) (s : Nat) : (Instr.fieldAt 81 (.pointer (some ⟨s, 0, none⟩)) 0).run Tryd.prog W = .ok (.pointer (some ⟨s, 0, none⟩)) W := by kernel_rfl
theorem sl_a1 (W : World) (s : Nat) : (Instr.fieldAt 81 (.pointer (some ⟨s, 0, none⟩)) 1).run Tryd.prog W = .ok (.pointer (some ⟨s, 1, none⟩)) W := by kernel_rfl
theorem sl_a2 (W : World) (s : Nat) : (Instr.fieldAt 81 (.pointer (some ⟨s, 0, none⟩)) 2).run Tryd.prog W = .ok (.pointer (some ⟨s, 2, none⟩)) W := by kernel_rfl
theorem sl_a3 (W : World) (s : Nat) : (Instr.fieldAt 81 (.pointer (some ⟨s, 0, none⟩)) 3).run Tryd.prog W = .ok (.pointer (some ⟨s, 3, none⟩)) W := by kernel_rfl
theorem sl_a4 (W : World) (s : Nat) : (Instr.fieldAt 81 (.pointer (some ⟨s, 0, none⟩)) 4).run Tryd.prog W = .ok (.pointer (some ⟨s, 4, none⟩)) W := by kernel_rfl
theorem sl_a5 (W : World) (s : Nat) : (Instr.fieldAt 81 (.pointer (some ⟨s, 0, none⟩)) 5).run Tryd.prog W = .ok (.pointer (some ⟨s, 5, none⟩)) W := by kernel_rfl
section
variable {W : World} {s d1 d2 n c : Nat} {A : Option Addr} {ar de : Bool} {bu : Int} {t : TypeId}
theorem sl_l0 (hX : Blk W s (slI d1 d2 A n c ar bu de) t) : (Instr.loadAt 78 (.pointer (some ⟨s, 0, none⟩))).run Tryd.prog W = .ok (.map (some d1)) W := by
  have q : W.cell? ⟨s, 0, none⟩ = some (.map (some d1)) := hX.cell 0
  clear hX
  go_simp
theorem sl_l1 (hX : Blk W s (slI d1 d2 A n c ar bu de) t) : (Instr.loadAt 78 (.pointer (some ⟨s, 1, none⟩))).run Tryd.prog W = .ok (.map (some d2)) W := by
  have q : W.cell? ⟨s, 1, none⟩ = some (.map (some d2)) := hX.cell 1
  clear hX
  go_simp
theorem sl_l2 (hX : Blk W s (slI d1 d2 A n c ar bu de) t) : (Instr.loadAt 79 (.pointer (some ⟨s, 2, none⟩))).run Tryd.prog W = .ok (.slice A n c) W := by
  have q : W.cell? ⟨s, 2, none⟩ = some (.slice A n c) := hX.cell 2
  clear hX
  go_simp
theorem sl_l3 (hX : Blk W s (slI d1 d2 A n c ar bu de) t) : (Instr.loadAt 4 (.pointer (some ⟨s, 3, none⟩))).run Tryd.prog W = .ok (.bool ar) W := by
  have q : W.cell? ⟨s, 3, none⟩ = some (.bool ar) := hX.cell 3
  clear hX
  go_simp
theorem sl_l4 (hX : Blk W s (slI d1 d2 A n c ar bu de) t) : (Instr.loadAt 3 (.pointer (some ⟨s, 4, none⟩))).run Tryd.prog W = .ok (.int .i64 bu) W := by
  have q : W.cell? ⟨s, 4, none⟩ = some (.int .i64 bu) := hX.cell 4
  clear hX
  go_simp
theorem sl_l5 (hX : Blk W s (slI d1 d2 A n c ar bu de) t) : (Instr.loadAt 4 (.pointer (some ⟨s, 5, none⟩))).run Tryd.prog W = .ok (.bool de) W := by
  have q : W.cell? ⟨s, 5, none⟩ = some (.bool de) := hX.cell 5
  clear hX
  go_simp
end
theorem ld_err {S : Addr} {W : World} (h : LaidE S W) : (Instr.loadAt 72 (.pointer (some ⟨1, 0, none⟩))).run Tryd.prog W = .ok (.iface 133 (.pointer (some S))) W := by
  unfold LaidE at h
  go_simp
def spentB (ar : Bool) (bu : Int) : Bool := ar && bu == 0
def stB (ar : Bool) (bu : Int) : Int := if ar = true ∧ bu ≠ 0 then bu - 1 else bu
def stD (ar : Bool) (bu : Int) (de : Bool) : Bool := spentB ar bu || de
def stV (S : Addr) (ar : Bool) (bu : Int) : Value := bif spentB ar bu then .iface 133 (.pointer (some S)) else .nilIface
theorem enters_step : ∀ args w, (callFunc 35 args).run Tryd.prog w = .ok (.enter 35 args) w := enters_of Tryd.func35 (by kernel_rfl) rfl
theorem enters_isFile : ∀ args w, (callFunc 37 args).run Tryd.prog w = .ok (.enter 37 args) w := enters_of Tryd.func37 (by kernel_rfl) rfl
theorem enters_isBlock : ∀ args w, (callFunc 33 args).run Tryd.prog w = .ok (.enter 33 args) w := enters_of Tryd.func33 (by kernel_rfl) rfl
theorem enters_Is : ∀ args w, (callFunc 34 args).run Tryd.prog w = .ok (.enter 34 args) w := enters_of Tryd.func34 (by kernel_rfl) rfl

def StR (S : Addr) (s d1 d2 : Nat) (A : Option Addr) (n c : Nat) (ar : Bool) (bu : Int) (de : Bool) (w : World) (v : Value) (w' : World) : Prop := v = stV S ar bu ∧ Only1 s w w' ∧ Blk w' s (slI d1 d2 A n c ar (stB ar bu) (stD ar bu de)) 81
set_option maxRecDepth 100000 in
set_option maxHeartbeats 4000000 in
theorem step_any (S : Addr) (s d1 d2 : Nat) (A : Option Addr) (n c : Nat) (ar : Bool) (bu : Int) (de : Bool) (w : World) (hX : Blk w s (slI d1 d2 A n c ar bu de) 81) (hE : LaidE S w) (hs : 1 < s) (h0 : 0 ≤ bu) (h1 : bu ≤ 1099511627776) : Calls Tryd.prog 35 #[.pointer (some ⟨s, 0, none⟩)] w fun e w' => ∃ v, e = .returned v ∧ StR S s d1 d2 A n c ar bu de w v w' := by
  have f3 := sl_a3 w s
  have l3 := sl_l3 hX
  go_enter Tryd.func35, Tryd.ntmps35
  go_upto_region 1 with fail
  refine wp_region_lit ?_
  refine fl_start ?_
  generalize ha : Act.mk _ _ = a0
  have hn : a0.tmps.size = 24 := by rw [← ha]; kernel_rfl
  have h0 : (fr a0 []).eval (.tmp 0) = .pointer (some ⟨s, 0, none⟩) := by rw [← ha]; kernel_rfl
  refine fl_know hn rfl h0 ?_
  clear h0
  repeat first | refine g_mv hn ?_ | refine g_as hn ?_ | refine g_fd hn ?_ | refine g_ld hn ?_ | refine g_nc hn ?_ | refine g_nt hn ?_ | refine g_an hn ?_ | refine g_or hn ?_ | refine g_ln hn ?_ | refine g_ex hn ?_ | refine g_neq2 hn ?_ | refine g_neq hn ?_ | refine g_eql2 hn ?_ | refine g_eql hn ?_ | refine g_leq2 hn ?_ | refine g_leq hn ?_ | refine g_lss2 hn ?_ | refine g_lss hn ?_ | refine g_gtr2 hn ?_ | refine g_gtr hn ?_ | refine g_geq2 hn ?_ | refine g_geq hn ?_ | refine g_b0 hn ?_ | refine g_bn hn ?_ | refine g_bc hn ?_ | refine g_cv hn ?_ | refine g_ac hn ?_ | refine g_mc hn ?_
  refine fl_end ?_
  clear hn
  subst ha
  dsimp only [fr, cnd, Act.put, cond_true]
  simp only [List.setIfInBounds_toArray, List.set_cons_zero, List.set_cons_succ]
  clear f3 l3
  cases ar with
  | false =>
    have R : Hid (StR S s d1 d2 A n c false bu de w .nilIface w) := ⟨rfl, Only1.refl _ _, hX⟩
    clear hX
    go_wp2_with fail
    go_ret
    exact ⟨_, rfl, R.out⟩
  | true =>
    have f4 := sl_a4 w s
    have l4 := sl_l4 hX
    go_upto_region 3 with fail
    refine wp_region_lit ?_
    refine fl_start ?_
    generalize ha : Act.mk _ _ = a0
    have hn : a0.tmps.size = 24 := by rw [← ha]; kernel_rfl
    have h0 : (fr a0 []).eval (.tmp 0) = .pointer (some ⟨s, 0, none⟩) := by rw [← ha]; kernel_rfl
    refine fl_know hn rfl h0 ?_
    clear h0
    repeat first | refine g_mv hn ?_ | refine g_as hn ?_ | refine g_fd hn ?_ | refine g_ld hn ?_ | refine g_nc hn ?_ | refine g_nt hn ?_ | refine g_an hn ?_ | refine g_or hn ?_ | refine g_ln hn ?_ | refine g_ex hn ?_ | refine g_neq2 hn ?_ | refine g_neq hn ?_ | refine g_eql2 hn ?_ | refine g_eql hn ?_ | refine g_leq2 hn ?_ | refine g_leq hn ?_ | refine g_lss2 hn ?_ | refine g_lss hn ?_ | refine g_gtr2 hn ?_ | refine g_gtr hn ?_ | refine g_geq2 hn ?_ | refine g_geq hn ?_ | refine g_b0 hn ?_ | refine g_bn hn ?_ | refine g_bc hn ?_ | refine g_cv hn ?_ | refine g_ac hn ?_ | refine g_mc hn ?_
    refine fl_end ?_
    clear hn
    subst ha
    dsimp only [fr, cnd, Act.put, cond_true]
    simp only [List.setIfInBounds_toArray, List.set_cons_zero, List.set_cons_succ]
    clear f4 l4
    by_cases hz : bu = 0
    · subst hz
      have f5 := sl_a5 w s
      go_upto_region 4 with fail
      refine wp_region_lit ?_
      refine fl_start ?_
      generalize ha : Act.mk _ _ = a0
      have hn : a0.tmps.size = 24 := by rw [← ha]; kernel_rfl
      have h0 : (fr a0 []).eval (.tmp 0) = .pointer (some ⟨s, 0, none⟩) := by rw [← ha]; kernel_rfl
      refine fl_know hn rfl h0 ?_
      clear h0
      repeat first | refine g_mv hn ?_ | refine g_as hn ?_ | refine g_fd hn ?_ | refine g_ld hn ?_ | refine g_nc hn ?_ | refine g_nt hn ?_ | refine g_an hn ?_ | refine g_or hn ?_ | refine g_ln hn ?_ | refine g_ex hn ?_ | refine g_neq2 hn ?_ | refine g_neq hn ?_ | refine g_eql2 hn ?_ | refine g_eql hn ?_ | refine g_leq2 hn ?_ | refine g_leq hn ?_ | refine g_lss2 hn ?_ | refine g_lss hn ?_ | refine g_gtr2 hn ?_ | refine g_gtr hn ?_ | refine g_geq2 hn ?_ | refine g_geq hn ?_ | refine g_b0 hn ?_ | refine g_bn hn ?_ | refine g_bc hn ?_ | refine g_cv hn ?_ | refine g_ac hn ?_ | refine g_mc hn ?_
      refine g_stc hX (st_bool (j := 5) hX (by simp) true) ?_
      intro w2 ho hX2
      refine fl_end ?_
      clear hn
      subst ha
      dsimp only [fr, cnd, Act.put, cond_true]
      simp only [List.setIfInBounds_toArray, List.set_cons_zero, List.set_cons_succ]
      have lg := ld_err (hE.only ho hs)
      go_upto_region 5 with fail
      refine wp_region_lit ?_
      refine fl_start ?_
      generalize ha : Act.mk _ _ = a0
      have hn : a0.tmps.size = 24 := by rw [← ha]; kernel_rfl
      refine fl_op hn rfl (d := 16) (g := true) (v := .iface 133 (.pointer (some S))) rfl rfl (fun _ _ => x_lg (u := .pointer (some ⟨1, 0, none⟩)) rfl lg) ?_
      repeat first | refine g_mv hn ?_ | refine g_as hn ?_ | refine g_fd hn ?_ | refine g_ld hn ?_ | refine g_nc hn ?_ | refine g_nt hn ?_ | refine g_an hn ?_ | refine g_or hn ?_ | refine g_ln hn ?_ | refine g_ex hn ?_ | refine g_neq2 hn ?_ | refine g_neq hn ?_ | refine g_eql2 hn ?_ | refine g_eql hn ?_ | refine g_leq2 hn ?_ | refine g_leq hn ?_ | refine g_lss2 hn ?_ | refine g_lss hn ?_ | refine g_gtr2 hn ?_ | refine g_gtr hn ?_ | refine g_geq2 hn ?_ | refine g_geq hn ?_ | refine g_b0 hn ?_ | refine g_bn hn ?_ | refine g_bc hn ?_ | refine g_cv hn ?_ | refine g_ac hn ?_ | refine g_mc hn ?_
      refine fl_end ?_
      clear hn
      subst ha
      dsimp only [fr, cnd, Act.put, cond_true]
      simp only [List.setIfInBounds_toArray, List.set_cons_zero, List.set_cons_succ]
      have R : Hid (StR S s d1 d2 A n c true 0 de w (.iface 133 (.pointer (some S))) w2) := ⟨rfl, ho, hX2⟩
      clear hX hX2 lg f5
      go_wp2_with fail
      go_ret
      exact ⟨_, rfl, R.out⟩
    · have f4 := sl_a4 w s
      have l4 := sl_l4 hX
      have eb : (bu == 0) = false := by simpa using hz
      rw [eb]
      have sb : ((do eqGuard .sub 3 (.tmp 20) (.const (.int .i64 1)) (.int .i64 bu) (.int .i64 1); binOp .sub 3 (.int .i64 bu) (.int .i64 1)) : Sem Value).run Tryd.prog w = .ok (.int .i64 (bu - 1)) w := by
        have hw : IntKind.i64.wrap (bu - 1) = bu - 1 := by unfold IntKind.wrap; simp [IntKind.bits, IntKind.signed]; omega
        clear hX l4
        go_simp
      go_upto_region 6 with fail
      refine wp_region_lit ?_
      refine fl_start ?_
      generalize ha : Act.mk _ _ = a0
      have hn : a0.tmps.size = 24 := by rw [← ha]; kernel_rfl
      have h0 : (fr a0 []).eval (.tmp 0) = .pointer (some ⟨s, 0, none⟩) := by rw [← ha]; kernel_rfl
      refine fl_know hn rfl h0 ?_
      clear h0
      repeat first | refine g_mv hn ?_ | refine g_as hn ?_ | refine g_fd hn ?_ | refine g_ld hn ?_ | refine g_nc hn ?_ | refine g_nt hn ?_ | refine g_an hn ?_ | refine g_or hn ?_ | refine g_ln hn ?_ | refine g_ex hn ?_ | refine g_neq2 hn ?_ | refine g_neq hn ?_ | refine g_eql2 hn ?_ | refine g_eql hn ?_ | refine g_leq2 hn ?_ | refine g_leq hn ?_ | refine g_lss2 hn ?_ | refine g_lss hn ?_ | refine g_gtr2 hn ?_ | refine g_gtr hn ?_ | refine g_geq2 hn ?_ | refine g_geq hn ?_ | refine g_b0 hn ?_ | refine g_bn hn ?_ | refine g_bc hn ?_ | refine g_cv hn ?_ | refine g_ac hn ?_ | refine g_mc hn ?_
      refine g_stt hX (st_int (j := 4) hX (by simp) (bu - 1)) ?_
      intro w2 ho hX2
      refine fl_end ?_
      clear hn
      subst ha
      dsimp only [fr, cnd, Act.put, cond_true]
      simp only [List.setIfInBounds_toArray, List.set_cons_zero, List.set_cons_succ]
      have R : Hid (StR S s d1 d2 A n c true bu de w .nilIface w2) := by
        refine ⟨?_, ho, ?_⟩
        · unfold stV spentB
          rw [eb]
          rfl
        · have e1 : stB true bu = bu - 1 := if_pos ⟨rfl, hz⟩
          have e2 : stD true bu de = de := by
            unfold stD spentB
            rw [eb]
            rfl
          rw [e1, e2]
          exact hX2
      clear hX hX2 sb f4 l4
      go_wp2_with fail
      go_ret
      exact ⟨_, rfl, R.out⟩
def fileB (f : Int) : Bool := decide (0 ≤ f) && decide (f < 4096)
def placeB (f b : Int) : Bool := fileB f && decide (0 ≤ b) && decide (b < 1024)
set_option maxRecDepth 100000 in
set_option maxHeartbeats 4000000 in
theorem isFile_any (f : Int) (w : World) : Calls Tryd.prog 37 #[.int .i64 f] w fun e w' => e = .returned (.bool (fileB f)) ∧ w' = w := by
  go_enter Tryd.func37, Tryd.ntmps37
  go_upto_region 1 with fail
  refine wp_region_lit ?_
  refine fl_start ?_
  generalize ha : Act.mk _ _ = a0
  have hn : a0.tmps.size = 9 := by rw [← ha]; kernel_rfl
  have h0 : (fr a0 []).eval (.tmp 0) = .int .i64 f := by rw [← ha]; kernel_rfl
  refine fl_know hn rfl h0 ?_
  clear h0
  repeat first | refine g_mv hn ?_ | refine g_as hn ?_ | refine g_fd hn ?_ | refine g_ld hn ?_ | refine g_nc hn ?_ | refine g_nt hn ?_ | refine g_an hn ?_ | refine g_or hn ?_ | refine g_ln hn ?_ | refine g_ex hn ?_ | refine g_neq2 hn ?_ | refine g_neq hn ?_ | refine g_eql2 hn ?_ | refine g_eql hn ?_ | refine g_leq2 hn ?_ | refine g_leq hn ?_ | refine g_lss2 hn ?_ | refine g_lss hn ?_ | refine g_gtr2 hn ?_ | refine g_gtr hn ?_ | refine g_geq2 hn ?_ | refine g_geq hn ?_ | refine g_b0 hn ?_ | refine g_bn hn ?_ | refine g_bc hn ?_ | refine g_cv hn ?_ | refine g_ac hn ?_ | refine g_mc hn ?_
  refine fl_endb (c := fileB f) (rfl) ?_
  clear hn 
  subst ha
  dsimp only [fr, cnd, Act.put, cond_true]
  simp only [List.setIfInBounds_toArray, List.set_cons_zero, List.set_cons_succ]
  go_wp2_with fail
  go_ret
  exact ⟨rfl, rfl⟩
set_option maxRecDepth 100000 in
set_option maxHeartbeats 4000000 in
theorem isBlock_any (f b : Int) (w : World) : Calls Tryd.prog 33 #[.int .i64 f, .int .i64 b] w fun e w' => e = .returned (.bool (placeB f b)) ∧ w' = w := by
  go_enter Tryd.func33, Tryd.ntmps33
  go_upto_region 1 with fail
  refine wp_region_lit ?_
  refine fl_start ?_
  generalize ha : Act.mk _ _ = a0
  have hn : a0.tmps.size = 15 := by rw [← ha]; kernel_rfl
  have h0 : (fr a0 []).eval (.tmp 0) = .int .i64 f := by rw [← ha]; kernel_rfl
  refine fl_know hn rfl h0 ?_
  clear h0
  have h1 : (fr a0 [(0, true, .int .i64 f)]).eval (.tmp 1) = .int .i64 b := by rw [← ha]; kernel_rfl
  refine fl_know hn rfl h1 ?_
  clear h1
  refine g_mv hn ?_
  refine g_c1x enters_isFile hn (R := fun v w2 => v = .bool (fileB f) ∧ w2 = w) ((isFile_any f w).mono fun _ _ ⟨he, hw⟩ => ⟨_, he, rfl, hw⟩) ?_
  rintro v w2 ⟨rfl, rfl⟩
  repeat first | refine g_mv hn ?_ | refine g_as hn ?_ | refine g_fd hn ?_ | refine g_ld hn ?_ | refine g_nc hn ?_ | refine g_nt hn ?_ | refine g_an hn ?_ | refine g_or hn ?_ | refine g_ln hn ?_ | refine g_ex hn ?_ | refine g_neq2 hn ?_ | refine g_neq hn ?_ | refine g_eql2 hn ?_ | refine g_eql hn ?_ | refine g_leq2 hn ?_ | refine g_leq hn ?_ | refine g_lss2 hn ?_ | refine g_lss hn ?_ | refine g_gtr2 hn ?_ | refine g_gtr hn ?_ | refine g_geq2 hn ?_ | refine g_geq hn ?_ | refine g_b0 hn ?_ | refine g_bn hn ?_ | refine g_bc hn ?_ | refine g_cv hn ?_ | refine g_ac hn ?_ | refine g_mc hn ?_
  refine fl_endb (c := placeB f b) (rfl) ?_
  clear hn 
  subst ha
  dsimp only [fr, cnd, Act.put, cond_true]
  simp only [List.setIfInBounds_toArray, List.set_cons_zero, List.set_cons_succ]
  go_wp2_with fail
  go_ret
  exact ⟨rfl, rfl⟩
end Go.Proofs.YtgbopikhdpmmcaaDoor
