/-
  WHAT IS PROVED: calls with any operands, as steps of a chain; the fixed fact of layer 9 (spinneylaw09.awake) holds. Condition: what the row lists is laid.
-/
import Derived.Test.YtgbopikhdpmmcaaDoorSlCrash
import Derived.Lib.SlBytesConst
namespace Go.Proofs.YtgbopikhdpmmcaaDoor
open Go.RowKit Go.MapKept

section
variable {l : List Oper} {Q : Exit → Act → World → Prop} {rest : List Oper} {a0 : Act} {L : List (Nat × Bool × Value)} {w : World}
theorem callv_is {f : FuncId} (he : ∀ args w, (callFunc f args).run Tryd.prog w = .ok (.enter f args) w) (d : Option Tmp) (xs : Array Operand) (ts : Array TypeId) (ty : TypeId) (p : String) (af : Array Edge) (gd : Option (Nat × Bool)) (ρ : Operand → Value) (vs : Array Value) (h : xs.map ρ = vs) (hf : ρ (.func f) = .func (.func f) #[] #[]) : (execOp ρ ⟨d, .call { callee := .value (.func f), args := xs, argTypes := ts }, ty, p, af, gd⟩).run Tryd.prog w = .ok (.enter f vs) w := by
  subst h
  unfold execOp
  dsimp only
  go_simp
theorem g_cvx {f : FuncId} {xs : Array Operand} {d n : Nat} {vs : Array Value} {R : Value → World → Prop} {ts : Array TypeId} {ty : TypeId} {p : String} {af : Array Edge} {gd : Option (Nat × Bool)} (he : ∀ args w, (callFunc f args).run Tryd.prog w = .ok (.enter f args) w) (hn : a0.tmps.size = n) (hv : (∀ p, p ∈ L → p.1 < a0.tmps.size) → xs.map (fr a0 L).eval = vs) (hc : Calls Tryd.prog f vs w fun e w' => ∃ v, e = .returned v ∧ R v w') (h : ∀ v w2, R v w2 → FL Tryd.prog l Q rest a0 ((d, true, v) :: L) w2) (hd : Nat.blt d n = true := by rfl) (hw : wtG l L gd = some true := by rfl) : FL Tryd.prog l Q (⟨some d, .call { callee := .value (.func f), args := xs, argTypes := ts }, ty, p, af, gd⟩ :: rest) a0 L w :=
  fl_callx hn rfl hd hw (fun hk => callv_is he _ _ _ _ _ _ _ _ vs (hv hk) rfl) hc h
end
theorem run_bs1 (W : World) (c : Int) : (Instr.buildSlice 22 1 #[(0, .int .u8 c)]).run Tryd.prog W = .ok (.slice (some ⟨W.heap.size, 0, none⟩) 1 1) (W.alloc (.cells #[.int .u8 c] 5)) := by kernel_rfl
theorem run_bsK (W : World) (c : Bool) : (Instr.buildSlice 50 1 #[(0, .bool c)]).run Tryd.prog W = .ok (.slice (some ⟨W.heap.size, 0, none⟩) 1 1) (W.alloc (.cells #[.bool c] 4)) := by kernel_rfl
theorem x_bsc {P : Program} {w w2 : World} {t ty : TypeId} {d : Option Tmp} {p : String} {af : Array Edge} {gd : Option (Nat × Bool)} {ρ : Operand → Value} {c v : Value} (hc : ρ (.const c) = c) (hr : (Instr.buildSlice t 1 #[(0, c)]).run P w = .ok v w2) :
    (execOp ρ ⟨d, .buildSlice t 1 #[(0, .const c)], ty, p, af, gd⟩).run P w = .ok (.value v) w2 := by
  unfold execOp
  dsimp only
  simp only [List.map_toArray, List.map_cons, List.map_nil, hc, Sem.run_bind, hr]
  rfl
theorem rdb_mark (W : World) (u : UInt8) (c : Int) (hc : c = (u.toNat : Int)) (t : TypeId) (fr : Nat × Nat) : RdB (W.alloc (.cells #[.int .u8 c] t fr)).heap.size (W.alloc (.cells #[.int .u8 c] t fr)) (some ⟨W.heap.size, 0, none⟩) [u] := fun k x hx => by
  subst hc
  refine ⟨_, rfl, by simp, ?_⟩
  rw [Addr.add_mid, Nat.zero_add, World.cell?_alloc_mark]
  match k, hx with
  | 0, hx =>
    have e : u = x := by simpa using hx
    rw [← e]
    rfl
  | k + 1, hx => simp at hx
theorem rdk_one {W : World} {g : Nat} {u : Bool} {t : TypeId} (h : Blk W g #[.bool u] t) : RdK W.heap.size W (some ⟨g, 0, none⟩) [u] := fun k x hx => by
  refine ⟨_, rfl, h.lt, ?_⟩
  rw [Addr.add_mid, Nat.zero_add, h.cell k]
  match k, hx with
  | 0, hx =>
    have e : u = x := by simpa using hx
    rw [← e]
    rfl
  | k + 1, hx => simp at hx
abbrev aw1 : Sl := wrM sl0 1 0 [97]
abbrev aw2 : Sl := flM aw1 1
abbrev aw3 : Sl := wrM aw2 1 0 [98]
theorem aw_c1 : wrCode sl0 1 0 [97] = 0 := by decide +kernel
theorem aw_c2 : rmCode aw1 1 = 0 := by decide +kernel
theorem aw_c3 : wrCode aw2 1 0 [98] = 0 := by decide +kernel
theorem aw_p : placeB 1 0 = true := by decide
theorem aw_l1 : sl0.pend.length ≤ 1000000 := by decide +kernel
theorem aw_l2 : aw2.pend.length ≤ 1000000 := by decide +kernel
theorem aw_a : blkD (aw3.crash []).seen 1 0 = padL [97] := by decide +kernel
theorem aw_b : blkD (aw3.crash [true]).seen 1 0 = padL [98] := by decide +kernel
/-- What a look at a block answers. -/
def RdO (l : List UInt8) (w : World) (v : Value) (w' : World) : Prop := ∃ g, v = .tuple #[.slice (some ⟨g, 0, none⟩) 64 64, .int .i64 0] ∧ Blk w' g (bkA l) 85 ∧ Below w.heap.size w w'
theorem read_ok {vs : Array Value} {f b : Int} {M : Sl} {l : List UInt8} {w : World} (hp : placeB f b = true) (hl : blkD M.seen f b = l) (h : Calls Tryd.prog 23 vs w fun e w' => ReadR M f b w e w') : Calls Tryd.prog 23 vs w fun e w' => ∃ v, e = .returned v ∧ RdO l w v w' := h.mono fun _ _ hr => by
  unfold ReadR at hr
  rw [hp, hl] at hr
  obtain ⟨⟨g, he, hY, _⟩, hb⟩ := hr
  exact ⟨_, he, g, rfl, hY, hb⟩
theorem load_u8 {W : World} {a : Addr} {c : Int} (h : W.cell? a = some (.int .u8 c)) : (Instr.loadAt 5 (.pointer (some a))).run Tryd.prog W = .ok (.int .u8 c) W := by
  go_simp
theorem bk_a0 : (bkA (padL [97]))[0]? = some (.int .u8 97) := by kernel_rfl
theorem bk_a1 : (bkA (padL [97]))[1]? = some (.int .u8 0) := by kernel_rfl
theorem bk_b0 : (bkA (padL [98]))[0]? = some (.int .u8 98) := by kernel_rfl
theorem enters_awake9 : ∀ args w, (callFunc 21 args).run Tryd.prog w = .ok (.enter 21 args) w := enters_of Tryd.func21 (by kernel_rfl) rfl

/-- A call that turns a slate. -/
def TurnR (B s : Nat) (c : Int) (M : Sl) (w : World) (v : Value) (w' : World) : Prop := v = .int .i64 c ∧ SlR B w' s M ∧ StK B w w'
set_option maxRecDepth 100000 in
set_option maxHeartbeats 4000000 in
theorem awake9_any (S : Addr) (w : World) (hE : LaidE S w) : Calls Tryd.prog 21 #[] w fun e w' => e = .returned (.bool true) ∧ Below w.heap.size w w' := by
  have hg : 1 < w.heap.size := World.block_lt_of_cell? w _ hE
  go_enter Tryd.func21, Tryd.ntmps21
  go_upto_region 1 with fail
  refine wp_region_lit ?_
  refine fl_start ?_
  generalize ha : Act.mk _ _ = a0
  have hn : a0.tmps.size = 77 := by rw [← ha]; kernel_rfl
  refine g_cvx enters_New hn (vs := #[]) (fun _ => by simp) (new_any w) ?_
  rintro v w1 ⟨s, rfl, hR1, hb1⟩
  repeat first | refine g_mv hn ?_ | refine g_as hn ?_ | refine g_fd hn ?_ | refine g_ld hn ?_ | refine g_nc hn ?_ | refine g_nt hn ?_ | refine g_an hn ?_ | refine g_or hn ?_ | refine g_ln hn ?_ | refine g_ex hn ?_ | refine g_neq2 hn ?_ | refine g_neq hn ?_ | refine g_eql2 hn ?_ | refine g_eql hn ?_ | refine g_leq2 hn ?_ | refine g_leq hn ?_ | refine g_lss2 hn ?_ | refine g_lss hn ?_ | refine g_gtr2 hn ?_ | refine g_gtr hn ?_ | refine g_geq2 hn ?_ | refine g_geq hn ?_ | refine g_b0 hn ?_ | refine g_bn hn ?_ | refine g_bc hn ?_ | refine g_cv hn ?_ | refine g_ac hn ?_ | refine g_mc hn ?_
  refine fl_end ?_
  clear hn
  subst ha
  dsimp only [fr, cnd, Act.put, cond_true]
  simp only [List.setIfInBounds_toArray, List.set_cons_zero, List.set_cons_succ]
  have hE1 := hE.keep hb1
  have hK1 : StK w.heap.size w w1 := StK.of_below hb1 (Nat.le_refl _)
  clear hb1
  have HBw : Hid (w.heap.size = w.heap.size) := rfl
  generalize hB : w.heap.size = B at hg hR1 hK1
  go_upto_region 2 with fail
  refine wp_region_lit ?_
  refine fl_start ?_
  generalize ha : Act.mk _ _ = a0
  have hn : a0.tmps.size = 77 := by rw [← ha]; kernel_rfl
  have h1 : (fr a0 []).eval (.tmp 1) = .pointer (some ⟨s, 0, none⟩) := by rw [← ha]; kernel_rfl
  refine fl_know hn rfl h1 ?_
  clear h1
  repeat first | refine g_mv hn ?_ | refine g_as hn ?_ | refine g_fd hn ?_ | refine g_ld hn ?_ | refine g_nc hn ?_ | refine g_nt hn ?_ | refine g_an hn ?_ | refine g_or hn ?_ | refine g_ln hn ?_ | refine g_ex hn ?_ | refine g_neq2 hn ?_ | refine g_neq hn ?_ | refine g_eql2 hn ?_ | refine g_eql hn ?_ | refine g_leq2 hn ?_ | refine g_leq hn ?_ | refine g_lss2 hn ?_ | refine g_lss hn ?_ | refine g_gtr2 hn ?_ | refine g_gtr hn ?_ | refine g_geq2 hn ?_ | refine g_geq hn ?_ | refine g_b0 hn ?_ | refine g_bn hn ?_ | refine g_bc hn ?_ | refine g_cv hn ?_ | refine g_ac hn ?_ | refine g_mc hn ?_
  refine g_o1 hn (i := 9) (vi := .pointer (some ⟨s, 0, none⟩)) (v := .bool false) (fun ρ h hc => by unfold execOp; dsimp only; rw [h, hc]; kernel_rfl) ?_
  repeat first | refine g_mv hn ?_ | refine g_as hn ?_ | refine g_fd hn ?_ | refine g_ld hn ?_ | refine g_nc hn ?_ | refine g_nt hn ?_ | refine g_an hn ?_ | refine g_or hn ?_ | refine g_ln hn ?_ | refine g_ex hn ?_ | refine g_neq2 hn ?_ | refine g_neq hn ?_ | refine g_eql2 hn ?_ | refine g_eql hn ?_ | refine g_leq2 hn ?_ | refine g_leq hn ?_ | refine g_lss2 hn ?_ | refine g_lss hn ?_ | refine g_gtr2 hn ?_ | refine g_gtr hn ?_ | refine g_geq2 hn ?_ | refine g_geq hn ?_ | refine g_b0 hn ?_ | refine g_bn hn ?_ | refine g_bc hn ?_ | refine g_cv hn ?_ | refine g_ac hn ?_ | refine g_mc hn ?_
  refine g_w hn (w2 := w1.alloc (.cells #[.int .u8 97] 5)) (v := .slice (some ⟨w1.heap.size, 0, none⟩) 1 1) (fun _ => x_bsc rfl (run_bs1 w1 97)) ?_
  refine g_w hn (w2 := w1.alloc (.cells #[.int .u8 97] 5 (1, 2))) (v := .slice (some ⟨w1.heap.size, 0, none⟩) 1 1) (fun hk => by unfold execOp; dsimp only; rw [lk_at hk (i := 13) rfl (fun _ => rfl) rfl, Sem.run_bind, Lib.run_convert_bytes_const w1 22 5 #[.int .u8 97] 1 1 (by kernel_rfl) (by kernel_rfl)]; rfl) ?_
  have hY := rdb_mark w1 97 97 (by decide) 5 (1, 2)
  have hb := b0 w1 (.cells #[.int .u8 97] 5 (1, 2))
  generalize w1.alloc (.cells #[.int .u8 97] 5 (1, 2)) = w2 at hY hb ⊢
  generalize w1.heap.size = y at hY ⊢
  have hR2 := hR1.below hb
  have hK2 := hK1.trans (StK.of_below hb hR1.size)
  have hE2 := hE1.keep hb
  clear hR1 hK1 hE1 hb
  refine g_cvx enters_Write hn (fun hk => by simp only [List.map_toArray, List.map_cons, List.map_nil, lk_at hk (i := 12) rfl (fun _ => rfl) rfl, lk_at hk (i := 14) rfl (fun _ => rfl) rfl]; rfl) (R := TurnR B s 0 aw1 w2) ((write_any S B s sl0 1 0 (some ⟨y, 0, none⟩) 1 1 [97] w2 hR2 hE2 hg rfl hY aw_l1 (by omega)).mono fun _ _ ⟨he, h1, h2⟩ => ⟨_, he, by rw [aw_c1], h1, h2⟩) ?_
  rintro v w3 ⟨rfl, hR3, hK3⟩
  replace hK3 := hK2.trans hK3
  have hE3 := hE.stk hK3 hg
  clear hR2 hK2 hE2 hY
  refine g_o1 hn (i := 15) (vi := .int .i64 0) (v := .bool false) (fun ρ h hc => by unfold execOp; dsimp only; rw [h, hc]; kernel_rfl) ?_
  repeat first | refine g_mv hn ?_ | refine g_as hn ?_ | refine g_fd hn ?_ | refine g_ld hn ?_ | refine g_nc hn ?_ | refine g_nt hn ?_ | refine g_an hn ?_ | refine g_or hn ?_ | refine g_ln hn ?_ | refine g_ex hn ?_ | refine g_neq2 hn ?_ | refine g_neq hn ?_ | refine g_eql2 hn ?_ | refine g_eql hn ?_ | refine g_leq2 hn ?_ | refine g_leq hn ?_ | refine g_lss2 hn ?_ | refine g_lss hn ?_ | refine g_gtr2 hn ?_ | refine g_gtr hn ?_ | refine g_geq2 hn ?_ | refine g_geq hn ?_ | refine g_b0 hn ?_ | refine g_bn hn ?_ | refine g_bc hn ?_ | refine g_cv hn ?_ | refine g_ac hn ?_ | refine g_mc hn ?_
  refine g_cvx enters_Flush hn (fun hk => by simp only [List.map_toArray, List.map_cons, List.map_nil, lk_at hk (i := 19) rfl (fun _ => rfl) rfl]; rfl) (R := TurnR B s 0 aw2 w3) ((flush_any S B s aw1 1 w3 hR3 hE3 hg).mono fun _ _ ⟨he, h1, h2⟩ => ⟨_, he, by rw [aw_c2], h1, h2⟩) ?_
  rintro v w4 ⟨rfl, hR4, hK4⟩
  replace hK4 := hK3.trans hK4
  clear hR3 hK3 hE3
  refine g_o1 hn (i := 20) (vi := .int .i64 0) (v := .bool false) (fun ρ h hc => by unfold execOp; dsimp only; rw [h, hc]; kernel_rfl) ?_
  repeat first | refine g_mv hn ?_ | refine g_as hn ?_ | refine g_fd hn ?_ | refine g_ld hn ?_ | refine g_nc hn ?_ | refine g_nt hn ?_ | refine g_an hn ?_ | refine g_or hn ?_ | refine g_ln hn ?_ | refine g_ex hn ?_ | refine g_neq2 hn ?_ | refine g_neq hn ?_ | refine g_eql2 hn ?_ | refine g_eql hn ?_ | refine g_leq2 hn ?_ | refine g_leq hn ?_ | refine g_lss2 hn ?_ | refine g_lss hn ?_ | refine g_gtr2 hn ?_ | refine g_gtr hn ?_ | refine g_geq2 hn ?_ | refine g_geq hn ?_ | refine g_b0 hn ?_ | refine g_bn hn ?_ | refine g_bc hn ?_ | refine g_cv hn ?_ | refine g_ac hn ?_ | refine g_mc hn ?_
  refine g_w hn (w2 := w4.alloc (.cells #[.int .u8 98] 5)) (v := .slice (some ⟨w4.heap.size, 0, none⟩) 1 1) (fun _ => x_bsc rfl (run_bs1 w4 98)) ?_
  refine g_w hn (w2 := w4.alloc (.cells #[.int .u8 98] 5 (1, 2))) (v := .slice (some ⟨w4.heap.size, 0, none⟩) 1 1) (fun hk => by unfold execOp; dsimp only; rw [lk_at hk (i := 25) rfl (fun _ => rfl) rfl, Sem.run_bind, Lib.run_convert_bytes_const w4 22 5 #[.int .u8 98] 1 1 (by kernel_rfl) (by kernel_rfl)]; rfl) ?_
  have hY := rdb_mark w4 98 98 (by decide) 5 (1, 2)
  have hb := b0 w4 (.cells #[.int .u8 98] 5 (1, 2))
  generalize w4.alloc (.cells #[.int .u8 98] 5 (1, 2)) = w5 at hY hb ⊢
  generalize w4.heap.size = y2 at hY ⊢
  have hR5 := hR4.below hb
  have hK5 := hK4.trans (StK.of_below hb hR4.size)
  have hE5 := hE.stk hK5 hg
  clear hR4 hK4 hb
  refine g_cvx enters_Write hn (fun hk => by simp only [List.map_toArray, List.map_cons, List.map_nil, lk_at hk (i := 24) rfl (fun _ => rfl) rfl, lk_at hk (i := 26) rfl (fun _ => rfl) rfl]; rfl) (R := TurnR B s 0 aw3 w5) ((write_any S B s aw2 1 0 (some ⟨y2, 0, none⟩) 1 1 [98] w5 hR5 hE5 hg rfl hY aw_l2 (by omega)).mono fun _ _ ⟨he, h1, h2⟩ => ⟨_, he, by rw [aw_c3], h1, h2⟩) ?_
  rintro v w6 ⟨rfl, hR6, hK6⟩
  replace hK6 := hK5.trans hK6
  clear hR5 hK5 hE5 hY
  refine g_o1 hn (i := 27) (vi := .int .i64 0) (v := .bool false) (fun ρ h hc => by unfold execOp; dsimp only; rw [h, hc]; kernel_rfl) ?_
  repeat first | refine g_mv hn ?_ | refine g_as hn ?_ | refine g_fd hn ?_ | refine g_ld hn ?_ | refine g_nc hn ?_ | refine g_nt hn ?_ | refine g_an hn ?_ | refine g_or hn ?_ | refine g_ln hn ?_ | refine g_ex hn ?_ | refine g_neq2 hn ?_ | refine g_neq hn ?_ | refine g_eql2 hn ?_ | refine g_eql hn ?_ | refine g_leq2 hn ?_ | refine g_leq hn ?_ | refine g_lss2 hn ?_ | refine g_lss hn ?_ | refine g_gtr2 hn ?_ | refine g_gtr hn ?_ | refine g_geq2 hn ?_ | refine g_geq hn ?_ | refine g_b0 hn ?_ | refine g_bn hn ?_ | refine g_bc hn ?_ | refine g_cv hn ?_ | refine g_ac hn ?_ | refine g_mc hn ?_
  refine fl_end ?_
  clear hn
  subst ha
  dsimp only [fr, cnd, Act.put, cond_true]
  simp only [List.setIfInBounds_toArray, List.set_cons_zero, List.set_cons_succ]
  clear HBw
  go_upto_region 4 with fail
  refine wp_region_lit ?_
  refine fl_start ?_
  generalize ha : Act.mk _ _ = a0
  have hn : a0.tmps.size = 77 := by rw [← ha]; kernel_rfl
  have h1 : (fr a0 []).eval (.tmp 1) = .pointer (some ⟨s, 0, none⟩) := by rw [← ha]; kernel_rfl
  refine fl_know hn rfl h1 ?_
  clear h1
  repeat first | refine g_mv hn ?_ | refine g_as hn ?_ | refine g_fd hn ?_ | refine g_ld hn ?_ | refine g_nc hn ?_ | refine g_nt hn ?_ | refine g_an hn ?_ | refine g_or hn ?_ | refine g_ln hn ?_ | refine g_ex hn ?_ | refine g_neq2 hn ?_ | refine g_neq hn ?_ | refine g_eql2 hn ?_ | refine g_eql hn ?_ | refine g_leq2 hn ?_ | refine g_leq hn ?_ | refine g_lss2 hn ?_ | refine g_lss hn ?_ | refine g_gtr2 hn ?_ | refine g_gtr hn ?_ | refine g_geq2 hn ?_ | refine g_geq hn ?_ | refine g_b0 hn ?_ | refine g_bn hn ?_ | refine g_bc hn ?_ | refine g_cv hn ?_ | refine g_ac hn ?_ | refine g_mc hn ?_
  refine g_cvx enters_Crash hn (fun hk => by simp only [List.map_toArray, List.map_cons, List.map_nil, lk_at hk (i := 30) rfl (fun _ => rfl) rfl]; rfl) (crash_any B s aw3 none 0 0 [] w6 hR6 rfl (RdK.nil _ _ _)) ?_
  rintro v w7 ⟨s2, rfl, hR7, hb7⟩
  have hR6b := hR6.below hb7
  repeat first | refine g_mv hn ?_ | refine g_as hn ?_ | refine g_fd hn ?_ | refine g_ld hn ?_ | refine g_nc hn ?_ | refine g_nt hn ?_ | refine g_an hn ?_ | refine g_or hn ?_ | refine g_ln hn ?_ | refine g_ex hn ?_ | refine g_neq2 hn ?_ | refine g_neq hn ?_ | refine g_eql2 hn ?_ | refine g_eql hn ?_ | refine g_leq2 hn ?_ | refine g_leq hn ?_ | refine g_lss2 hn ?_ | refine g_lss hn ?_ | refine g_gtr2 hn ?_ | refine g_gtr hn ?_ | refine g_geq2 hn ?_ | refine g_geq hn ?_ | refine g_b0 hn ?_ | refine g_bn hn ?_ | refine g_bc hn ?_ | refine g_cv hn ?_ | refine g_ac hn ?_ | refine g_mc hn ?_
  refine g_w hn (w2 := w7.alloc (.cells #[.bool true] 4)) (v := .slice (some ⟨w7.heap.size, 0, none⟩) 1 1) (fun _ => x_bsc rfl (run_bsK w7 true)) ?_
  have hY := blk_new w7 #[.bool true] 4
  have hb := b0 w7 (.cells #[.bool true] 4)
  generalize w7.alloc (.cells #[.bool true] 4) = w8 at hY hb ⊢
  generalize w7.heap.size = y3 at hY ⊢
  have hR8 := hR6b.below hb
  have hR7b := hR7.below hb
  repeat first | refine g_mv hn ?_ | refine g_as hn ?_ | refine g_fd hn ?_ | refine g_ld hn ?_ | refine g_nc hn ?_ | refine g_nt hn ?_ | refine g_an hn ?_ | refine g_or hn ?_ | refine g_ln hn ?_ | refine g_ex hn ?_ | refine g_neq2 hn ?_ | refine g_neq hn ?_ | refine g_eql2 hn ?_ | refine g_eql hn ?_ | refine g_leq2 hn ?_ | refine g_leq hn ?_ | refine g_lss2 hn ?_ | refine g_lss hn ?_ | refine g_gtr2 hn ?_ | refine g_gtr hn ?_ | refine g_geq2 hn ?_ | refine g_geq hn ?_ | refine g_b0 hn ?_ | refine g_bn hn ?_ | refine g_bc hn ?_ | refine g_cv hn ?_ | refine g_ac hn ?_ | refine g_mc hn ?_
  refine g_cvx enters_Crash hn (fun hk => by simp only [List.map_toArray, List.map_cons, List.map_nil, lk_at hk (i := 32) rfl (fun _ => rfl) rfl, lk_at hk (i := 33) rfl (fun _ => rfl) rfl]) (crash_any B s aw3 (some ⟨y3, 0, none⟩) 1 1 [true] w8 hR8 rfl (rdk_one hY)) ?_
  rintro v w9 ⟨s3, rfl, hR9, hb9⟩
  have hR7c := hR7b.below hb9
  have hB9 : Below B w w9 := ((hK6.bel.trans (hb7.mono hR6.size)).trans (hb.mono hR6b.size)).trans (hb9.mono hR8.size)
  clear hR6 hR6b hR7 hR7b hR8 hY hb hb7 hb9 hK6
  repeat first | refine g_mv hn ?_ | refine g_as hn ?_ | refine g_fd hn ?_ | refine g_ld hn ?_ | refine g_nc hn ?_ | refine g_nt hn ?_ | refine g_an hn ?_ | refine g_or hn ?_ | refine g_ln hn ?_ | refine g_ex hn ?_ | refine g_neq2 hn ?_ | refine g_neq hn ?_ | refine g_eql2 hn ?_ | refine g_eql hn ?_ | refine g_leq2 hn ?_ | refine g_leq hn ?_ | refine g_lss2 hn ?_ | refine g_lss hn ?_ | refine g_gtr2 hn ?_ | refine g_gtr hn ?_ | refine g_geq2 hn ?_ | refine g_geq hn ?_ | refine g_b0 hn ?_ | refine g_bn hn ?_ | refine g_bc hn ?_ | refine g_cv hn ?_ | refine g_ac hn ?_ | refine g_mc hn ?_
  refine fl_end ?_
  clear hn
  subst ha
  dsimp only [fr, cnd, Act.put, cond_true]
  simp only [List.setIfInBounds_toArray, List.set_cons_zero, List.set_cons_succ]
  go_upto_region 5 with fail
  refine wp_region_lit ?_
  refine fl_start ?_
  generalize ha : Act.mk _ _ = a0
  have hn : a0.tmps.size = 77 := by rw [← ha]; kernel_rfl
  have h2 : (fr a0 []).eval (.tmp 2) = .pointer (some ⟨s2, 0, none⟩) := by rw [← ha]; kernel_rfl
  refine fl_know hn rfl h2 ?_
  clear h2
  have h3 : (fr a0 [(2, true, .pointer (some ⟨s2, 0, none⟩))]).eval (.tmp 3) = .pointer (some ⟨s3, 0, none⟩) := by rw [← ha]; kernel_rfl
  refine fl_know hn rfl h3 ?_
  clear h3
  repeat first | refine g_mv hn ?_ | refine g_as hn ?_ | refine g_fd hn ?_ | refine g_ld hn ?_ | refine g_nc hn ?_ | refine g_nt hn ?_ | refine g_an hn ?_ | refine g_or hn ?_ | refine g_ln hn ?_ | refine g_ex hn ?_ | refine g_neq2 hn ?_ | refine g_neq hn ?_ | refine g_eql2 hn ?_ | refine g_eql hn ?_ | refine g_leq2 hn ?_ | refine g_leq hn ?_ | refine g_lss2 hn ?_ | refine g_lss hn ?_ | refine g_gtr2 hn ?_ | refine g_gtr hn ?_ | refine g_geq2 hn ?_ | refine g_geq hn ?_ | refine g_b0 hn ?_ | refine g_bn hn ?_ | refine g_bc hn ?_ | refine g_cv hn ?_ | refine g_ac hn ?_ | refine g_mc hn ?_
  refine g_o1 hn (i := 35) (vi := .pointer (some ⟨s2, 0, none⟩)) (v := .bool false) (fun ρ h hc => by unfold execOp; dsimp only; rw [h, hc]; kernel_rfl) ?_
  repeat first | refine g_mv hn ?_ | refine g_as hn ?_ | refine g_fd hn ?_ | refine g_ld hn ?_ | refine g_nc hn ?_ | refine g_nt hn ?_ | refine g_an hn ?_ | refine g_or hn ?_ | refine g_ln hn ?_ | refine g_ex hn ?_ | refine g_neq2 hn ?_ | refine g_neq hn ?_ | refine g_eql2 hn ?_ | refine g_eql hn ?_ | refine g_leq2 hn ?_ | refine g_leq hn ?_ | refine g_lss2 hn ?_ | refine g_lss hn ?_ | refine g_gtr2 hn ?_ | refine g_gtr hn ?_ | refine g_geq2 hn ?_ | refine g_geq hn ?_ | refine g_b0 hn ?_ | refine g_bn hn ?_ | refine g_bc hn ?_ | refine g_cv hn ?_ | refine g_ac hn ?_ | refine g_mc hn ?_
  refine g_o1 hn (i := 38) (vi := .pointer (some ⟨s3, 0, none⟩)) (v := .bool false) (fun ρ h hc => by unfold execOp; dsimp only; rw [h, hc]; kernel_rfl) ?_
  repeat first | refine g_mv hn ?_ | refine g_as hn ?_ | refine g_fd hn ?_ | refine g_ld hn ?_ | refine g_nc hn ?_ | refine g_nt hn ?_ | refine g_an hn ?_ | refine g_or hn ?_ | refine g_ln hn ?_ | refine g_ex hn ?_ | refine g_neq2 hn ?_ | refine g_neq hn ?_ | refine g_eql2 hn ?_ | refine g_eql hn ?_ | refine g_leq2 hn ?_ | refine g_leq hn ?_ | refine g_lss2 hn ?_ | refine g_lss hn ?_ | refine g_gtr2 hn ?_ | refine g_gtr hn ?_ | refine g_geq2 hn ?_ | refine g_geq hn ?_ | refine g_b0 hn ?_ | refine g_bn hn ?_ | refine g_bc hn ?_ | refine g_cv hn ?_ | refine g_ac hn ?_ | refine g_mc hn ?_
  refine fl_end ?_
  clear hn
  subst ha
  dsimp only [fr, cnd, Act.put, cond_true]
  simp only [List.setIfInBounds_toArray, List.set_cons_zero, List.set_cons_succ]
  go_upto_region 7 with fail
  refine wp_region_lit ?_
  refine fl_start ?_
  generalize ha : Act.mk _ _ = a0
  have hn : a0.tmps.size = 77 := by rw [← ha]; kernel_rfl
  have h2 : (fr a0 []).eval (.tmp 2) = .pointer (some ⟨s2, 0, none⟩) := by rw [← ha]; kernel_rfl
  refine fl_know hn rfl h2 ?_
  clear h2
  repeat first | refine g_mv hn ?_ | refine g_as hn ?_ | refine g_fd hn ?_ | refine g_ld hn ?_ | refine g_nc hn ?_ | refine g_nt hn ?_ | refine g_an hn ?_ | refine g_or hn ?_ | refine g_ln hn ?_ | refine g_ex hn ?_ | refine g_neq2 hn ?_ | refine g_neq hn ?_ | refine g_eql2 hn ?_ | refine g_eql hn ?_ | refine g_leq2 hn ?_ | refine g_leq hn ?_ | refine g_lss2 hn ?_ | refine g_lss hn ?_ | refine g_gtr2 hn ?_ | refine g_gtr hn ?_ | refine g_geq2 hn ?_ | refine g_geq hn ?_ | refine g_b0 hn ?_ | refine g_bn hn ?_ | refine g_bc hn ?_ | refine g_cv hn ?_ | refine g_ac hn ?_ | refine g_mc hn ?_
  refine g_cvx enters_Read hn (fun hk => by simp only [List.map_toArray, List.map_cons, List.map_nil, lk_at hk (i := 42) rfl (fun _ => rfl) rfl]; rfl) (R := RdO (padL [97]) w9) (read_ok aw_p aw_a (read_any _ s2 _ 1 0 w9 hR7c)) ?_
  rintro v w10 ⟨g1, rfl, hY1, hb10⟩
  have hR10 := hR9.below hb10
  have hB10 := hB9.trans (hb10.mono (by rw [← hB]; exact hB9.size))
  repeat first | refine g_mv hn ?_ | refine g_as hn ?_ | refine g_fd hn ?_ | refine g_ld hn ?_ | refine g_nc hn ?_ | refine g_nt hn ?_ | refine g_an hn ?_ | refine g_or hn ?_ | refine g_ln hn ?_ | refine g_ex hn ?_ | refine g_neq2 hn ?_ | refine g_neq hn ?_ | refine g_eql2 hn ?_ | refine g_eql hn ?_ | refine g_leq2 hn ?_ | refine g_leq hn ?_ | refine g_lss2 hn ?_ | refine g_lss hn ?_ | refine g_gtr2 hn ?_ | refine g_gtr hn ?_ | refine g_geq2 hn ?_ | refine g_geq hn ?_ | refine g_b0 hn ?_ | refine g_bn hn ?_ | refine g_bc hn ?_ | refine g_cv hn ?_ | refine g_ac hn ?_ | refine g_mc hn ?_
  refine fl_end ?_
  clear hn
  subst ha
  dsimp only [fr, cnd, Act.put, cond_true]
  simp only [List.setIfInBounds_toArray, List.set_cons_zero, List.set_cons_succ]
  clear hR9 hR7c hb10 hB9
  go_upto_region 8 with fail
  refine wp_region_lit ?_
  refine fl_start ?_
  generalize ha : Act.mk _ _ = a0
  have hn : a0.tmps.size = 77 := by rw [← ha]; kernel_rfl
  have h3 : (fr a0 []).eval (.tmp 3) = .pointer (some ⟨s3, 0, none⟩) := by rw [← ha]; kernel_rfl
  refine fl_know hn rfl h3 ?_
  clear h3
  repeat first | refine g_mv hn ?_ | refine g_as hn ?_ | refine g_fd hn ?_ | refine g_ld hn ?_ | refine g_nc hn ?_ | refine g_nt hn ?_ | refine g_an hn ?_ | refine g_or hn ?_ | refine g_ln hn ?_ | refine g_ex hn ?_ | refine g_neq2 hn ?_ | refine g_neq hn ?_ | refine g_eql2 hn ?_ | refine g_eql hn ?_ | refine g_leq2 hn ?_ | refine g_leq hn ?_ | refine g_lss2 hn ?_ | refine g_lss hn ?_ | refine g_gtr2 hn ?_ | refine g_gtr hn ?_ | refine g_geq2 hn ?_ | refine g_geq hn ?_ | refine g_b0 hn ?_ | refine g_bn hn ?_ | refine g_bc hn ?_ | refine g_cv hn ?_ | refine g_ac hn ?_ | refine g_mc hn ?_
  refine g_cvx enters_Read hn (fun hk => by simp only [List.map_toArray, List.map_cons, List.map_nil, lk_at hk (i := 47) rfl (fun _ => rfl) rfl]; rfl) (R := RdO (padL [98]) w10) (read_ok aw_p aw_b (read_any _ s3 _ 1 0 w10 hR10)) ?_
  rintro v w11 ⟨g2, rfl, hY2, hb11⟩
  have hY1b := hY1.keep hb11
  have hB11 := hB10.trans (hb11.mono (by rw [← hB]; exact hB10.size))
  repeat first | refine g_mv hn ?_ | refine g_as hn ?_ | refine g_fd hn ?_ | refine g_ld hn ?_ | refine g_nc hn ?_ | refine g_nt hn ?_ | refine g_an hn ?_ | refine g_or hn ?_ | refine g_ln hn ?_ | refine g_ex hn ?_ | refine g_neq2 hn ?_ | refine g_neq hn ?_ | refine g_eql2 hn ?_ | refine g_eql hn ?_ | refine g_leq2 hn ?_ | refine g_leq hn ?_ | refine g_lss2 hn ?_ | refine g_lss hn ?_ | refine g_gtr2 hn ?_ | refine g_gtr hn ?_ | refine g_geq2 hn ?_ | refine g_geq hn ?_ | refine g_b0 hn ?_ | refine g_bn hn ?_ | refine g_bc hn ?_ | refine g_cv hn ?_ | refine g_ac hn ?_ | refine g_mc hn ?_
  refine fl_end ?_
  clear hn
  subst ha
  dsimp only [fr, cnd, Act.put, cond_true]
  simp only [List.setIfInBounds_toArray, List.set_cons_zero, List.set_cons_succ]
  have l1 := load_u8 ((hY1b.cell 0).trans bk_a0)
  have l2 := load_u8 ((hY1b.cell 1).trans bk_a1)
  have l3 := load_u8 ((hY2.cell 0).trans bk_b0)
  clear hR10 hY1 hb11 hB10 hY2 hY1b
  go_upto_region 9 with fail
  refine wp_region_lit ?_
  refine fl_start ?_
  generalize ha : Act.mk _ _ = a0
  have hn : a0.tmps.size = 77 := by rw [← ha]; kernel_rfl
  have h4 : (fr a0 []).eval (.tmp 4) = .slice (some ⟨g1, 0, none⟩) 64 64 := by rw [← ha]; kernel_rfl
  refine fl_know hn rfl h4 ?_
  clear h4
  have h6 : (fr a0 [(4, true, .slice (some ⟨g1, 0, none⟩) 64 64)]).eval (.tmp 6) = .slice (some ⟨g2, 0, none⟩) 64 64 := by rw [← ha]; kernel_rfl
  refine fl_know hn rfl h6 ?_
  clear h6
  repeat first | refine g_mv hn ?_ | refine g_as hn ?_ | refine g_fd hn ?_ | refine g_ld hn ?_ | refine g_nc hn ?_ | refine g_nt hn ?_ | refine g_an hn ?_ | refine g_or hn ?_ | refine g_ln hn ?_ | refine g_ex hn ?_ | refine g_neq2 hn ?_ | refine g_neq hn ?_ | refine g_eql2 hn ?_ | refine g_eql hn ?_ | refine g_leq2 hn ?_ | refine g_leq hn ?_ | refine g_lss2 hn ?_ | refine g_lss hn ?_ | refine g_gtr2 hn ?_ | refine g_gtr hn ?_ | refine g_geq2 hn ?_ | refine g_geq hn ?_ | refine g_b0 hn ?_ | refine g_bn hn ?_ | refine g_bc hn ?_ | refine g_cv hn ?_ | refine g_ac hn ?_ | refine g_mc hn ?_
  refine g_o1 hn (i := 55) (vi := .slice (some ⟨g1, 0, none⟩) 64 64) (v := .pointer (some ⟨g1, 0, none⟩)) (fun ρ h hc => by unfold execOp; dsimp only; rw [h, hc]; kernel_rfl) ?_
  repeat first | refine g_mv hn ?_ | refine g_as hn ?_ | refine g_fd hn ?_ | refine g_ld hn ?_ | refine g_nc hn ?_ | refine g_nt hn ?_ | refine g_an hn ?_ | refine g_or hn ?_ | refine g_ln hn ?_ | refine g_ex hn ?_ | refine g_neq2 hn ?_ | refine g_neq hn ?_ | refine g_eql2 hn ?_ | refine g_eql hn ?_ | refine g_leq2 hn ?_ | refine g_leq hn ?_ | refine g_lss2 hn ?_ | refine g_lss hn ?_ | refine g_gtr2 hn ?_ | refine g_gtr hn ?_ | refine g_geq2 hn ?_ | refine g_geq hn ?_ | refine g_b0 hn ?_ | refine g_bn hn ?_ | refine g_bc hn ?_ | refine g_cv hn ?_ | refine g_ac hn ?_ | refine g_mc hn ?_
  refine g_o1 hn (i := 57) (vi := .int .u8 97) (v := .bool true) (fun ρ h hc => by unfold execOp; dsimp only; rw [h, hc]; kernel_rfl) ?_
  repeat first | refine g_mv hn ?_ | refine g_as hn ?_ | refine g_fd hn ?_ | refine g_ld hn ?_ | refine g_nc hn ?_ | refine g_nt hn ?_ | refine g_an hn ?_ | refine g_or hn ?_ | refine g_ln hn ?_ | refine g_ex hn ?_ | refine g_neq2 hn ?_ | refine g_neq hn ?_ | refine g_eql2 hn ?_ | refine g_eql hn ?_ | refine g_leq2 hn ?_ | refine g_leq hn ?_ | refine g_lss2 hn ?_ | refine g_lss hn ?_ | refine g_gtr2 hn ?_ | refine g_gtr hn ?_ | refine g_geq2 hn ?_ | refine g_geq hn ?_ | refine g_b0 hn ?_ | refine g_bn hn ?_ | refine g_bc hn ?_ | refine g_cv hn ?_ | refine g_ac hn ?_ | refine g_mc hn ?_
  refine g_o1 hn (i := 61) (vi := .slice (some ⟨g1, 0, none⟩) 64 64) (v := .pointer (some ⟨g1, 1, none⟩)) (fun ρ h hc => by unfold execOp; dsimp only; rw [h, hc]; kernel_rfl) ?_
  repeat first | refine g_mv hn ?_ | refine g_as hn ?_ | refine g_fd hn ?_ | refine g_ld hn ?_ | refine g_nc hn ?_ | refine g_nt hn ?_ | refine g_an hn ?_ | refine g_or hn ?_ | refine g_ln hn ?_ | refine g_ex hn ?_ | refine g_neq2 hn ?_ | refine g_neq hn ?_ | refine g_eql2 hn ?_ | refine g_eql hn ?_ | refine g_leq2 hn ?_ | refine g_leq hn ?_ | refine g_lss2 hn ?_ | refine g_lss hn ?_ | refine g_gtr2 hn ?_ | refine g_gtr hn ?_ | refine g_geq2 hn ?_ | refine g_geq hn ?_ | refine g_b0 hn ?_ | refine g_bn hn ?_ | refine g_bc hn ?_ | refine g_cv hn ?_ | refine g_ac hn ?_ | refine g_mc hn ?_
  refine g_o1 hn (i := 63) (vi := .int .u8 0) (v := .bool true) (fun ρ h hc => by unfold execOp; dsimp only; rw [h, hc]; kernel_rfl) ?_
  repeat first | refine g_mv hn ?_ | refine g_as hn ?_ | refine g_fd hn ?_ | refine g_ld hn ?_ | refine g_nc hn ?_ | refine g_nt hn ?_ | refine g_an hn ?_ | refine g_or hn ?_ | refine g_ln hn ?_ | refine g_ex hn ?_ | refine g_neq2 hn ?_ | refine g_neq hn ?_ | refine g_eql2 hn ?_ | refine g_eql hn ?_ | refine g_leq2 hn ?_ | refine g_leq hn ?_ | refine g_lss2 hn ?_ | refine g_lss hn ?_ | refine g_gtr2 hn ?_ | refine g_gtr hn ?_ | refine g_geq2 hn ?_ | refine g_geq hn ?_ | refine g_b0 hn ?_ | refine g_bn hn ?_ | refine g_bc hn ?_ | refine g_cv hn ?_ | refine g_ac hn ?_ | refine g_mc hn ?_
  refine g_o1 hn (i := 72) (vi := .slice (some ⟨g2, 0, none⟩) 64 64) (v := .pointer (some ⟨g2, 0, none⟩)) (fun ρ h hc => by unfold execOp; dsimp only; rw [h, hc]; kernel_rfl) ?_
  repeat first | refine g_mv hn ?_ | refine g_as hn ?_ | refine g_fd hn ?_ | refine g_ld hn ?_ | refine g_nc hn ?_ | refine g_nt hn ?_ | refine g_an hn ?_ | refine g_or hn ?_ | refine g_ln hn ?_ | refine g_ex hn ?_ | refine g_neq2 hn ?_ | refine g_neq hn ?_ | refine g_eql2 hn ?_ | refine g_eql hn ?_ | refine g_leq2 hn ?_ | refine g_leq hn ?_ | refine g_lss2 hn ?_ | refine g_lss hn ?_ | refine g_gtr2 hn ?_ | refine g_gtr hn ?_ | refine g_geq2 hn ?_ | refine g_geq hn ?_ | refine g_b0 hn ?_ | refine g_bn hn ?_ | refine g_bc hn ?_ | refine g_cv hn ?_ | refine g_ac hn ?_ | refine g_mc hn ?_
  refine g_o1 hn (i := 74) (vi := .int .u8 98) (v := .bool true) (fun ρ h hc => by unfold execOp; dsimp only; rw [h, hc]; kernel_rfl) ?_
  repeat first | refine g_mv hn ?_ | refine g_as hn ?_ | refine g_fd hn ?_ | refine g_ld hn ?_ | refine g_nc hn ?_ | refine g_nt hn ?_ | refine g_an hn ?_ | refine g_or hn ?_ | refine g_ln hn ?_ | refine g_ex hn ?_ | refine g_neq2 hn ?_ | refine g_neq hn ?_ | refine g_eql2 hn ?_ | refine g_eql hn ?_ | refine g_leq2 hn ?_ | refine g_leq hn ?_ | refine g_lss2 hn ?_ | refine g_lss hn ?_ | refine g_gtr2 hn ?_ | refine g_gtr hn ?_ | refine g_geq2 hn ?_ | refine g_geq hn ?_ | refine g_b0 hn ?_ | refine g_bn hn ?_ | refine g_bc hn ?_ | refine g_cv hn ?_ | refine g_ac hn ?_ | refine g_mc hn ?_
  refine fl_end ?_
  clear hn
  subst ha
  dsimp only [fr, cnd, Act.put, cond_true]
  simp only [List.setIfInBounds_toArray, List.set_cons_zero, List.set_cons_succ]
  clear l1 l2 l3
  go_wp2_with fail
  go_ret
  exact ⟨rfl, by rw [hB]; exact hB11⟩
end Go.Proofs.YtgbopikhdpmmcaaDoor
