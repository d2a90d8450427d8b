/-
  WHAT IS PROVED: the law SlateSpoils answers true for every input. Condition: what the row lists is laid.
-/
import Derived.Test.YtfpfalgbkbmkeaaDoorSlSpMath
import Derived.Test.YtfpfalgbkbmkeaaDoorConvRd
namespace Go.Proofs.YtfpfalgbkbmkeaaDoor
open Go.RowKit Go.MapKept

theorem cvu (W : World) (x : Int) (X : Nat) (h : IntKind.u64.wrap x = (X : Int)) : (convert 3 49 (.int .i64 x)).run Tryd.prog W = .ok (.int .u64 (X : Int)) W := by go_simp
theorem cvi (W : World) (X : Nat) (h : X < 4096) : (convert 49 3 (.int .u64 (X : Int))).run Tryd.prog W = .ok (.int .i64 (X : Int)) W := by
  have hw : IntKind.i64.wrap (X : Int) = X := by unfold IntKind.wrap; simp [IntKind.bits, IntKind.signed]; omega
  go_simp
theorem remu (W : World) (t X m : Nat) (hm : 0 < m) (hm2 : m < 4096) : ((do eqGuard .rem 49 (.tmp t) (.const (.int .u64 (m : Int))) (.int .u64 (X : Int)) (.int .u64 (m : Int)); binOp .rem 49 (.int .u64 (X : Int)) (.int .u64 (m : Int))) : Sem Value).run Tryd.prog W = .ok (.int .u64 ((X % m : Nat) : Int)) W := by
  have h0 : (m : Int) ≠ 0 := by omega
  have h1 : m ≠ 0 := by omega
  have e2 : (X : Int).tmod (m : Int) = ((X % m : Nat) : Int) := by rw [Int.tmod_eq_emod_of_nonneg (by omega)]; rfl
  go_simp
theorem quo8t (W : World) (t k : Nat) (h : k < 512) : ((do eqGuard .quo 3 (.tmp t) (.const (.int .i64 8)) (.int .i64 k) (.int .i64 8); binOp .quo 3 (.int .i64 k) (.int .i64 8)) : Sem Value).run Tryd.prog W = .ok (.int .i64 ((k / 8 : Nat) : Int)) W := by
  have hw : IntKind.i64.wrap ((k / 8 : Nat) : Int) = ((k / 8 : Nat) : Int) := by unfold IntKind.wrap; simp [IntKind.bits, IntKind.signed]; omega
  have e : ((k / 8 : Nat) : Int) = (k : Int) / 8 := by omega
  rw [e] at hw ⊢
  clear e
  go_simp
theorem rem8t (W : World) (t k : Nat) : ((do eqGuard .rem 3 (.tmp t) (.const (.int .i64 8)) (.int .i64 k) (.int .i64 8); binOp .rem 3 (.int .i64 k) (.int .i64 8)) : Sem Value).run Tryd.prog W = .ok (.int .i64 ((k % 8 : Nat) : Int)) W := by
  have e : ((k % 8 : Nat) : Int) = (k : Int) % 8 := by omega
  have e2 : (k : Int).tmod 8 = (k : Int) % 8 := Int.tmod_eq_emod_of_nonneg (by omega)
  rw [e]
  clear e
  go_simp
theorem shl8t (W : World) (t k : Nat) (h : k < 8) : ((do eqGuard .shl 5 (.const (.int .u8 1)) (.tmp t) (.int .u8 1) (.int .i64 k); binOp .shl 5 (.int .u8 1) (.int .i64 k)) : Sem Value).run Tryd.prog W = .ok (.int .u8 ((bitU k).toNat : Int)) W := by
  rcases (by omega : k = 0 ∨ k = 1 ∨ k = 2 ∨ k = 3 ∨ k = 4 ∨ k = 5 ∨ k = 6 ∨ k = 7) with rfl | rfl | rfl | rfl | rfl | rfl | rfl | rfl <;> kernel_rfl
theorem xor8t (W : World) (t t2 : Nat) (a b : UInt8) : ((do eqGuard .xor 5 (.tmp t) (.tmp t2) (.int .u8 (a.toNat : Int)) (.int .u8 (b.toNat : Int)); binOp .xor 5 (.int .u8 (a.toNat : Int)) (.int .u8 (b.toNat : Int))) : Sem Value).run Tryd.prog W = .ok (.int .u8 ((a ^^^ b).toNat : Int)) W := by
  have e := u8_xor_nat a.toNat b.toNat a.toNat_lt b.toNat_lt
  have e2 : (a ^^^ b).toNat = a.toNat ^^^ b.toNat := UInt8.toNat_xor a b
  rw [e2]
  clear e2
  go_simp
theorem neq8t (W : World) (t t2 : Nat) (a : Int) : ((do eqGuard .neq 5 (.tmp t) (.tmp t2) (.int .u8 a) (.int .u8 a); binOp .neq 5 (.int .u8 a) (.int .u8 a)) : Sem Value).run Tryd.prog W = .ok (.bool false) W := by
  go_simp
theorem ix_b (W : World) (g j : Nat) (h : j < 64) : (Instr.indexAt 28 (.slice (some ⟨g, 0, none⟩) 64 64) (.int .i64 (j : Int))).run Tryd.prog W = .ok (.pointer (some ⟨g, j, none⟩)) W := by
  have i1 : (0 : Int) ≤ (j : Int) := by omega
  have i2 : (j : Int) < 64 := by omega
  have i3 := add_g g j
  go_simp
theorem ld_bk {W : World} {g j : Nat} {x : List UInt8} {t : TypeId} {u : UInt8} (hY : Blk W g (bkA x) t) (h : x[j]? = some u) : (Instr.loadAt 5 (.pointer (some ⟨g, j, none⟩))).run Tryd.prog W = .ok (.int .u8 (u.toNat : Int)) W := ld_u8 ((hY.cell j).trans (by
  unfold bkA
  rw [List.getElem?_toArray, List.getElem?_map, h]
  rfl))
theorem rdb_mk (W : World) (l : List UInt8) (t : TypeId) (fr : Nat × Nat) : RdB (W.alloc (.cells (bkA l) t fr)).heap.size (W.alloc (.cells (bkA l) t fr)) (some ⟨W.heap.size, 0, none⟩) l := fun k x hx => by
  refine ⟨_, rfl, by simp, ?_⟩
  rw [Addr.add_mid, Nat.zero_add, World.cell?_alloc_mark]
  unfold bkA
  rw [List.getElem?_toArray, List.getElem?_map, hx]
  rfl
theorem run_bs3 (W : World) : (Instr.buildSlice 28 3 #[(0, .int .u8 110), (1, .int .u8 101), (2, .int .u8 119)]).run Tryd.prog W = .ok (.slice (some ⟨W.heap.size, 0, none⟩) 3 3) (W.alloc (.cells (bkA newB) 5)) := by kernel_rfl
theorem x_bs3 {P : Program} {w w2 : World} {t ty : TypeId} {d : Option Tmp} {p : String} {af : Array Edge} {gd : Option (Nat × Bool)} {ρ : Operand → Value} {a b c v : Value} (h : ∀ c, ρ (.const c) = c) (hr : (Instr.buildSlice t 3 #[(0, a), (1, b), (2, c)]).run P w = .ok v w2) :
    (execOp ρ ⟨d, .buildSlice t 3 #[(0, .const a), (1, .const b), (2, .const c)], ty, p, af, gd⟩).run P w = .ok (.value v) w2 := by
  unfold execOp
  dsimp only
  simp only [List.map_toArray, List.map_cons, List.map_nil, h, Sem.run_bind, hr]
  rfl
theorem eqs (W : World) (t t2 : Nat) (a : ByteArray) : ((do eqGuard .eql 9 (.tmp t) (.tmp t2) (.string a) (.string a); binOp .eql 9 (.string a) (.string a)) : Sem Value).run Tryd.prog W = .ok (.bool true) W := by go_simp
theorem rdb_new {W : World} {g : Nat} {t : TypeId} (h : Blk W g (bkA (padL newB)) t) : RdB W.heap.size W (some ⟨g, 0, none⟩) newB := fun k x hx => blk_rdb h k x (by
  have hk : k < newB.length := (List.getElem?_eq_some_iff.1 hx).1
  have hk3 : k < 3 := hk
  rcases (by omega : k = 0 ∨ k = 1 ∨ k = 2) with rfl | rfl | rfl <;> exact hx)
theorem add1t (W : World) (t k : Nat) (h : k < 1024) : ((do eqGuard .add 3 (.tmp t) (.const (.int .i64 1)) (.int .i64 (k : Int)) (.int .i64 1); binOp .add 3 (.int .i64 (k : Int)) (.int .i64 1)) : Sem Value).run Tryd.prog W = .ok (.int .i64 ((k : Int) + 1)) W := by
  have hw : IntKind.i64.wrap ((k : Int) + 1) = (k : Int) + 1 := by unfold IntKind.wrap; simp [IntKind.bits, IntKind.signed]; omega
  go_simp
theorem enters_Ints : ∀ args w, (callFunc 19 args).run Tryd.prog w = .ok (.enter 19 args) w := enters_of Tryd.func19 (by kernel_rfl) rfl
theorem ints_eq (a : Int) (W : World) : Calls Tryd.prog 19 #[.int .i64 a, .int .i64 a] W fun e w' => e = .returned (.int .i64 0) ∧ w' = W := by
  have h1 : ¬ a < a := by omega
  go_enter Tryd.func19, Tryd.ntmps19
  go_wp2_with fail
  go_ret
  exact ⟨rfl, rfl⟩
theorem bel_drew {a : Nat} {w w' : World} (h : Below a w w') : Below a w w'.drew := ⟨h.os, h.tape, h.output, h.size, h.block⟩
set_option maxRecDepth 100000 in
set_option maxHeartbeats 4000000 in
theorem lawSpoils_all (S : Addr) (A2 : Option Addr) (m c2 : Nat) (l : List UInt8) (x y : Int) (w : World) (hE : LaidE S w) (hm : l.length = m) (hr : RdB w.heap.size w A2 l) (hm2 : m ≤ maxLen) :
    Calls Tryd.prog 5 #[.slice A2 m c2, .int .i64 x, .int .i64 y] w fun e w' => e = .returned (.bool true) ∧ Below w.heap.size w w' := by
  have hg : 0 < w.heap.size := World.block_lt_of_cell? w _ hE
  unfold maxLen at hm2
  go_enter Tryd.func5, Tryd.ntmps5
  go_upto_region 1 with fail
  refine wp_region_lit ?_
  refine fl_start ?_
  generalize ha : Act.mk _ _ = a0
  have hn : a0.tmps.size = 165 := by rw [← ha]; kernel_rfl
  refine g_cvx enters_New hn (vs := #[]) (fun _ => by simp) (new_any w) ?_
  rintro v w1 ⟨s, rfl, hR1, hb1⟩
  repeat first | refine g_mv hn ?_ | refine g_as hn ?_ | refine g_fd hn ?_ | refine g_ld hn ?_ | refine g_nc hn ?_ | refine g_nt hn ?_ | refine g_an hn ?_ | refine g_or hn ?_ | refine g_ln hn ?_ | refine g_ex hn ?_ | refine g_neq2 hn ?_ | refine g_neq hn ?_ | refine g_eql2 hn ?_ | refine g_eql hn ?_ | refine g_leq2 hn ?_ | refine g_leq hn ?_ | refine g_lss2 hn ?_ | refine g_lss hn ?_ | refine g_gtr2 hn ?_ | refine g_gtr hn ?_ | refine g_geq2 hn ?_ | refine g_geq hn ?_ | refine g_b0 hn ?_ | refine g_bn hn ?_ | refine g_bc hn ?_ | refine g_cv hn ?_ | refine g_ac hn ?_ | refine g_mc hn ?_
  refine fl_end ?_
  clear hn
  subst ha
  dsimp only [fr, cnd, Act.put, cond_true]
  simp only [List.setIfInBounds_toArray, List.set_cons_zero, List.set_cons_succ]
  go_upto_region 2 with fail
  refine wp_region_lit ?_
  refine fl_start ?_
  generalize ha : Act.mk _ _ = a0
  have hn : a0.tmps.size = 165 := by rw [← ha]; kernel_rfl
  have h0 : (fr a0 []).eval (.tmp 0) = .slice A2 m c2 := by rw [← ha]; kernel_rfl
  refine fl_know hn rfl h0 ?_
  clear h0
  have h7 : (fr a0 [(0, true, .slice A2 m c2)]).eval (.tmp 7) = .pointer (some ⟨s, 0, none⟩) := by rw [← ha]; kernel_rfl
  refine fl_know hn rfl h7 ?_
  clear h7
  refine g_cvx enters_awake9 hn (vs := #[]) (fun _ => by simp) (R := fun v w2 => v = .bool true ∧ Below w1.heap.size w1 w2) ((awake9_any S w1 (hE.keep hb1)).mono fun _ _ ⟨he, hb⟩ => ⟨_, he, rfl, hb⟩) ?_
  rintro v w2 ⟨rfl, hb2⟩
  repeat first | refine g_mv hn ?_ | refine g_as hn ?_ | refine g_fd hn ?_ | refine g_ld hn ?_ | refine g_nc hn ?_ | refine g_nt hn ?_ | refine g_an hn ?_ | refine g_or hn ?_ | refine g_ln hn ?_ | refine g_ex hn ?_ | refine g_neq2 hn ?_ | refine g_neq hn ?_ | refine g_eql2 hn ?_ | refine g_eql hn ?_ | refine g_leq2 hn ?_ | refine g_leq hn ?_ | refine g_lss2 hn ?_ | refine g_lss hn ?_ | refine g_gtr2 hn ?_ | refine g_gtr hn ?_ | refine g_geq2 hn ?_ | refine g_geq hn ?_ | refine g_b0 hn ?_ | refine g_bn hn ?_ | refine g_bc hn ?_ | refine g_cv hn ?_ | refine g_ac hn ?_ | refine g_mc hn ?_
  refine g_o1 hn (i := 24) (vi := .pointer (some ⟨s, 0, none⟩)) (v := .bool false) (fun ρ h hc => by unfold execOp; dsimp only; rw [h, hc]; kernel_rfl) ?_
  repeat first | refine g_mv hn ?_ | refine g_as hn ?_ | refine g_fd hn ?_ | refine g_ld hn ?_ | refine g_nc hn ?_ | refine g_nt hn ?_ | refine g_an hn ?_ | refine g_or hn ?_ | refine g_ln hn ?_ | refine g_ex hn ?_ | refine g_neq2 hn ?_ | refine g_neq hn ?_ | refine g_eql2 hn ?_ | refine g_eql hn ?_ | refine g_leq2 hn ?_ | refine g_leq hn ?_ | refine g_lss2 hn ?_ | refine g_lss hn ?_ | refine g_gtr2 hn ?_ | refine g_gtr hn ?_ | refine g_geq2 hn ?_ | refine g_geq hn ?_ | refine g_b0 hn ?_ | refine g_bn hn ?_ | refine g_bc hn ?_ | refine g_cv hn ?_ | refine g_ac hn ?_ | refine g_mc hn ?_
  refine fl_endb (c := decide (64 < (m : Int))) (rfl) ?_
  clear hn 
  subst ha
  dsimp only [fr, cnd, Act.put, cond_true]
  simp only [List.setIfInBounds_toArray, List.set_cons_zero, List.set_cons_succ]
  have hb12 := hb1.trans (hb2.mono hb1.size)
  by_cases hlong : 64 < (m : Int)
  · rw [decide_eq_true hlong]
    have HA := Lib.hid (awake9_any S w2 (hE.keep hb12))
    have HB := Lib.hid hb12
    clear hb12 hb1 hb2 hR1
    go_upto_region 3 with fail
    refine wp_region_lit ?_
    refine fl_start ?_
    generalize ha : Act.mk _ _ = a0
    have hn : a0.tmps.size = 165 := by rw [← ha]; kernel_rfl
    refine g_cvx enters_awake9 hn (vs := #[]) (fun _ => by simp) (R := fun v w3 => v = .bool true ∧ Below w2.heap.size w2 w3) (HA.out.mono fun _ _ ⟨he, hb⟩ => ⟨_, he, rfl, hb⟩) ?_
    rintro v w3 ⟨rfl, hb3⟩
    repeat first | refine g_mv hn ?_ | refine g_as hn ?_ | refine g_fd hn ?_ | refine g_ld hn ?_ | refine g_nc hn ?_ | refine g_nt hn ?_ | refine g_an hn ?_ | refine g_or hn ?_ | refine g_ln hn ?_ | refine g_ex hn ?_ | refine g_neq2 hn ?_ | refine g_neq hn ?_ | refine g_eql2 hn ?_ | refine g_eql hn ?_ | refine g_leq2 hn ?_ | refine g_leq hn ?_ | refine g_lss2 hn ?_ | refine g_lss hn ?_ | refine g_gtr2 hn ?_ | refine g_gtr hn ?_ | refine g_geq2 hn ?_ | refine g_geq hn ?_ | refine g_b0 hn ?_ | refine g_bn hn ?_ | refine g_bc hn ?_ | refine g_cv hn ?_ | refine g_ac hn ?_ | refine g_mc hn ?_
    refine fl_end ?_
    clear hn
    subst ha
    dsimp only [fr, cnd, Act.put, cond_true]
    simp only [List.setIfInBounds_toArray, List.set_cons_zero, List.set_cons_succ]
    have R := Lib.hid (HB.out.trans (hb3.mono HB.out.size))
    clear hb3
    go_wp2_with fail
    go_ret
    exact ⟨rfl, R.out⟩
  rw [decide_eq_false hlong]
  have hl : l.length ≤ 64 := by omega
  have hR2 := hR1.below hb2
  have hE2 := hE.keep hb12
  have hr2 := (hr.keep hb12 (Nat.le_refl _)).more (hb12.size)
  have hK2 : StK w.heap.size w w2 := StK.of_below hb12 (Nat.le_refl _)
  clear hR1 hb1 hb2 hb12 hlong
  obtain ⟨X, hX⟩ : ∃ X : Nat, IntKind.u64.wrap x = (X : Int) := ⟨(IntKind.u64.wrap x).toNat, by unfold IntKind.wrap; simp [IntKind.bits, IntKind.signed]; omega⟩
  obtain ⟨Y, hY⟩ : ∃ Y : Nat, IntKind.u64.wrap y = (Y : Int) := ⟨(IntKind.u64.wrap y).toNat, by unfold IntKind.wrap; simp [IntKind.bits, IntKind.signed]; omega⟩
  have c1 := cvu w2 x X hX
  have c2' : ((do eqGuard .rem 49 (.tmp 34) (.const (.int .u64 1024)) (.int .u64 (X : Int)) (.int .u64 1024); binOp .rem 49 (.int .u64 (X : Int)) (.int .u64 1024)) : Sem Value).run Tryd.prog w2 = .ok (.int .u64 ((X % 1024 : Nat) : Int)) w2 := remu w2 34 X 1024 (by decide) (by decide)
  have c3 := cvi w2 (X % 1024) (by omega)
  have c4 := cvu w2 y Y hY
  have c5 : ((do eqGuard .rem 49 (.tmp 38) (.const (.int .u64 512)) (.int .u64 (Y : Int)) (.int .u64 512); binOp .rem 49 (.int .u64 (Y : Int)) (.int .u64 512)) : Sem Value).run Tryd.prog w2 = .ok (.int .u64 ((Y % 512 : Nat) : Int)) w2 := remu w2 38 Y 512 (by decide) (by decide)
  have c6 := cvi w2 (Y % 512) (by omega)
  have hk : X % 1024 < 1024 := by omega
  have hi : Y % 512 < 512 := by omega
  clear hX hY
  generalize X % 1024 = k at c2' c3 hk
  generalize Y % 512 = i at c5 c6 hi
  go_upto_region 4 with fail
  refine wp_region_lit ?_
  refine fl_start ?_
  generalize ha : Act.mk _ _ = a0
  have hn : a0.tmps.size = 165 := by rw [← ha]; kernel_rfl
  have h1 : (fr a0 []).eval (.tmp 1) = .int .i64 x := by rw [← ha]; kernel_rfl
  refine fl_know hn rfl h1 ?_
  clear h1
  have h2 : (fr a0 [(1, true, .int .i64 x)]).eval (.tmp 2) = .int .i64 y := by rw [← ha]; kernel_rfl
  refine fl_know hn rfl h2 ?_
  clear h2
  repeat first | refine g_mv hn ?_ | refine g_as hn ?_ | refine g_fd hn ?_ | refine g_ld hn ?_ | refine g_nc hn ?_ | refine g_nt hn ?_ | refine g_an hn ?_ | refine g_or hn ?_ | refine g_ln hn ?_ | refine g_ex hn ?_ | refine g_neq2 hn ?_ | refine g_neq hn ?_ | refine g_eql2 hn ?_ | refine g_eql hn ?_ | refine g_leq2 hn ?_ | refine g_leq hn ?_ | refine g_lss2 hn ?_ | refine g_lss hn ?_ | refine g_gtr2 hn ?_ | refine g_gtr hn ?_ | refine g_geq2 hn ?_ | refine g_geq hn ?_ | refine g_b0 hn ?_ | refine g_bn hn ?_ | refine g_bc hn ?_ | refine g_cv hn ?_ | refine g_ac hn ?_ | refine g_mc hn ?_
  refine fl_end ?_
  clear hn
  subst ha
  dsimp only [fr, cnd, Act.put, cond_true]
  simp only [List.setIfInBounds_toArray, List.set_cons_zero, List.set_cons_succ]
  clear c1 c2' c3 c4 c5 c6
  have s1 := sp1_is hk hl
  have s2 := sp2_is hk hl
  go_upto_region 5 with fail
  refine wp_region_lit ?_
  refine fl_start ?_
  generalize ha : Act.mk _ _ = a0
  have hn : a0.tmps.size = 165 := by rw [← ha]; kernel_rfl
  have h0 : (fr a0 []).eval (.tmp 0) = .slice A2 m c2 := by rw [← ha]; kernel_rfl
  refine fl_know hn rfl h0 ?_
  clear h0
  have h7 : (fr a0 [(0, true, .slice A2 m c2)]).eval (.tmp 7) = .pointer (some ⟨s, 0, none⟩) := by rw [← ha]; kernel_rfl
  refine fl_know hn rfl h7 ?_
  clear h7
  have h8 : (fr a0 [(7, true, .pointer (some ⟨s, 0, none⟩)), (0, true, .slice A2 m c2)]).eval (.tmp 8) = .int .i64 (k : Int) := by rw [← ha]; kernel_rfl
  refine fl_know hn rfl h8 ?_
  clear h8
  repeat first | refine g_mv hn ?_ | refine g_as hn ?_ | refine g_fd hn ?_ | refine g_ld hn ?_ | refine g_nc hn ?_ | refine g_nt hn ?_ | refine g_an hn ?_ | refine g_or hn ?_ | refine g_ln hn ?_ | refine g_ex hn ?_ | refine g_neq2 hn ?_ | refine g_neq hn ?_ | refine g_eql2 hn ?_ | refine g_eql hn ?_ | refine g_leq2 hn ?_ | refine g_leq hn ?_ | refine g_lss2 hn ?_ | refine g_lss hn ?_ | refine g_gtr2 hn ?_ | refine g_gtr hn ?_ | refine g_geq2 hn ?_ | refine g_geq hn ?_ | refine g_b0 hn ?_ | refine g_bn hn ?_ | refine g_bc hn ?_ | refine g_cv hn ?_ | refine g_ac hn ?_ | refine g_mc hn ?_
  refine g_cvx enters_Write hn (fun hk => by simp only [List.map_toArray, List.map_cons, List.map_nil, lk_at hk (i := 41) rfl (fun _ => rfl) rfl, lk_at hk (i := 42) rfl (fun _ => rfl) rfl, lk_at hk (i := 43) rfl (fun _ => rfl) rfl]; rfl) (R := TurnR w.heap.size s 0 (sp1M k l) w2) ((write_any S w.heap.size s sl0 3 k A2 m c2 l w2 hR2 hE2 hg hm hr2 aw_l1 (by omega)).mono fun _ _ ⟨he, h1, h2⟩ => ⟨_, he, by rw [s1.2], h1, h2⟩) ?_
  rintro v w3 ⟨rfl, hR3, hK3⟩
  replace hK3 := hK2.trans hK3
  have hE3 := hE.stk hK3 hg
  clear hR2 hE2 hK2 hr2
  refine g_o1 hn (i := 44) (vi := .int .i64 0) (v := .bool false) (fun ρ h hc => by unfold execOp; dsimp only; rw [h, hc]; kernel_rfl) ?_
  repeat first | refine g_mv hn ?_ | refine g_as hn ?_ | refine g_fd hn ?_ | refine g_ld hn ?_ | refine g_nc hn ?_ | refine g_nt hn ?_ | refine g_an hn ?_ | refine g_or hn ?_ | refine g_ln hn ?_ | refine g_ex hn ?_ | refine g_neq2 hn ?_ | refine g_neq hn ?_ | refine g_eql2 hn ?_ | refine g_eql hn ?_ | refine g_leq2 hn ?_ | refine g_leq hn ?_ | refine g_lss2 hn ?_ | refine g_lss hn ?_ | refine g_gtr2 hn ?_ | refine g_gtr hn ?_ | refine g_geq2 hn ?_ | refine g_geq hn ?_ | refine g_b0 hn ?_ | refine g_bn hn ?_ | refine g_bc hn ?_ | refine g_cv hn ?_ | refine g_ac hn ?_ | refine g_mc hn ?_
  refine g_cvx enters_Flush hn (fun hk => by simp only [List.map_toArray, List.map_cons, List.map_nil, lk_at hk (i := 47) rfl (fun _ => rfl) rfl]; rfl) (R := TurnR w.heap.size s 0 (sp2M k l) w3) ((flush_any S w.heap.size s (sp1M k l) 3 w3 hR3 hE3 hg).mono fun _ _ ⟨he, h1, h2⟩ => ⟨_, he, by rw [s2.2], h1, h2⟩) ?_
  rintro v w4 ⟨rfl, hR4, hK4⟩
  replace hK4 := hK3.trans hK4
  clear hR3 hE3 hK3
  refine g_o1 hn (i := 48) (vi := .int .i64 0) (v := .bool false) (fun ρ h hc => by unfold execOp; dsimp only; rw [h, hc]; kernel_rfl) ?_
  repeat first | refine g_mv hn ?_ | refine g_as hn ?_ | refine g_fd hn ?_ | refine g_ld hn ?_ | refine g_nc hn ?_ | refine g_nt hn ?_ | refine g_an hn ?_ | refine g_or hn ?_ | refine g_ln hn ?_ | refine g_ex hn ?_ | refine g_neq2 hn ?_ | refine g_neq hn ?_ | refine g_eql2 hn ?_ | refine g_eql hn ?_ | refine g_leq2 hn ?_ | refine g_leq hn ?_ | refine g_lss2 hn ?_ | refine g_lss hn ?_ | refine g_gtr2 hn ?_ | refine g_gtr hn ?_ | refine g_geq2 hn ?_ | refine g_geq hn ?_ | refine g_b0 hn ?_ | refine g_bn hn ?_ | refine g_bc hn ?_ | refine g_cv hn ?_ | refine g_ac hn ?_ | refine g_mc hn ?_
  refine fl_end ?_
  clear hn
  subst ha
  dsimp only [fr, cnd, Act.put, cond_true]
  simp only [List.setIfInBounds_toArray, List.set_cons_zero, List.set_cons_succ]
  have hp := sp_place hk
  have b2 : blkD (sp2M k l).seen 3 k = padL l := by rw [s2.1]; exact blk_put _ _ _ _
  go_upto_region 7 with fail
  refine wp_region_lit ?_
  refine fl_start ?_
  generalize ha : Act.mk _ _ = a0
  have hn : a0.tmps.size = 165 := by rw [← ha]; kernel_rfl
  have h7 : (fr a0 []).eval (.tmp 7) = .pointer (some ⟨s, 0, none⟩) := by rw [← ha]; kernel_rfl
  refine fl_know hn rfl h7 ?_
  clear h7
  have h8 : (fr a0 [(7, true, .pointer (some ⟨s, 0, none⟩))]).eval (.tmp 8) = .int .i64 (k : Int) := by rw [← ha]; kernel_rfl
  refine fl_know hn rfl h8 ?_
  clear h8
  repeat first | refine g_mv hn ?_ | refine g_as hn ?_ | refine g_fd hn ?_ | refine g_ld hn ?_ | refine g_nc hn ?_ | refine g_nt hn ?_ | refine g_an hn ?_ | refine g_or hn ?_ | refine g_ln hn ?_ | refine g_ex hn ?_ | refine g_neq2 hn ?_ | refine g_neq hn ?_ | refine g_eql2 hn ?_ | refine g_eql hn ?_ | refine g_leq2 hn ?_ | refine g_leq hn ?_ | refine g_lss2 hn ?_ | refine g_lss hn ?_ | refine g_gtr2 hn ?_ | refine g_gtr hn ?_ | refine g_geq2 hn ?_ | refine g_geq hn ?_ | refine g_b0 hn ?_ | refine g_bn hn ?_ | refine g_bc hn ?_ | refine g_cv hn ?_ | refine g_ac hn ?_ | refine g_mc hn ?_
  refine g_cvx enters_Read hn (fun hk => by simp only [List.map_toArray, List.map_cons, List.map_nil, lk_at hk (i := 52) rfl (fun _ => rfl) rfl, lk_at hk (i := 53) rfl (fun _ => rfl) rfl]; rfl) (R := RdO (padL l) w4) (read_ok hp b2 (read_any _ s _ 3 k w4 hR4)) ?_
  rintro v w5 ⟨g1, rfl, hY1, hb5⟩
  repeat first | refine g_mv hn ?_ | refine g_as hn ?_ | refine g_fd hn ?_ | refine g_ld hn ?_ | refine g_nc hn ?_ | refine g_nt hn ?_ | refine g_an hn ?_ | refine g_or hn ?_ | refine g_ln hn ?_ | refine g_ex hn ?_ | refine g_neq2 hn ?_ | refine g_neq hn ?_ | refine g_eql2 hn ?_ | refine g_eql hn ?_ | refine g_leq2 hn ?_ | refine g_leq hn ?_ | refine g_lss2 hn ?_ | refine g_lss hn ?_ | refine g_gtr2 hn ?_ | refine g_gtr hn ?_ | refine g_geq2 hn ?_ | refine g_geq hn ?_ | refine g_b0 hn ?_ | refine g_bn hn ?_ | refine g_bc hn ?_ | refine g_cv hn ?_ | refine g_ac hn ?_ | refine g_mc hn ?_
  refine fl_end ?_
  clear hn
  subst ha
  dsimp only [fr, cnd, Act.put, cond_true]
  simp only [List.setIfInBounds_toArray, List.set_cons_zero, List.set_cons_succ]
  have hR5 := hR4.below hb5
  have hK5 := hK4.trans (StK.of_below hb5 hR4.size)
  clear hR4 hK4 hb5 b2
  have ok := sp_okS (i := i) hk hi
  go_upto_region 8 with fail
  refine wp_region_lit ?_
  refine fl_start ?_
  generalize ha : Act.mk _ _ = a0
  have hn : a0.tmps.size = 165 := by rw [← ha]; kernel_rfl
  have h7 : (fr a0 []).eval (.tmp 7) = .pointer (some ⟨s, 0, none⟩) := by rw [← ha]; kernel_rfl
  refine fl_know hn rfl h7 ?_
  clear h7
  have h8 : (fr a0 [(7, true, .pointer (some ⟨s, 0, none⟩))]).eval (.tmp 8) = .int .i64 (k : Int) := by rw [← ha]; kernel_rfl
  refine fl_know hn rfl h8 ?_
  clear h8
  have h9 : (fr a0 [(8, true, .int .i64 (k : Int)), (7, true, .pointer (some ⟨s, 0, none⟩))]).eval (.tmp 9) = .int .i64 (i : Int) := by rw [← ha]; kernel_rfl
  refine fl_know hn rfl h9 ?_
  clear h9
  repeat first | refine g_mv hn ?_ | refine g_as hn ?_ | refine g_fd hn ?_ | refine g_ld hn ?_ | refine g_nc hn ?_ | refine g_nt hn ?_ | refine g_an hn ?_ | refine g_or hn ?_ | refine g_ln hn ?_ | refine g_ex hn ?_ | refine g_neq2 hn ?_ | refine g_neq hn ?_ | refine g_eql2 hn ?_ | refine g_eql hn ?_ | refine g_leq2 hn ?_ | refine g_leq hn ?_ | refine g_lss2 hn ?_ | refine g_lss hn ?_ | refine g_gtr2 hn ?_ | refine g_gtr hn ?_ | refine g_geq2 hn ?_ | refine g_geq hn ?_ | refine g_b0 hn ?_ | refine g_bn hn ?_ | refine g_bc hn ?_ | refine g_cv hn ?_ | refine g_ac hn ?_ | refine g_mc hn ?_
  refine g_cvx enters_Spoil hn (fun hk => by simp only [List.map_toArray, List.map_cons, List.map_nil, lk_at hk (i := 57) rfl (fun _ => rfl) rfl, lk_at hk (i := 58) rfl (fun _ => rfl) rfl, lk_at hk (i := 59) rfl (fun _ => rfl) rfl]; rfl) (R := TurnR w.heap.size s 0 (sp3M k i l) w5) ((spoil_any w.heap.size s (sp2M k l) 3 k i w5 hR5).mono fun _ _ ⟨he, h1, h2⟩ => ⟨_, he, by rw [ok]; rfl, h1, h2⟩) ?_
  rintro v w6 ⟨rfl, hR6, hK6⟩
  have hY16 := (hK6.cel _ _ _ _ hY1 (by decide) (by decide)).trans hY1
  replace hK6 := hK5.trans hK6
  clear hR5 hK5 hY1
  refine g_o1 hn (i := 60) (vi := .int .i64 0) (v := .bool false) (fun ρ h hc => by unfold execOp; dsimp only; rw [h, hc]; kernel_rfl) ?_
  repeat first | refine g_mv hn ?_ | refine g_as hn ?_ | refine g_fd hn ?_ | refine g_ld hn ?_ | refine g_nc hn ?_ | refine g_nt hn ?_ | refine g_an hn ?_ | refine g_or hn ?_ | refine g_ln hn ?_ | refine g_ex hn ?_ | refine g_neq2 hn ?_ | refine g_neq hn ?_ | refine g_eql2 hn ?_ | refine g_eql hn ?_ | refine g_leq2 hn ?_ | refine g_leq hn ?_ | refine g_lss2 hn ?_ | refine g_lss hn ?_ | refine g_gtr2 hn ?_ | refine g_gtr hn ?_ | refine g_geq2 hn ?_ | refine g_geq hn ?_ | refine g_b0 hn ?_ | refine g_bn hn ?_ | refine g_bc hn ?_ | refine g_cv hn ?_ | refine g_ac hn ?_ | refine g_mc hn ?_
  refine fl_end ?_
  clear hn
  subst ha
  dsimp only [fr, cnd, Act.put, cond_true]
  simp only [List.setIfInBounds_toArray, List.set_cons_zero, List.set_cons_succ]
  have b3 : blkD (sp3M k i l).seen 3 k = flipL (padL l) i := by rw [sp3_is hk hi hl]; exact blk_put _ _ _ _
  go_upto_region 10 with fail
  refine wp_region_lit ?_
  refine fl_start ?_
  generalize ha : Act.mk _ _ = a0
  have hn : a0.tmps.size = 165 := by rw [← ha]; kernel_rfl
  have h7 : (fr a0 []).eval (.tmp 7) = .pointer (some ⟨s, 0, none⟩) := by rw [← ha]; kernel_rfl
  refine fl_know hn rfl h7 ?_
  clear h7
  have h8 : (fr a0 [(7, true, .pointer (some ⟨s, 0, none⟩))]).eval (.tmp 8) = .int .i64 (k : Int) := by rw [← ha]; kernel_rfl
  refine fl_know hn rfl h8 ?_
  clear h8
  repeat first | refine g_mv hn ?_ | refine g_as hn ?_ | refine g_fd hn ?_ | refine g_ld hn ?_ | refine g_nc hn ?_ | refine g_nt hn ?_ | refine g_an hn ?_ | refine g_or hn ?_ | refine g_ln hn ?_ | refine g_ex hn ?_ | refine g_neq2 hn ?_ | refine g_neq hn ?_ | refine g_eql2 hn ?_ | refine g_eql hn ?_ | refine g_leq2 hn ?_ | refine g_leq hn ?_ | refine g_lss2 hn ?_ | refine g_lss hn ?_ | refine g_gtr2 hn ?_ | refine g_gtr hn ?_ | refine g_geq2 hn ?_ | refine g_geq hn ?_ | refine g_b0 hn ?_ | refine g_bn hn ?_ | refine g_bc hn ?_ | refine g_cv hn ?_ | refine g_ac hn ?_ | refine g_mc hn ?_
  refine g_cvx enters_Read hn (fun hk => by simp only [List.map_toArray, List.map_cons, List.map_nil, lk_at hk (i := 63) rfl (fun _ => rfl) rfl, lk_at hk (i := 64) rfl (fun _ => rfl) rfl]; rfl) (R := RdO (flipL (padL l) i) w6) (read_ok hp b3 (read_any _ s _ 3 k w6 hR6)) ?_
  rintro v w7 ⟨g2, rfl, hY2, hb7⟩
  repeat first | refine g_mv hn ?_ | refine g_as hn ?_ | refine g_fd hn ?_ | refine g_ld hn ?_ | refine g_nc hn ?_ | refine g_nt hn ?_ | refine g_an hn ?_ | refine g_or hn ?_ | refine g_ln hn ?_ | refine g_ex hn ?_ | refine g_neq2 hn ?_ | refine g_neq hn ?_ | refine g_eql2 hn ?_ | refine g_eql hn ?_ | refine g_leq2 hn ?_ | refine g_leq hn ?_ | refine g_lss2 hn ?_ | refine g_lss hn ?_ | refine g_gtr2 hn ?_ | refine g_gtr hn ?_ | refine g_geq2 hn ?_ | refine g_geq hn ?_ | refine g_b0 hn ?_ | refine g_bn hn ?_ | refine g_bc hn ?_ | refine g_cv hn ?_ | refine g_ac hn ?_ | refine g_mc hn ?_
  refine fl_end ?_
  clear hn
  subst ha
  dsimp only [fr, cnd, Act.put, cond_true]
  simp only [List.setIfInBounds_toArray, List.set_cons_zero, List.set_cons_succ]
  have hR7 := Lib.hid (hR6.below hb7)
  have hY17 : Blk w7 g1 (bkA (padL l)) 63 := Blk.keep hY16 hb7
  have hK7 := Lib.hid (hK6.trans (StK.of_below hb7 hR6.size))
  clear hR6 hK6 hb7 b3 hY16
  go_upto_region 11 with fail
  refine wp_region_lit ?_
  refine fl_start ?_
  generalize ha : Act.mk _ _ = a0
  have hn : a0.tmps.size = 165 := by rw [← ha]; kernel_rfl
  have h10 : (fr a0 []).eval (.tmp 10) = .slice (some ⟨g1, 0, none⟩) 64 64 := by rw [← ha]; kernel_rfl
  refine fl_know hn rfl h10 ?_
  clear h10
  have h12 : (fr a0 [(10, true, .slice (some ⟨g1, 0, none⟩) 64 64)]).eval (.tmp 12) = .slice (some ⟨g2, 0, none⟩) 64 64 := by rw [← ha]; kernel_rfl
  refine fl_know hn rfl h12 ?_
  clear h12
  repeat first | refine g_mv hn ?_ | refine g_as hn ?_ | refine g_fd hn ?_ | refine g_ld hn ?_ | refine g_nc hn ?_ | refine g_nt hn ?_ | refine g_an hn ?_ | refine g_or hn ?_ | refine g_ln hn ?_ | refine g_ex hn ?_ | refine g_neq2 hn ?_ | refine g_neq hn ?_ | refine g_eql2 hn ?_ | refine g_eql hn ?_ | refine g_leq2 hn ?_ | refine g_leq hn ?_ | refine g_lss2 hn ?_ | refine g_lss hn ?_ | refine g_gtr2 hn ?_ | refine g_gtr hn ?_ | refine g_geq2 hn ?_ | refine g_geq hn ?_ | refine g_b0 hn ?_ | refine g_bn hn ?_ | refine g_bc hn ?_ | refine g_cv hn ?_ | refine g_ac hn ?_ | refine g_mc hn ?_
  refine fl_endb (c := false) (rfl) ?_
  clear hn 
  subst ha
  dsimp only [fr, cnd, Act.put, cond_true]
  simp only [List.setIfInBounds_toArray, List.set_cons_zero, List.set_cons_succ]
  have hlen := padL_len hl
  clear s1 s2
  go_wp2_with fail
  go_loopw [14, 15, 78] (fun _ _ jv wr => ∃ j : Nat, j ≤ 64 ∧ jv = .int .i64 j ∧ Below w7.heap.size w7 wr) (fun _ _ jv _ => 64 - (intOf jv).toNat)
  case atStart => exact ⟨0, by omega, rfl, Below.refl _ _⟩
  case round =>
    obtain ⟨j, hj, rfl, hB⟩ := hrel
    by_cases hlt : j < 64
    · obtain ⟨u, hu⟩ : ∃ u, (padL l)[j]? = some u := ⟨_, List.getElem?_eq_getElem (by omega)⟩
      have i1 : (j : Int) < 64 := by omega
      have qq := quo8t wr 82 i hi
      go_upto_region 17 with fail
      refine wp_region_lit ?_
      refine fl_start ?_
      generalize ha : Act.mk _ _ = a0
      have hn : a0.tmps.size = 165 := by rw [← ha]; kernel_rfl
      have h9 : (fr a0 []).eval (.tmp 9) = .int .i64 (i : Int) := by rw [← ha]; kernel_rfl
      refine fl_know hn rfl h9 ?_
      clear h9
      have h14 : (fr a0 [(9, true, .int .i64 (i : Int))]).eval (.tmp 14) = .int .i64 (j : Int) := by rw [← ha]; kernel_rfl
      refine fl_know hn rfl h14 ?_
      clear h14
      repeat first | refine g_mv hn ?_ | refine g_as hn ?_ | refine g_fd hn ?_ | refine g_ld hn ?_ | refine g_nc hn ?_ | refine g_nt hn ?_ | refine g_an hn ?_ | refine g_or hn ?_ | refine g_ln hn ?_ | refine g_ex hn ?_ | refine g_neq2 hn ?_ | refine g_neq hn ?_ | refine g_eql2 hn ?_ | refine g_eql hn ?_ | refine g_leq2 hn ?_ | refine g_leq hn ?_ | refine g_lss2 hn ?_ | refine g_lss hn ?_ | refine g_gtr2 hn ?_ | refine g_gtr hn ?_ | refine g_geq2 hn ?_ | refine g_geq hn ?_ | refine g_b0 hn ?_ | refine g_bn hn ?_ | refine g_bc hn ?_ | refine g_cv hn ?_ | refine g_ac hn ?_ | refine g_mc hn ?_
      refine fl_end ?_
      clear hn
      subst ha
      dsimp only [fr, cnd, Act.put, cond_true]
      simp only [List.setIfInBounds_toArray, List.set_cons_zero, List.set_cons_succ]
      clear qq
      by_cases hji : j = i / 8
      · have e : ((j : Int) == ((i / 8 : Nat) : Int)) = true := by rw [beq_iff_eq, hji]
        have hflip : (flipL (padL l) i)[j]? = some (u ^^^ bitU (i % 8)) := by
          unfold flipL
          rw [← hji, List.getElem?_set_self (by omega), hu, Option.getD_some]
        rw [e]
        clear e
        have qr := rem8t wr 85 i
        go_upto_region 18 with fail
        refine wp_region_lit ?_
        refine fl_start ?_
        generalize ha : Act.mk _ _ = a0
        have hn : a0.tmps.size = 165 := by rw [← ha]; kernel_rfl
        have h9 : (fr a0 []).eval (.tmp 9) = .int .i64 (i : Int) := by rw [← ha]; kernel_rfl
        refine fl_know hn rfl h9 ?_
        clear h9
        repeat first | refine g_mv hn ?_ | refine g_as hn ?_ | refine g_fd hn ?_ | refine g_ld hn ?_ | refine g_nc hn ?_ | refine g_nt hn ?_ | refine g_an hn ?_ | refine g_or hn ?_ | refine g_ln hn ?_ | refine g_ex hn ?_ | refine g_neq2 hn ?_ | refine g_neq hn ?_ | refine g_eql2 hn ?_ | refine g_eql hn ?_ | refine g_leq2 hn ?_ | refine g_leq hn ?_ | refine g_lss2 hn ?_ | refine g_lss hn ?_ | refine g_gtr2 hn ?_ | refine g_gtr hn ?_ | refine g_geq2 hn ?_ | refine g_geq hn ?_ | refine g_b0 hn ?_ | refine g_bn hn ?_ | refine g_bc hn ?_ | refine g_cv hn ?_ | refine g_ac hn ?_ | refine g_mc hn ?_
        refine g_o1 hn (i := 86) (vi := .int .i64 ((i % 8 : Nat) : Int)) (v := .int .u8 ((bitU (i % 8)).toNat : Int)) (fun ρ h hc => x_cb h (hc _) (shl8t _ 86 (i % 8) (by omega))) ?_
        repeat first | refine g_mv hn ?_ | refine g_as hn ?_ | refine g_fd hn ?_ | refine g_ld hn ?_ | refine g_nc hn ?_ | refine g_nt hn ?_ | refine g_an hn ?_ | refine g_or hn ?_ | refine g_ln hn ?_ | refine g_ex hn ?_ | refine g_neq2 hn ?_ | refine g_neq hn ?_ | refine g_eql2 hn ?_ | refine g_eql hn ?_ | refine g_leq2 hn ?_ | refine g_leq hn ?_ | refine g_lss2 hn ?_ | refine g_lss hn ?_ | refine g_gtr2 hn ?_ | refine g_gtr hn ?_ | refine g_geq2 hn ?_ | refine g_geq hn ?_ | refine g_b0 hn ?_ | refine g_bn hn ?_ | refine g_bc hn ?_ | refine g_cv hn ?_ | refine g_ac hn ?_ | refine g_mc hn ?_
        refine fl_end ?_
        clear hn
        subst ha
        dsimp only [fr, cnd, Act.put, cond_true]
        simp only [List.setIfInBounds_toArray, List.set_cons_zero, List.set_cons_succ]
        clear qr
        have q1 : ∀ W, (Blk W g1 (bkA (padL l)) 63 ∧ Blk W g2 (bkA (flipL (padL l) i)) 63) → (Instr.indexAt 28 (.slice (some ⟨g2, 0, none⟩) 64 64) (.int .i64 (j : Int))).run Tryd.prog W = .ok (.pointer (some ⟨g2, j, none⟩)) W := fun W _ => ix_b W g2 j hlt
        have q2 : ∀ W, (Blk W g1 (bkA (padL l)) 63 ∧ Blk W g2 (bkA (flipL (padL l) i)) 63) → (Instr.loadAt 5 (.pointer (some ⟨g2, j, none⟩))).run Tryd.prog W = .ok (.int .u8 ((u ^^^ (bitU (i % 8))).toNat : Int)) W := fun W h => ld_bk h.2 hflip
        have q3 : ∀ W, (Blk W g1 (bkA (padL l)) 63 ∧ Blk W g2 (bkA (flipL (padL l) i)) 63) → (Instr.indexAt 28 (.slice (some ⟨g1, 0, none⟩) 64 64) (.int .i64 (j : Int))).run Tryd.prog W = .ok (.pointer (some ⟨g1, j, none⟩)) W := fun W _ => ix_b W g1 j hlt
        have q4 : ∀ W, (Blk W g1 (bkA (padL l)) 63 ∧ Blk W g2 (bkA (flipL (padL l) i)) 63) → (Instr.loadAt 5 (.pointer (some ⟨g1, j, none⟩))).run Tryd.prog W = .ok (.int .u8 (u.toNat : Int)) W := fun W h => ld_bk h.1 hu
        go_upto_region 19 with fail
        refine fh_start (S := (fun W => (Blk W g1 (bkA (padL l)) 63 ∧ Blk W g2 (bkA (flipL (padL l) i)) 63))) (by kernel_rfl) (⟨hY17.keep (bel_drew hB), hY2.keep (bel_drew hB)⟩) (fun hS => ?_)
        generalize ha : Act.mk _ _ = a0
        have hn : a0.tmps.size = 165 := by rw [← ha]; kernel_rfl
        have h10 : (fr a0 []).eval (.tmp 10) = .slice (some ⟨g1, 0, none⟩) 64 64 := by rw [← ha]; kernel_rfl
        refine fh_know hn rfl h10 ?_
        clear h10
        have h12 : (fr a0 [(10, true, .slice (some ⟨g1, 0, none⟩) 64 64)]).eval (.tmp 12) = .slice (some ⟨g2, 0, none⟩) 64 64 := by rw [← ha]; kernel_rfl
        refine fh_know hn rfl h12 ?_
        clear h12
        have h14 : (fr a0 [(12, true, .slice (some ⟨g2, 0, none⟩) 64 64), (10, true, .slice (some ⟨g1, 0, none⟩) 64 64)]).eval (.tmp 14) = .int .i64 (j : Int) := by rw [← ha]; kernel_rfl
        refine fh_know hn rfl h14 ?_
        clear h14
        have h15 : (fr a0 [(14, true, .int .i64 (j : Int)), (12, true, .slice (some ⟨g2, 0, none⟩) 64 64), (10, true, .slice (some ⟨g1, 0, none⟩) 64 64)]).eval (.tmp 15) = .int .u8 ((bitU (i % 8)).toNat : Int) := by rw [← ha]; kernel_rfl
        refine fh_know hn rfl h15 ?_
        clear h15
        first | refine h_mv 0 hn hS ?_ | refine h_as 0 hn hS ?_ | refine h_fd 0 hn hS ?_ | refine h_ld 0 hn hS ?_ | refine h_nc 0 hn hS ?_ | refine h_cv 0 hn hS ?_ | refine h_ex 0 hn hS ?_ | refine h_nt 0 hn hS ?_ | refine h_ix 0 hn hS ?_ | refine h_lk 0 hn hS ?_
        first | refine h_mv 1 hn hS ?_ | refine h_as 1 hn hS ?_ | refine h_fd 1 hn hS ?_ | refine h_ld 1 hn hS ?_ | refine h_nc 1 hn hS ?_ | refine h_cv 1 hn hS ?_ | refine h_ex 1 hn hS ?_ | refine h_nt 1 hn hS ?_ | refine h_ix 1 hn hS ?_ | refine h_lk 1 hn hS ?_
        first | refine h_mv 2 hn hS ?_ | refine h_as 2 hn hS ?_ | refine h_fd 2 hn hS ?_ | refine h_ld 2 hn hS ?_ | refine h_nc 2 hn hS ?_ | refine h_cv 2 hn hS ?_ | refine h_ex 2 hn hS ?_ | refine h_nt 2 hn hS ?_ | refine h_ix 2 hn hS ?_ | refine h_lk 2 hn hS ?_
        first | refine h_mv 3 hn hS ?_ | refine h_as 3 hn hS ?_ | refine h_fd 3 hn hS ?_ | refine h_ld 3 hn hS ?_ | refine h_nc 3 hn hS ?_ | refine h_cv 3 hn hS ?_ | refine h_ex 3 hn hS ?_ | refine h_nt 3 hn hS ?_ | refine h_ix 3 hn hS ?_ | refine h_lk 3 hn hS ?_
        first | refine h_mv 4 hn hS ?_ | refine h_as 4 hn hS ?_ | refine h_fd 4 hn hS ?_ | refine h_ld 4 hn hS ?_ | refine h_nc 4 hn hS ?_ | refine h_cv 4 hn hS ?_ | refine h_ex 4 hn hS ?_ | refine h_nt 4 hn hS ?_ | refine h_ix 4 hn hS ?_ | refine h_lk 4 hn hS ?_
        first | refine h_mv 5 hn hS ?_ | refine h_as 5 hn hS ?_ | refine h_fd 5 hn hS ?_ | refine h_ld 5 hn hS ?_ | refine h_nc 5 hn hS ?_ | refine h_cv 5 hn hS ?_ | refine h_ex 5 hn hS ?_ | refine h_nt 5 hn hS ?_ | refine h_ix 5 hn hS ?_ | refine h_lk 5 hn hS ?_
        first | refine h_mv 6 hn hS ?_ | refine h_as 6 hn hS ?_ | refine h_fd 6 hn hS ?_ | refine h_ld 6 hn hS ?_ | refine h_nc 6 hn hS ?_ | refine h_cv 6 hn hS ?_ | refine h_ex 6 hn hS ?_ | refine h_nt 6 hn hS ?_ | refine h_ix 6 hn hS ?_ | refine h_lk 6 hn hS ?_
        first | refine h_mv 7 hn hS ?_ | refine h_as 7 hn hS ?_ | refine h_fd 7 hn hS ?_ | refine h_ld 7 hn hS ?_ | refine h_nc 7 hn hS ?_ | refine h_cv 7 hn hS ?_ | refine h_ex 7 hn hS ?_ | refine h_nt 7 hn hS ?_ | refine h_ix 7 hn hS ?_ | refine h_lk 7 hn hS ?_
        first | refine h_mv 8 hn hS ?_ | refine h_as 8 hn hS ?_ | refine h_fd 8 hn hS ?_ | refine h_ld 8 hn hS ?_ | refine h_nc 8 hn hS ?_ | refine h_cv 8 hn hS ?_ | refine h_ex 8 hn hS ?_ | refine h_nt 8 hn hS ?_ | refine h_ix 8 hn hS ?_ | refine h_lk 8 hn hS ?_
        refine h_o 9 hn hS (fun W _ hk => x_bb (lk_at hk (i := 95) rfl (fun _ => rfl) rfl) (lk_at hk (i := 96) rfl (fun _ => rfl) rfl) (xor8t W 95 96 u (bitU (i % 8)))) ?_
        refine h_o 10 hn hS (fun W _ hk => x_bb (lk_at hk (i := 91) rfl (fun _ => rfl) rfl) (lk_at hk (i := 97) rfl (fun _ => rfl) rfl) (neq8t W 91 97 _)) ?_
        refine fh_end (by kernel_rfl) ?_
        clear hn q1 q2 q3 q4
        subst ha
        dsimp only [fr, cnd, Act.put, cond_true]
        simp only [List.setIfInBounds_toArray, List.set_cons_zero, List.set_cons_succ]
        have hB9 := bel_drew hB
        clear hS hB hu hflip
        go_wp2_with fail
        go_roundw
        case rel => exact ⟨j + 1, by omega, by go_num, hB9⟩
        case measure => simp [intOf]; omega
      · have e : ((j : Int) == ((i / 8 : Nat) : Int)) = false := by rw [beq_eq_false_iff_ne]; omega
        have hflip : (flipL (padL l) i)[j]? = some (u ^^^ 0) := by
          unfold flipL
          rw [List.getElem?_set_ne (by omega), hu, UInt8.xor_zero]
        rw [e]
        clear e
        have q1 : ∀ W, (Blk W g1 (bkA (padL l)) 63 ∧ Blk W g2 (bkA (flipL (padL l) i)) 63) → (Instr.indexAt 28 (.slice (some ⟨g2, 0, none⟩) 64 64) (.int .i64 (j : Int))).run Tryd.prog W = .ok (.pointer (some ⟨g2, j, none⟩)) W := fun W _ => ix_b W g2 j hlt
        have q2 : ∀ W, (Blk W g1 (bkA (padL l)) 63 ∧ Blk W g2 (bkA (flipL (padL l) i)) 63) → (Instr.loadAt 5 (.pointer (some ⟨g2, j, none⟩))).run Tryd.prog W = .ok (.int .u8 ((u ^^^ 0).toNat : Int)) W := fun W h => ld_bk h.2 hflip
        have q3 : ∀ W, (Blk W g1 (bkA (padL l)) 63 ∧ Blk W g2 (bkA (flipL (padL l) i)) 63) → (Instr.indexAt 28 (.slice (some ⟨g1, 0, none⟩) 64 64) (.int .i64 (j : Int))).run Tryd.prog W = .ok (.pointer (some ⟨g1, j, none⟩)) W := fun W _ => ix_b W g1 j hlt
        have q4 : ∀ W, (Blk W g1 (bkA (padL l)) 63 ∧ Blk W g2 (bkA (flipL (padL l) i)) 63) → (Instr.loadAt 5 (.pointer (some ⟨g1, j, none⟩))).run Tryd.prog W = .ok (.int .u8 (u.toNat : Int)) W := fun W h => ld_bk h.1 hu
        go_upto_region 19 with fail
        refine fh_start (S := (fun W => (Blk W g1 (bkA (padL l)) 63 ∧ Blk W g2 (bkA (flipL (padL l) i)) 63))) (by kernel_rfl) (⟨hY17.keep (bel_drew hB), hY2.keep (bel_drew hB)⟩) (fun hS => ?_)
        generalize ha : Act.mk _ _ = a0
        have hn : a0.tmps.size = 165 := by rw [← ha]; kernel_rfl
        have h10 : (fr a0 []).eval (.tmp 10) = .slice (some ⟨g1, 0, none⟩) 64 64 := by rw [← ha]; kernel_rfl
        refine fh_know hn rfl h10 ?_
        clear h10
        have h12 : (fr a0 [(10, true, .slice (some ⟨g1, 0, none⟩) 64 64)]).eval (.tmp 12) = .slice (some ⟨g2, 0, none⟩) 64 64 := by rw [← ha]; kernel_rfl
        refine fh_know hn rfl h12 ?_
        clear h12
        have h14 : (fr a0 [(12, true, .slice (some ⟨g2, 0, none⟩) 64 64), (10, true, .slice (some ⟨g1, 0, none⟩) 64 64)]).eval (.tmp 14) = .int .i64 (j : Int) := by rw [← ha]; kernel_rfl
        refine fh_know hn rfl h14 ?_
        clear h14
        have h15 : (fr a0 [(14, true, .int .i64 (j : Int)), (12, true, .slice (some ⟨g2, 0, none⟩) 64 64), (10, true, .slice (some ⟨g1, 0, none⟩) 64 64)]).eval (.tmp 15) = .int .u8 0 := by rw [← ha]; kernel_rfl
        refine fh_know hn rfl h15 ?_
        clear h15
        first | refine h_mv 0 hn hS ?_ | refine h_as 0 hn hS ?_ | refine h_fd 0 hn hS ?_ | refine h_ld 0 hn hS ?_ | refine h_nc 0 hn hS ?_ | refine h_cv 0 hn hS ?_ | refine h_ex 0 hn hS ?_ | refine h_nt 0 hn hS ?_ | refine h_ix 0 hn hS ?_ | refine h_lk 0 hn hS ?_
        first | refine h_mv 1 hn hS ?_ | refine h_as 1 hn hS ?_ | refine h_fd 1 hn hS ?_ | refine h_ld 1 hn hS ?_ | refine h_nc 1 hn hS ?_ | refine h_cv 1 hn hS ?_ | refine h_ex 1 hn hS ?_ | refine h_nt 1 hn hS ?_ | refine h_ix 1 hn hS ?_ | refine h_lk 1 hn hS ?_
        first | refine h_mv 2 hn hS ?_ | refine h_as 2 hn hS ?_ | refine h_fd 2 hn hS ?_ | refine h_ld 2 hn hS ?_ | refine h_nc 2 hn hS ?_ | refine h_cv 2 hn hS ?_ | refine h_ex 2 hn hS ?_ | refine h_nt 2 hn hS ?_ | refine h_ix 2 hn hS ?_ | refine h_lk 2 hn hS ?_
        first | refine h_mv 3 hn hS ?_ | refine h_as 3 hn hS ?_ | refine h_fd 3 hn hS ?_ | refine h_ld 3 hn hS ?_ | refine h_nc 3 hn hS ?_ | refine h_cv 3 hn hS ?_ | refine h_ex 3 hn hS ?_ | refine h_nt 3 hn hS ?_ | refine h_ix 3 hn hS ?_ | refine h_lk 3 hn hS ?_
        first | refine h_mv 4 hn hS ?_ | refine h_as 4 hn hS ?_ | refine h_fd 4 hn hS ?_ | refine h_ld 4 hn hS ?_ | refine h_nc 4 hn hS ?_ | refine h_cv 4 hn hS ?_ | refine h_ex 4 hn hS ?_ | refine h_nt 4 hn hS ?_ | refine h_ix 4 hn hS ?_ | refine h_lk 4 hn hS ?_
        first | refine h_mv 5 hn hS ?_ | refine h_as 5 hn hS ?_ | refine h_fd 5 hn hS ?_ | refine h_ld 5 hn hS ?_ | refine h_nc 5 hn hS ?_ | refine h_cv 5 hn hS ?_ | refine h_ex 5 hn hS ?_ | refine h_nt 5 hn hS ?_ | refine h_ix 5 hn hS ?_ | refine h_lk 5 hn hS ?_
        first | refine h_mv 6 hn hS ?_ | refine h_as 6 hn hS ?_ | refine h_fd 6 hn hS ?_ | refine h_ld 6 hn hS ?_ | refine h_nc 6 hn hS ?_ | refine h_cv 6 hn hS ?_ | refine h_ex 6 hn hS ?_ | refine h_nt 6 hn hS ?_ | refine h_ix 6 hn hS ?_ | refine h_lk 6 hn hS ?_
        first | refine h_mv 7 hn hS ?_ | refine h_as 7 hn hS ?_ | refine h_fd 7 hn hS ?_ | refine h_ld 7 hn hS ?_ | refine h_nc 7 hn hS ?_ | refine h_cv 7 hn hS ?_ | refine h_ex 7 hn hS ?_ | refine h_nt 7 hn hS ?_ | refine h_ix 7 hn hS ?_ | refine h_lk 7 hn hS ?_
        first | refine h_mv 8 hn hS ?_ | refine h_as 8 hn hS ?_ | refine h_fd 8 hn hS ?_ | refine h_ld 8 hn hS ?_ | refine h_nc 8 hn hS ?_ | refine h_cv 8 hn hS ?_ | refine h_ex 8 hn hS ?_ | refine h_nt 8 hn hS ?_ | refine h_ix 8 hn hS ?_ | refine h_lk 8 hn hS ?_
        refine h_o 9 hn hS (fun W _ hk => x_bb (lk_at hk (i := 95) rfl (fun _ => rfl) rfl) (lk_at hk (i := 96) rfl (fun _ => rfl) rfl) (xor8t W 95 96 u 0)) ?_
        refine h_o 10 hn hS (fun W _ hk => x_bb (lk_at hk (i := 91) rfl (fun _ => rfl) rfl) (lk_at hk (i := 97) rfl (fun _ => rfl) rfl) (neq8t W 91 97 _)) ?_
        refine fh_end (by kernel_rfl) ?_
        clear hn q1 q2 q3 q4
        subst ha
        dsimp only [fr, cnd, Act.put, cond_true]
        simp only [List.setIfInBounds_toArray, List.set_cons_zero, List.set_cons_succ]
        have hB9 := bel_drew hB
        clear hS hB hu hflip
        go_wp2_with fail
        go_roundw
        case rel => exact ⟨j + 1, by omega, by go_num, hB9⟩
        case measure => simp [intOf]; omega
    · have hRa := hR7.out.below hB
      have hKa := hK7.out.trans (StK.of_below hB hR7.out.size)
      have hY1a := hY17.keep hB
      clear hR7 hK7 hY17 hB hj
      go_upto_region 22 with fail
      refine wp_region_lit ?_
      refine fl_start ?_
      generalize ha : Act.mk _ _ = a0
      have hn : a0.tmps.size = 165 := by rw [← ha]; kernel_rfl
      have h7 : (fr a0 []).eval (.tmp 7) = .pointer (some ⟨s, 0, none⟩) := by rw [← ha]; kernel_rfl
      refine fl_know hn rfl h7 ?_
      clear h7
      have h8 : (fr a0 [(7, true, .pointer (some ⟨s, 0, none⟩))]).eval (.tmp 8) = .int .i64 (k : Int) := by rw [← ha]; kernel_rfl
      refine fl_know hn rfl h8 ?_
      clear h8
      have h9 : (fr a0 [(8, true, .int .i64 (k : Int)), (7, true, .pointer (some ⟨s, 0, none⟩))]).eval (.tmp 9) = .int .i64 (i : Int) := by rw [← ha]; kernel_rfl
      refine fl_know hn rfl h9 ?_
      clear h9
      repeat first | refine g_mv hn ?_ | refine g_as hn ?_ | refine g_fd hn ?_ | refine g_ld hn ?_ | refine g_nc hn ?_ | refine g_nt hn ?_ | refine g_an hn ?_ | refine g_or hn ?_ | refine g_ln hn ?_ | refine g_ex hn ?_ | refine g_neq2 hn ?_ | refine g_neq hn ?_ | refine g_eql2 hn ?_ | refine g_eql hn ?_ | refine g_leq2 hn ?_ | refine g_leq hn ?_ | refine g_lss2 hn ?_ | refine g_lss hn ?_ | refine g_gtr2 hn ?_ | refine g_gtr hn ?_ | refine g_geq2 hn ?_ | refine g_geq hn ?_ | refine g_b0 hn ?_ | refine g_bn hn ?_ | refine g_bc hn ?_ | refine g_cv hn ?_ | refine g_ac hn ?_ | refine g_mc hn ?_
      refine g_cvx enters_Spoil hn (fun hk => by simp only [List.map_toArray, List.map_cons, List.map_nil, lk_at hk (i := 100) rfl (fun _ => rfl) rfl, lk_at hk (i := 101) rfl (fun _ => rfl) rfl, lk_at hk (i := 102) rfl (fun _ => rfl) rfl]; rfl) (R := TurnR w.heap.size s 0 (sp4M k i l) wr) ((spoil_any w.heap.size s (sp3M k i l) 3 k i wr hRa).mono fun _ _ ⟨he, h1, h2⟩ => ⟨_, he, by rw [ok]; rfl, h1, h2⟩) ?_
      rintro v w10 ⟨rfl, hR10, hK10⟩
      have hY1b := (hK10.cel _ _ _ _ hY1a (by decide) (by decide)).trans hY1a
      replace hK10 := hKa.trans hK10
      clear hRa hKa hY1a
      repeat first | refine g_mv hn ?_ | refine g_as hn ?_ | refine g_fd hn ?_ | refine g_ld hn ?_ | refine g_nc hn ?_ | refine g_nt hn ?_ | refine g_an hn ?_ | refine g_or hn ?_ | refine g_ln hn ?_ | refine g_ex hn ?_ | refine g_neq2 hn ?_ | refine g_neq hn ?_ | refine g_eql2 hn ?_ | refine g_eql hn ?_ | refine g_leq2 hn ?_ | refine g_leq hn ?_ | refine g_lss2 hn ?_ | refine g_lss hn ?_ | refine g_gtr2 hn ?_ | refine g_gtr hn ?_ | refine g_geq2 hn ?_ | refine g_geq hn ?_ | refine g_b0 hn ?_ | refine g_bn hn ?_ | refine g_bc hn ?_ | refine g_cv hn ?_ | refine g_ac hn ?_ | refine g_mc hn ?_
      refine fl_end ?_
      clear hn
      subst ha
      dsimp only [fr, cnd, Act.put, cond_true]
      simp only [List.setIfInBounds_toArray, List.set_cons_zero, List.set_cons_succ]
      obtain ⟨D4, h4⟩ := sp4_is hk hi hl
      have b4 : blkD (sp4M k i l).seen 3 k = padL l := by rw [h4]; exact blk_put _ _ _ _
      have cd : wrCode (sp4M k i l) 3 k newB = 0 := by
        unfold wrCode
        rw [sp_okW hk (by decide), h4]
        rfl
      have pl : (sp4M k i l).pend.length ≤ 1000000 := by rw [h4]; exact Nat.zero_le _
      clear h4
      go_upto_region 23 with fail
      refine wp_region_lit ?_
      refine fl_start ?_
      generalize ha : Act.mk _ _ = a0
      have hn : a0.tmps.size = 165 := by rw [← ha]; kernel_rfl
      have h7 : (fr a0 []).eval (.tmp 7) = .pointer (some ⟨s, 0, none⟩) := by rw [← ha]; kernel_rfl
      refine fl_know hn rfl h7 ?_
      clear h7
      have h8 : (fr a0 [(7, true, .pointer (some ⟨s, 0, none⟩))]).eval (.tmp 8) = .int .i64 (k : Int) := by rw [← ha]; kernel_rfl
      refine fl_know hn rfl h8 ?_
      clear h8
      repeat first | refine g_mv hn ?_ | refine g_as hn ?_ | refine g_fd hn ?_ | refine g_ld hn ?_ | refine g_nc hn ?_ | refine g_nt hn ?_ | refine g_an hn ?_ | refine g_or hn ?_ | refine g_ln hn ?_ | refine g_ex hn ?_ | refine g_neq2 hn ?_ | refine g_neq hn ?_ | refine g_eql2 hn ?_ | refine g_eql hn ?_ | refine g_leq2 hn ?_ | refine g_leq hn ?_ | refine g_lss2 hn ?_ | refine g_lss hn ?_ | refine g_gtr2 hn ?_ | refine g_gtr hn ?_ | refine g_geq2 hn ?_ | refine g_geq hn ?_ | refine g_b0 hn ?_ | refine g_bn hn ?_ | refine g_bc hn ?_ | refine g_cv hn ?_ | refine g_ac hn ?_ | refine g_mc hn ?_
      refine g_cvx enters_Read hn (fun hk => by simp only [List.map_toArray, List.map_cons, List.map_nil, lk_at hk (i := 105) rfl (fun _ => rfl) rfl, lk_at hk (i := 106) rfl (fun _ => rfl) rfl]; rfl) (R := RdO (padL l) w10) (read_ok hp b4 (read_any _ s _ 3 k w10 hR10)) ?_
      rintro v w11 ⟨g3, rfl, hY3, hb11⟩
      repeat first | refine g_mv hn ?_ | refine g_as hn ?_ | refine g_fd hn ?_ | refine g_ld hn ?_ | refine g_nc hn ?_ | refine g_nt hn ?_ | refine g_an hn ?_ | refine g_or hn ?_ | refine g_ln hn ?_ | refine g_ex hn ?_ | refine g_neq2 hn ?_ | refine g_neq hn ?_ | refine g_eql2 hn ?_ | refine g_eql hn ?_ | refine g_leq2 hn ?_ | refine g_leq hn ?_ | refine g_lss2 hn ?_ | refine g_lss hn ?_ | refine g_gtr2 hn ?_ | refine g_gtr hn ?_ | refine g_geq2 hn ?_ | refine g_geq hn ?_ | refine g_b0 hn ?_ | refine g_bn hn ?_ | refine g_bc hn ?_ | refine g_cv hn ?_ | refine g_ac hn ?_ | refine g_mc hn ?_
      refine fl_end ?_
      clear hn
      subst ha
      dsimp only [fr, cnd, Act.put, cond_true]
      simp only [List.setIfInBounds_toArray, List.set_cons_zero, List.set_cons_succ]
      have hR11 := hR10.below hb11
      have hK11 := hK10.trans (StK.of_below hb11 hR10.size)
      have hY1c : Blk w11 g1 (bkA (padL l)) 63 := Blk.keep hY1b hb11
      clear hR10 hK10 hY1b hb11 b4
      go_upto_region 24 with fail
      refine wp_region_lit ?_
      refine fl_start ?_
      generalize ha : Act.mk _ _ = a0
      have hn : a0.tmps.size = 165 := by rw [← ha]; kernel_rfl
      have h7 : (fr a0 []).eval (.tmp 7) = .pointer (some ⟨s, 0, none⟩) := by rw [← ha]; kernel_rfl
      refine fl_know hn rfl h7 ?_
      clear h7
      have h8 : (fr a0 [(7, true, .pointer (some ⟨s, 0, none⟩))]).eval (.tmp 8) = .int .i64 (k : Int) := by rw [← ha]; kernel_rfl
      refine fl_know hn rfl h8 ?_
      clear h8
      repeat first | refine g_mv hn ?_ | refine g_as hn ?_ | refine g_fd hn ?_ | refine g_ld hn ?_ | refine g_nc hn ?_ | refine g_nt hn ?_ | refine g_an hn ?_ | refine g_or hn ?_ | refine g_ln hn ?_ | refine g_ex hn ?_ | refine g_neq2 hn ?_ | refine g_neq hn ?_ | refine g_eql2 hn ?_ | refine g_eql hn ?_ | refine g_leq2 hn ?_ | refine g_leq hn ?_ | refine g_lss2 hn ?_ | refine g_lss hn ?_ | refine g_gtr2 hn ?_ | refine g_gtr hn ?_ | refine g_geq2 hn ?_ | refine g_geq hn ?_ | refine g_b0 hn ?_ | refine g_bn hn ?_ | refine g_bc hn ?_ | refine g_cv hn ?_ | refine g_ac hn ?_ | refine g_mc hn ?_
      refine g_w hn (w2 := w11.alloc (.cells (bkA newB) 5)) (v := .slice (some ⟨w11.heap.size, 0, none⟩) 3 3) (fun _ => x_bs3 (fun _ => rfl) (run_bs3 w11)) ?_
      refine g_w hn (w2 := w11.alloc (.cells (bkA newB) 5 ((bkA newB).size, (bkA newB).size + 1))) (v := .slice (some ⟨w11.heap.size, 0, none⟩) 3 3) (fun hk => by unfold execOp; dsimp only; rw [lk_at hk (i := 112) rfl (fun _ => rfl) rfl, Sem.run_bind, Lib.run_convert_bytes_const w11 28 5 (bkA newB) 3 3 (by kernel_rfl) (by kernel_rfl)]; rfl) ?_
      have hrn := rdb_mk w11 newB 5 ((bkA newB).size, (bkA newB).size + 1)
      have hbn := b0 w11 (.cells (bkA newB) 5 ((bkA newB).size, (bkA newB).size + 1))
      generalize w11.alloc (.cells (bkA newB) 5 ((bkA newB).size, (bkA newB).size + 1)) = w12 at hrn hbn ⊢
      generalize w11.heap.size = gn at hrn ⊢
      have hR12 := hR11.below hbn
      have hK12 := hK11.trans (StK.of_below hbn hR11.size)
      have hY1d := hY1c.keep hbn
      have hY3d := hY3.keep hbn
      have hE12 := hE.stk hK12 hg
      clear hR11 hK11 hY1c hY3 hbn
      repeat first | refine g_mv hn ?_ | refine g_as hn ?_ | refine g_fd hn ?_ | refine g_ld hn ?_ | refine g_nc hn ?_ | refine g_nt hn ?_ | refine g_an hn ?_ | refine g_or hn ?_ | refine g_ln hn ?_ | refine g_ex hn ?_ | refine g_neq2 hn ?_ | refine g_neq hn ?_ | refine g_eql2 hn ?_ | refine g_eql hn ?_ | refine g_leq2 hn ?_ | refine g_leq hn ?_ | refine g_lss2 hn ?_ | refine g_lss hn ?_ | refine g_gtr2 hn ?_ | refine g_gtr hn ?_ | refine g_geq2 hn ?_ | refine g_geq hn ?_ | refine g_b0 hn ?_ | refine g_bn hn ?_ | refine g_bc hn ?_ | refine g_cv hn ?_ | refine g_ac hn ?_ | refine g_mc hn ?_
      refine g_cvx enters_Write hn (fun hk => by simp only [List.map_toArray, List.map_cons, List.map_nil, lk_at hk (i := 110) rfl (fun _ => rfl) rfl, lk_at hk (i := 111) rfl (fun _ => rfl) rfl, lk_at hk (i := 113) rfl (fun _ => rfl) rfl]; rfl) (R := TurnR w.heap.size s 0 (sp5M k i l) w12) ((write_any S w.heap.size s (sp4M k i l) 3 k (some ⟨gn, 0, none⟩) 3 3 newB w12 hR12 hE12 hg rfl hrn pl (by omega)).mono fun _ _ ⟨he, h1, h2⟩ => ⟨_, he, by rw [cd], h1, h2⟩) ?_
      rintro v w13 ⟨rfl, hR13, hK13⟩
      have hY1e := (hK13.cel _ _ _ _ hY1d (by decide) (by decide)).trans hY1d
      have hY3e := (hK13.cel _ _ _ _ hY3d (by decide) (by decide)).trans hY3d
      replace hK13 := hK12.trans hK13
      clear hR12 hK12 hY1d hY3d hE12 hrn
      repeat first | refine g_mv hn ?_ | refine g_as hn ?_ | refine g_fd hn ?_ | refine g_ld hn ?_ | refine g_nc hn ?_ | refine g_nt hn ?_ | refine g_an hn ?_ | refine g_or hn ?_ | refine g_ln hn ?_ | refine g_ex hn ?_ | refine g_neq2 hn ?_ | refine g_neq hn ?_ | refine g_eql2 hn ?_ | refine g_eql hn ?_ | refine g_leq2 hn ?_ | refine g_leq hn ?_ | refine g_lss2 hn ?_ | refine g_lss hn ?_ | refine g_gtr2 hn ?_ | refine g_gtr hn ?_ | refine g_geq2 hn ?_ | refine g_geq hn ?_ | refine g_b0 hn ?_ | refine g_bn hn ?_ | refine g_bc hn ?_ | refine g_cv hn ?_ | refine g_ac hn ?_ | refine g_mc hn ?_
      refine fl_end ?_
      clear hn
      subst ha
      dsimp only [fr, cnd, Act.put, cond_true]
      simp only [List.setIfInBounds_toArray, List.set_cons_zero, List.set_cons_succ]
      go_upto_region 25 with fail
      refine wp_region_lit ?_
      refine fl_start ?_
      generalize ha : Act.mk _ _ = a0
      have hn : a0.tmps.size = 165 := by rw [← ha]; kernel_rfl
      have h7 : (fr a0 []).eval (.tmp 7) = .pointer (some ⟨s, 0, none⟩) := by rw [← ha]; kernel_rfl
      refine fl_know hn rfl h7 ?_
      clear h7
      have h8 : (fr a0 [(7, true, .pointer (some ⟨s, 0, none⟩))]).eval (.tmp 8) = .int .i64 (k : Int) := by rw [← ha]; kernel_rfl
      refine fl_know hn rfl h8 ?_
      clear h8
      have h9 : (fr a0 [(8, true, .int .i64 (k : Int)), (7, true, .pointer (some ⟨s, 0, none⟩))]).eval (.tmp 9) = .int .i64 (i : Int) := by rw [← ha]; kernel_rfl
      refine fl_know hn rfl h9 ?_
      clear h9
      repeat first | refine g_mv hn ?_ | refine g_as hn ?_ | refine g_fd hn ?_ | refine g_ld hn ?_ | refine g_nc hn ?_ | refine g_nt hn ?_ | refine g_an hn ?_ | refine g_or hn ?_ | refine g_ln hn ?_ | refine g_ex hn ?_ | refine g_neq2 hn ?_ | refine g_neq hn ?_ | refine g_eql2 hn ?_ | refine g_eql hn ?_ | refine g_leq2 hn ?_ | refine g_leq hn ?_ | refine g_lss2 hn ?_ | refine g_lss hn ?_ | refine g_gtr2 hn ?_ | refine g_gtr hn ?_ | refine g_geq2 hn ?_ | refine g_geq hn ?_ | refine g_b0 hn ?_ | refine g_bn hn ?_ | refine g_bc hn ?_ | refine g_cv hn ?_ | refine g_ac hn ?_ | refine g_mc hn ?_
      refine g_cvx enters_Spoil hn (fun hk => by simp only [List.map_toArray, List.map_cons, List.map_nil, lk_at hk (i := 115) rfl (fun _ => rfl) rfl, lk_at hk (i := 116) rfl (fun _ => rfl) rfl, lk_at hk (i := 117) rfl (fun _ => rfl) rfl]; rfl) (R := TurnR w.heap.size s 0 (sp6M k i l) w13) ((spoil_any w.heap.size s (sp5M k i l) 3 k i w13 hR13).mono fun _ _ ⟨he, h1, h2⟩ => ⟨_, he, by rw [ok]; rfl, h1, h2⟩) ?_
      rintro v w14 ⟨rfl, hR14, hK14⟩
      have hY1f := (hK14.cel _ _ _ _ hY1e (by decide) (by decide)).trans hY1e
      have hY3f := (hK14.cel _ _ _ _ hY3e (by decide) (by decide)).trans hY3e
      replace hK14 := hK13.trans hK14
      clear hR13 hK13 hY1e hY3e
      repeat first | refine g_mv hn ?_ | refine g_as hn ?_ | refine g_fd hn ?_ | refine g_ld hn ?_ | refine g_nc hn ?_ | refine g_nt hn ?_ | refine g_an hn ?_ | refine g_or hn ?_ | refine g_ln hn ?_ | refine g_ex hn ?_ | refine g_neq2 hn ?_ | refine g_neq hn ?_ | refine g_eql2 hn ?_ | refine g_eql hn ?_ | refine g_leq2 hn ?_ | refine g_leq hn ?_ | refine g_lss2 hn ?_ | refine g_lss hn ?_ | refine g_gtr2 hn ?_ | refine g_gtr hn ?_ | refine g_geq2 hn ?_ | refine g_geq hn ?_ | refine g_b0 hn ?_ | refine g_bn hn ?_ | refine g_bc hn ?_ | refine g_cv hn ?_ | refine g_ac hn ?_ | refine g_mc hn ?_
      refine fl_end ?_
      clear hn
      subst ha
      dsimp only [fr, cnd, Act.put, cond_true]
      simp only [List.setIfInBounds_toArray, List.set_cons_zero, List.set_cons_succ]
      obtain ⟨hpn, D6, h6, hD6⟩ := sp6_is hk hi hl
      have b6 : blkD (sp6M k i l).seen 3 k = padL newB := by rw [h6]; exact blk_put _ _ _ _
      go_upto_region 26 with fail
      refine wp_region_lit ?_
      refine fl_start ?_
      generalize ha : Act.mk _ _ = a0
      have hn : a0.tmps.size = 165 := by rw [← ha]; kernel_rfl
      have h7 : (fr a0 []).eval (.tmp 7) = .pointer (some ⟨s, 0, none⟩) := by rw [← ha]; kernel_rfl
      refine fl_know hn rfl h7 ?_
      clear h7
      have h8 : (fr a0 [(7, true, .pointer (some ⟨s, 0, none⟩))]).eval (.tmp 8) = .int .i64 (k : Int) := by rw [← ha]; kernel_rfl
      refine fl_know hn rfl h8 ?_
      clear h8
      repeat first | refine g_mv hn ?_ | refine g_as hn ?_ | refine g_fd hn ?_ | refine g_ld hn ?_ | refine g_nc hn ?_ | refine g_nt hn ?_ | refine g_an hn ?_ | refine g_or hn ?_ | refine g_ln hn ?_ | refine g_ex hn ?_ | refine g_neq2 hn ?_ | refine g_neq hn ?_ | refine g_eql2 hn ?_ | refine g_eql hn ?_ | refine g_leq2 hn ?_ | refine g_leq hn ?_ | refine g_lss2 hn ?_ | refine g_lss hn ?_ | refine g_gtr2 hn ?_ | refine g_gtr hn ?_ | refine g_geq2 hn ?_ | refine g_geq hn ?_ | refine g_b0 hn ?_ | refine g_bn hn ?_ | refine g_bc hn ?_ | refine g_cv hn ?_ | refine g_ac hn ?_ | refine g_mc hn ?_
      refine g_cvx enters_Read hn (fun hk => by simp only [List.map_toArray, List.map_cons, List.map_nil, lk_at hk (i := 120) rfl (fun _ => rfl) rfl, lk_at hk (i := 121) rfl (fun _ => rfl) rfl]; rfl) (R := RdO (padL newB) w14) (read_ok hp b6 (read_any _ s _ 3 k w14 hR14)) ?_
      rintro v w15 ⟨g4, rfl, hY4, hb15⟩
      repeat first | refine g_mv hn ?_ | refine g_as hn ?_ | refine g_fd hn ?_ | refine g_ld hn ?_ | refine g_nc hn ?_ | refine g_nt hn ?_ | refine g_an hn ?_ | refine g_or hn ?_ | refine g_ln hn ?_ | refine g_ex hn ?_ | refine g_neq2 hn ?_ | refine g_neq hn ?_ | refine g_eql2 hn ?_ | refine g_eql hn ?_ | refine g_leq2 hn ?_ | refine g_leq hn ?_ | refine g_lss2 hn ?_ | refine g_lss hn ?_ | refine g_gtr2 hn ?_ | refine g_gtr hn ?_ | refine g_geq2 hn ?_ | refine g_geq hn ?_ | refine g_b0 hn ?_ | refine g_bn hn ?_ | refine g_bc hn ?_ | refine g_cv hn ?_ | refine g_ac hn ?_ | refine g_mc hn ?_
      refine fl_end ?_
      clear hn
      subst ha
      dsimp only [fr, cnd, Act.put, cond_true]
      simp only [List.setIfInBounds_toArray, List.set_cons_zero, List.set_cons_succ]
      have hR15 := hR14.below hb15
      have hK15 := hK14.trans (StK.of_below hb15 hR14.size)
      have hY1g : Blk w15 g1 (bkA (padL l)) 63 := Blk.keep hY1f hb15
      have hY3g : Blk w15 g3 (bkA (padL l)) 63 := Blk.keep hY3f hb15
      clear hR14 hK14 hY1f hY3f hb15 b6
      have nok1 : okS 3 (k : Int) 512 = false := by
        unfold okS
        simp
      have nok2 : okS 3 1024 0 = false := by decide
      have hbd : ∀ g m x, (sp6M k i l).seen 3 = some g → g m = some x → 0 ≤ m ∧ m < 1024 := fun g m x h1 h2 => by
        rw [h6] at h1
        have := (hD6.put _) 3 g m x h1 h2
        omega
      have cA := conv_rd w15 (some ⟨g3, 0, none⟩) 64 64 (padL l) hlen (blk_rdb hY3g)
      have cB := conv_rd w15 (some ⟨g1, 0, none⟩) 64 64 (padL l) hlen (blk_rdb hY1g)
      have cC := conv_rd w15 (some ⟨g4, 0, none⟩) 3 64 newB rfl (rdb_new hY4)
      clear hY1g hY3g hY4
      go_upto_region 27 with fail
      refine wp_region_lit ?_
      refine fl_start ?_
      generalize ha : Act.mk _ _ = a0
      have hn : a0.tmps.size = 165 := by rw [← ha]; kernel_rfl
      have h7 : (fr a0 []).eval (.tmp 7) = .pointer (some ⟨s, 0, none⟩) := by rw [← ha]; kernel_rfl
      refine fl_know hn rfl h7 ?_
      clear h7
      have h8 : (fr a0 [(7, true, .pointer (some ⟨s, 0, none⟩))]).eval (.tmp 8) = .int .i64 (k : Int) := by rw [← ha]; kernel_rfl
      refine fl_know hn rfl h8 ?_
      clear h8
      have h10 : (fr a0 [(8, true, .int .i64 (k : Int)), (7, true, .pointer (some ⟨s, 0, none⟩))]).eval (.tmp 10) = .slice (some ⟨g1, 0, none⟩) 64 64 := by rw [← ha]; kernel_rfl
      refine fl_know hn rfl h10 ?_
      clear h10
      have h16 : (fr a0 [(10, true, .slice (some ⟨g1, 0, none⟩) 64 64), (8, true, .int .i64 (k : Int)), (7, true, .pointer (some ⟨s, 0, none⟩))]).eval (.tmp 16) = .slice (some ⟨g3, 0, none⟩) 64 64 := by rw [← ha]; kernel_rfl
      refine fl_know hn rfl h16 ?_
      clear h16
      have h18 : (fr a0 [(16, true, .slice (some ⟨g3, 0, none⟩) 64 64), (10, true, .slice (some ⟨g1, 0, none⟩) 64 64), (8, true, .int .i64 (k : Int)), (7, true, .pointer (some ⟨s, 0, none⟩))]).eval (.tmp 18) = .slice (some ⟨g4, 0, none⟩) 64 64 := by rw [← ha]; kernel_rfl
      refine fl_know hn rfl h18 ?_
      clear h18
      repeat first | refine g_mv hn ?_ | refine g_as hn ?_ | refine g_fd hn ?_ | refine g_ld hn ?_ | refine g_nc hn ?_ | refine g_nt hn ?_ | refine g_an hn ?_ | refine g_or hn ?_ | refine g_ln hn ?_ | refine g_ex hn ?_ | refine g_neq2 hn ?_ | refine g_neq hn ?_ | refine g_eql2 hn ?_ | refine g_eql hn ?_ | refine g_leq2 hn ?_ | refine g_leq hn ?_ | refine g_lss2 hn ?_ | refine g_lss hn ?_ | refine g_gtr2 hn ?_ | refine g_gtr hn ?_ | refine g_geq2 hn ?_ | refine g_geq hn ?_ | refine g_b0 hn ?_ | refine g_bn hn ?_ | refine g_bc hn ?_ | refine g_cv hn ?_ | refine g_ac hn ?_ | refine g_mc hn ?_
      refine g_o2 hn (i := 126) (j := 128) (vi := .string ⟨(padL l).toArray⟩) (vj := .string ⟨(padL l).toArray⟩) (v := .bool true) (fun ρ h1 h2 _ => x_bb h1 h2 (eqs _ 126 128 _)) ?_
      repeat first | refine g_mv hn ?_ | refine g_as hn ?_ | refine g_fd hn ?_ | refine g_ld hn ?_ | refine g_nc hn ?_ | refine g_nt hn ?_ | refine g_an hn ?_ | refine g_or hn ?_ | refine g_ln hn ?_ | refine g_ex hn ?_ | refine g_neq2 hn ?_ | refine g_neq hn ?_ | refine g_eql2 hn ?_ | refine g_eql hn ?_ | refine g_leq2 hn ?_ | refine g_leq hn ?_ | refine g_lss2 hn ?_ | refine g_lss hn ?_ | refine g_gtr2 hn ?_ | refine g_gtr hn ?_ | refine g_geq2 hn ?_ | refine g_geq hn ?_ | refine g_b0 hn ?_ | refine g_bn hn ?_ | refine g_bc hn ?_ | refine g_cv hn ?_ | refine g_ac hn ?_ | refine g_mc hn ?_
      refine g_o1 hn (i := 136) (vi := .slice (some ⟨g4, 0, none⟩) 64 64) (v := .slice (some ⟨g4, 0, none⟩) 3 64) (fun ρ h hc => by unfold execOp; dsimp only [Option.map]; rw [h, hc]; kernel_rfl) ?_
      repeat first | refine g_mv hn ?_ | refine g_as hn ?_ | refine g_fd hn ?_ | refine g_ld hn ?_ | refine g_nc hn ?_ | refine g_nt hn ?_ | refine g_an hn ?_ | refine g_or hn ?_ | refine g_ln hn ?_ | refine g_ex hn ?_ | refine g_neq2 hn ?_ | refine g_neq hn ?_ | refine g_eql2 hn ?_ | refine g_eql hn ?_ | refine g_leq2 hn ?_ | refine g_leq hn ?_ | refine g_lss2 hn ?_ | refine g_lss hn ?_ | refine g_gtr2 hn ?_ | refine g_gtr hn ?_ | refine g_geq2 hn ?_ | refine g_geq hn ?_ | refine g_b0 hn ?_ | refine g_bn hn ?_ | refine g_bc hn ?_ | refine g_cv hn ?_ | refine g_ac hn ?_ | refine g_mc hn ?_
      refine g_o1 hn (i := 138) (vi := .string ⟨newB.toArray⟩) (v := .bool true) (fun ρ h hc => by unfold execOp; dsimp only; rw [h, hc]; kernel_rfl) ?_
      repeat first | refine g_mv hn ?_ | refine g_as hn ?_ | refine g_fd hn ?_ | refine g_ld hn ?_ | refine g_nc hn ?_ | refine g_nt hn ?_ | refine g_an hn ?_ | refine g_or hn ?_ | refine g_ln hn ?_ | refine g_ex hn ?_ | refine g_neq2 hn ?_ | refine g_neq hn ?_ | refine g_eql2 hn ?_ | refine g_eql hn ?_ | refine g_leq2 hn ?_ | refine g_leq hn ?_ | refine g_lss2 hn ?_ | refine g_lss hn ?_ | refine g_gtr2 hn ?_ | refine g_gtr hn ?_ | refine g_geq2 hn ?_ | refine g_geq hn ?_ | refine g_b0 hn ?_ | refine g_bn hn ?_ | refine g_bc hn ?_ | refine g_cv hn ?_ | refine g_ac hn ?_ | refine g_mc hn ?_
      refine g_cvx enters_Spoil hn (fun hk => by simp only [List.map_toArray, List.map_cons, List.map_nil, lk_at hk (i := 142) rfl (fun _ => rfl) rfl, lk_at hk (i := 143) rfl (fun _ => rfl) rfl]; rfl) (R := TurnR w.heap.size s 1 (sp6M k i l) w15) ((spoil_any w.heap.size s (sp6M k i l) 3 k 512 w15 hR15).mono fun _ _ ⟨he, h1, h2⟩ => ⟨_, he, by rw [nok1]; rfl, by unfold spM at h1; rw [nok1] at h1; exact h1, h2⟩) ?_
      rintro v w16 ⟨rfl, hR16, hK16⟩
      replace hK16 := hK15.trans hK16
      clear hR15 hK15
      refine g_o1 hn (i := 144) (vi := .int .i64 1) (v := .bool true) (fun ρ h hc => by unfold execOp; dsimp only; rw [h, hc]; kernel_rfl) ?_
      repeat first | refine g_mv hn ?_ | refine g_as hn ?_ | refine g_fd hn ?_ | refine g_ld hn ?_ | refine g_nc hn ?_ | refine g_nt hn ?_ | refine g_an hn ?_ | refine g_or hn ?_ | refine g_ln hn ?_ | refine g_ex hn ?_ | refine g_neq2 hn ?_ | refine g_neq hn ?_ | refine g_eql2 hn ?_ | refine g_eql hn ?_ | refine g_leq2 hn ?_ | refine g_leq hn ?_ | refine g_lss2 hn ?_ | refine g_lss hn ?_ | refine g_gtr2 hn ?_ | refine g_gtr hn ?_ | refine g_geq2 hn ?_ | refine g_geq hn ?_ | refine g_b0 hn ?_ | refine g_bn hn ?_ | refine g_bc hn ?_ | refine g_cv hn ?_ | refine g_ac hn ?_ | refine g_mc hn ?_
      refine g_cvx enters_Spoil hn (fun hk => by simp only [List.map_toArray, List.map_cons, List.map_nil, lk_at hk (i := 148) rfl (fun _ => rfl) rfl]; rfl) (R := TurnR w.heap.size s 1 (sp6M k i l) w16) ((spoil_any w.heap.size s (sp6M k i l) 3 1024 0 w16 hR16).mono fun _ _ ⟨he, h1, h2⟩ => ⟨_, he, by rw [nok2]; rfl, by unfold spM at h1; rw [nok2] at h1; exact h1, h2⟩) ?_
      rintro v w17 ⟨rfl, hR17, hK17⟩
      replace hK17 := hK16.trans hK17
      clear hR16 hK16
      refine g_o1 hn (i := 149) (vi := .int .i64 1) (v := .bool true) (fun ρ h hc => by unfold execOp; dsimp only; rw [h, hc]; kernel_rfl) ?_
      repeat first | refine g_mv hn ?_ | refine g_as hn ?_ | refine g_fd hn ?_ | refine g_ld hn ?_ | refine g_nc hn ?_ | refine g_nt hn ?_ | refine g_an hn ?_ | refine g_or hn ?_ | refine g_ln hn ?_ | refine g_ex hn ?_ | refine g_neq2 hn ?_ | refine g_neq hn ?_ | refine g_eql2 hn ?_ | refine g_eql hn ?_ | refine g_leq2 hn ?_ | refine g_leq hn ?_ | refine g_lss2 hn ?_ | refine g_lss hn ?_ | refine g_gtr2 hn ?_ | refine g_gtr hn ?_ | refine g_geq2 hn ?_ | refine g_geq hn ?_ | refine g_b0 hn ?_ | refine g_bn hn ?_ | refine g_bc hn ?_ | refine g_cv hn ?_ | refine g_ac hn ?_ | refine g_mc hn ?_
      refine g_c1x enters_Pending hn (R := fun v w2 => v = .int .i64 1 ∧ w2 = w17) ((pending_any w.heap.size s (sp6M k i l) w17 hR17).mono fun _ _ ⟨he, hw⟩ => ⟨_, he, by rw [hpn]; rfl, hw⟩) ?_
      rintro v w18 ⟨rfl, rfl⟩
      repeat first | refine g_mv hn ?_ | refine g_as hn ?_ | refine g_fd hn ?_ | refine g_ld hn ?_ | refine g_nc hn ?_ | refine g_nt hn ?_ | refine g_an hn ?_ | refine g_or hn ?_ | refine g_ln hn ?_ | refine g_ex hn ?_ | refine g_neq2 hn ?_ | refine g_neq hn ?_ | refine g_eql2 hn ?_ | refine g_eql hn ?_ | refine g_leq2 hn ?_ | refine g_leq hn ?_ | refine g_lss2 hn ?_ | refine g_lss hn ?_ | refine g_gtr2 hn ?_ | refine g_gtr hn ?_ | refine g_geq2 hn ?_ | refine g_geq hn ?_ | refine g_b0 hn ?_ | refine g_bn hn ?_ | refine g_bc hn ?_ | refine g_cv hn ?_ | refine g_ac hn ?_ | refine g_mc hn ?_
      refine g_cvx enters_Blocks hn (fun hk => by simp only [List.map_toArray, List.map_cons, List.map_nil, lk_at hk (i := 158) rfl (fun _ => rfl) rfl]; rfl) (R := fun v w2 => v = .int .i64 ((k : Int) + 1) ∧ Below w18.heap.size w18 w2) ((blocks_any w.heap.size s (sp6M k i l) 3 w18 hR17 hbd).mono fun _ _ ⟨v, he, ⟨z, hv, hz⟩, hb⟩ => ⟨_, he, by rw [h6] at hz; rw [hv, blkn_only hD6 hz], hb⟩) ?_
      rintro v w19 ⟨rfl, hb19⟩
      have ad : ((do eqGuard .add 3 (.tmp 160) (.const (.int .i64 1)) (.int .i64 (k : Int)) (.int .i64 1); binOp .add 3 (.int .i64 (k : Int)) (.int .i64 1)) : Sem Value).run Tryd.prog w19 = .ok (.int .i64 ((k : Int) + 1)) w19 := add1t w19 160 k hk
      repeat first | refine g_mv hn ?_ | refine g_as hn ?_ | refine g_fd hn ?_ | refine g_ld hn ?_ | refine g_nc hn ?_ | refine g_nt hn ?_ | refine g_an hn ?_ | refine g_or hn ?_ | refine g_ln hn ?_ | refine g_ex hn ?_ | refine g_neq2 hn ?_ | refine g_neq hn ?_ | refine g_eql2 hn ?_ | refine g_eql hn ?_ | refine g_leq2 hn ?_ | refine g_leq hn ?_ | refine g_lss2 hn ?_ | refine g_lss hn ?_ | refine g_gtr2 hn ?_ | refine g_gtr hn ?_ | refine g_geq2 hn ?_ | refine g_geq hn ?_ | refine g_b0 hn ?_ | refine g_bn hn ?_ | refine g_bc hn ?_ | refine g_cv hn ?_ | refine g_ac hn ?_ | refine g_mc hn ?_
      refine g_c2x enters_Ints hn (R := fun v w2 => v = .int .i64 0 ∧ w2 = w19) ((ints_eq ((k : Int) + 1) w19).mono fun _ _ ⟨he, hw⟩ => ⟨_, he, rfl, hw⟩) ?_
      rintro v w20 ⟨rfl, rfl⟩
      repeat first | refine g_mv hn ?_ | refine g_as hn ?_ | refine g_fd hn ?_ | refine g_ld hn ?_ | refine g_nc hn ?_ | refine g_nt hn ?_ | refine g_an hn ?_ | refine g_or hn ?_ | refine g_ln hn ?_ | refine g_ex hn ?_ | refine g_neq2 hn ?_ | refine g_neq hn ?_ | refine g_eql2 hn ?_ | refine g_eql hn ?_ | refine g_leq2 hn ?_ | refine g_leq hn ?_ | refine g_lss2 hn ?_ | refine g_lss hn ?_ | refine g_gtr2 hn ?_ | refine g_gtr hn ?_ | refine g_geq2 hn ?_ | refine g_geq hn ?_ | refine g_b0 hn ?_ | refine g_bn hn ?_ | refine g_bc hn ?_ | refine g_cv hn ?_ | refine g_ac hn ?_ | refine g_mc hn ?_
      refine fl_end ?_
      clear hn
      subst ha
      dsimp only [fr, cnd, Act.put, cond_true]
      simp only [List.setIfInBounds_toArray, List.set_cons_zero, List.set_cons_succ]
      have R := Lib.hid (hK17.bel.trans (hb19.mono hR17.size))
      clear hR17 hK17 hb19 ad cA cB cC
      go_wp2_with fail
      go_ret
      exact ⟨rfl, R.out⟩
end Go.Proofs.YtfpfalgbkbmkeaaDoor
