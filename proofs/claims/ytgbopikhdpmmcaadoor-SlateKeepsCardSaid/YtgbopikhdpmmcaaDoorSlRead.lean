/-
  WHAT IS PROVED: slate's Read, Arm, Dead, Pending. Conditions: those typed in each theorem.
-/
import Derived.Test.YtgbopikhdpmmcaaDoorSlWrite
namespace Go.Proofs.YtgbopikhdpmmcaaDoor
open Go.RowKit

theorem blk_rdb {W : World} {g : Nat} {l : List UInt8} {t : TypeId} (h : Blk W g (bkA l) t) : RdB W.heap.size W (some ⟨g, 0, none⟩) l := fun k x hx => by
  refine ⟨_, rfl, h.lt, ?_⟩
  rw [Addr.add_mid, Nat.zero_add, h.cell k]
  unfold bkA
  rw [List.getElem?_toArray, List.getElem?_map, hx]
  rfl
theorem blkD_len {B : Nat} {tg : Nat → Nat × Int} {k : Nat} {W : World} {d : Nat} {D : Dk} {f : Int → Option Value} (h : DkR B tg k W d D f) (a b : Int) : (blkD D a b).length = 64 := by
  unfold blkD
  cases hf : f a with
  | none =>
    rw [h.no a hf]
    rfl
  | some v =>
    obtain ⟨c, g, _, _, _, hD, _, hl⟩ := h.yes a v hf
    rw [hD]
    show ((g b).getD z64).length = 64
    cases hg : g b with
    | none => rfl
    | some l => exact hl b l hg
/-- What a look into both maps gives. -/
theorem look2 {B : Nat} {tg : Nat → Nat × Int} {k : Nat} {W : World} {d : Nat} {D : Dk} {f : Int → Option Value} (h : DkR B tg k W d D f) (a b : Int) : ∃ v, (Instr.lookup 78 (.map (some d)) (.int .i64 a) false).run Tryd.prog W = .ok v W ∧ (Instr.lookup 89 v (.int .i64 b) false).run Tryd.prog W = .ok (.agg (bkA (blkD D a b))) W := by
  have h1 := run_lookI (P := Tryd.prog) mUnd iUnd (zM W) h.mp a
  unfold blkD
  cases hf : f a with
  | none =>
    rw [hf] at h1
    refine ⟨_, h1, ?_⟩
    rw [h.no a hf]
    exact run_lookNil (P := Tryd.prog) mUnd2 iUnd (zB W) b
  | some v =>
    obtain ⟨c, g, rfl, _, _, hD, hm, _⟩ := h.yes a v hf
    rw [hf] at h1
    refine ⟨_, h1, ?_⟩
    have h2 := run_lookI (P := Tryd.prog) mUnd2 iUnd (zB W) hm b
    rw [hD]
    unfold mpV at h2
    show _ = Result.ok (Value.agg (bkA ((g b).getD z64))) W
    rw [Option.getD_some]
    cases hg : g b with
    | none =>
      rw [hg] at h2
      exact h2
    | some l =>
      rw [hg] at h2
      exact h2
theorem run_alA (W : World) : (Instr.alloc 85 true (.tuple #[])).run Tryd.prog W = .ok (.pointer (some ⟨W.heap.size, 0, none⟩)) (W.alloc (.cells (bkA z64) 85)) := by kernel_rfl
theorem sl_arr0 (W : World) (b : Nat) : (Instr.sliceAt 85 (.pointer (some ⟨b, 0, none⟩)) none none none).run Tryd.prog W = .ok (.slice (some ⟨b, 0, none⟩) 64 64) W := by kernel_rfl
def ReadR (M : Sl) (f b : Int) (w : World) (e : Ending) (w' : World) : Prop :=
  (bif placeB f b then ∃ g, e = .returned (.tuple #[.slice (some ⟨g, 0, none⟩) 64 64, .int .i64 0]) ∧ Blk w' g (bkA (blkD M.seen f b)) 85 ∧ w.heap.size ≤ g else e = .returned (.tuple #[.slice none 0 0, .int .i64 1])) ∧ Below w.heap.size w w'
theorem enters_Read : ∀ args w, (callFunc 23 args).run Tryd.prog w = .ok (.enter 23 args) w := enters_of Tryd.func23 (by kernel_rfl) rfl

set_option maxRecDepth 100000 in
set_option maxHeartbeats 4000000 in
theorem read_any (B s : Nat) (M : Sl) (f b : Int) (W : World) (hR : SlR B W s M) : Calls Tryd.prog 23 #[.pointer (some ⟨s, 0, none⟩), .int .i64 f, .int .i64 b] W fun e W' => ReadR M f b W e W' := by
  obtain ⟨tg, d1, d2, f1, f2, A, n, c, hX, hsB, hD1, hD2, hO, hP, hb0, hb1, hBW⟩ := hR
  have HP : Hid (∀ e w', ReadR M f b W e w' = ReadR M f b W e w') := fun _ _ => rfl
  go_enter Tryd.func23, Tryd.ntmps23
  go_upto_region 1 with fail
  refine wp_region_lit ?_
  refine fl_start ?_
  generalize ha : Act.mk _ _ = a0
  have hn : a0.tmps.size = 22 := by rw [← ha]; kernel_rfl
  have h1 : (fr a0 []).eval (.tmp 1) = .int .i64 f := by rw [← ha]; kernel_rfl
  refine fl_know hn rfl h1 ?_
  clear h1
  have h2 : (fr a0 [(1, true, .int .i64 f)]).eval (.tmp 2) = .int .i64 b := by rw [← ha]; kernel_rfl
  refine fl_know hn rfl h2 ?_
  clear h2
  refine g_mv hn ?_
  refine g_mv hn ?_
  refine g_c2x enters_isBlock hn (R := fun v w2 => v = .bool (placeB f b) ∧ w2 = W) ((isBlock_any f b W).mono fun _ _ ⟨he, hw⟩ => ⟨_, he, rfl, hw⟩) ?_
  rintro v w2 ⟨rfl, rfl⟩
  repeat first | refine g_mv hn ?_ | refine g_as hn ?_ | refine g_fd hn ?_ | refine g_ld hn ?_ | refine g_nc hn ?_ | refine g_nt hn ?_ | refine g_an hn ?_ | refine g_or hn ?_ | refine g_ln hn ?_ | refine g_ex hn ?_ | refine g_neq2 hn ?_ | refine g_neq hn ?_ | refine g_eql2 hn ?_ | refine g_eql hn ?_ | refine g_leq2 hn ?_ | refine g_leq hn ?_ | refine g_lss2 hn ?_ | refine g_lss hn ?_ | refine g_gtr2 hn ?_ | refine g_gtr hn ?_ | refine g_geq2 hn ?_ | refine g_geq hn ?_ | refine g_b0 hn ?_ | refine g_bn hn ?_ | refine g_bc hn ?_ | refine g_cv hn ?_ | refine g_ac hn ?_ | refine g_mc hn ?_
  refine fl_end ?_
  clear hn
  subst ha
  dsimp only [fr, cnd, Act.put, cond_true]
  simp only [List.setIfInBounds_toArray, List.set_cons_zero, List.set_cons_succ]
  cases hok : placeB f b with
  | false =>
    have R : Hid (ReadR M f b w2 (.returned (.tuple #[.slice none 0 0, .int .i64 1])) w2) := by
      show ReadR _ _ _ _ _ _
      unfold ReadR
      rw [hok]
      exact ⟨rfl, Below.refl _ _⟩
    clear hok
    go_wp2_with fail
    go_ret2
    exact R.out
  | true =>
  have HOK := Lib.hid hok
  clear hok
  have a1 := sl_a1 w2 s
  have l1 := sl_l1 hX
  obtain ⟨v, k1, k2⟩ := look2 hD2 f b
  go_upto_region 3 with fail
  refine wp_region_lit ?_
  refine fl_start ?_
  generalize ha : Act.mk _ _ = a0
  have hn : a0.tmps.size = 22 := by rw [← ha]; kernel_rfl
  have h0 : (fr a0 []).eval (.tmp 0) = .pointer (some ⟨s, 0, none⟩) := by rw [← ha]; kernel_rfl
  refine fl_know hn rfl h0 ?_
  clear h0
  have h1 : (fr a0 [(0, true, .pointer (some ⟨s, 0, none⟩))]).eval (.tmp 1) = .int .i64 f := by rw [← ha]; kernel_rfl
  refine fl_know hn rfl h1 ?_
  clear h1
  have h2 : (fr a0 [(1, true, .int .i64 f), (0, true, .pointer (some ⟨s, 0, none⟩))]).eval (.tmp 2) = .int .i64 b := by rw [← ha]; kernel_rfl
  refine fl_know hn rfl h2 ?_
  clear h2
  repeat first | refine g_mv hn ?_ | refine g_as hn ?_ | refine g_lk hn ?_ | refine g_fd hn ?_ | refine g_ld hn ?_ | refine g_nc hn ?_ | refine g_nt hn ?_ | refine g_an hn ?_ | refine g_or hn ?_ | refine g_ln hn ?_ | refine g_ex hn ?_ | refine g_neq2 hn ?_ | refine g_neq hn ?_ | refine g_eql2 hn ?_ | refine g_eql hn ?_ | refine g_leq2 hn ?_ | refine g_leq hn ?_ | refine g_lss2 hn ?_ | refine g_lss hn ?_ | refine g_gtr2 hn ?_ | refine g_gtr hn ?_ | refine g_geq2 hn ?_ | refine g_geq hn ?_ | refine g_b0 hn ?_ | refine g_bn hn ?_ | refine g_bc hn ?_ | refine g_cv hn ?_ | refine g_ac hn ?_ | refine g_mc hn ?_
  refine g_w hn (w2 := w2.alloc (.cells (bkA z64) 85)) (v := .pointer (some ⟨w2.heap.size, 0, none⟩)) (fun _ => by unfold execOp; dsimp only; rw [Sem.run_bind, run_alA]; rfl) ?_
  have hY := blk_new w2 (bkA z64) 85
  have hB := b0 w2 (.cells (bkA z64) 85)
  generalize w2.alloc (.cells (bkA z64) 85) = w3 at hY hB ⊢
  generalize hg : w2.heap.size = g at hY hB ⊢
  refine g_str hY ?_ (hs := by rw [bkA_size, bkA_size, blkD_len hD2]; rfl) (hi := by rw [bkA_size, blkD_len hD2]; kernel_rfl) (h1 := bkA_one _)
  intro w4 ho hY4
  refine fl_end ?_
  clear hn
  subst ha
  dsimp only [fr, cnd, Act.put, cond_true]
  simp only [List.setIfInBounds_toArray, List.set_cons_zero, List.set_cons_succ]
  have sa := sl_arr0 w4 g
  clear a1 l1 k1 k2 hY
  go_upto_region 4 with fail
  refine wp_region_lit ?_
  refine fl_start ?_
  generalize ha : Act.mk _ _ = a0
  have hn : a0.tmps.size = 22 := by rw [← ha]; kernel_rfl
  have h8 : (fr a0 []).eval (.tmp 8) = .pointer (some ⟨g, 0, none⟩) := by rw [← ha]; kernel_rfl
  refine fl_know hn rfl h8 ?_
  clear h8
  repeat first | refine g_mv hn ?_ | refine g_as hn ?_ | refine g_sl hn ?_ | refine g_fd hn ?_ | refine g_ld hn ?_ | refine g_nc hn ?_ | refine g_nt hn ?_ | refine g_an hn ?_ | refine g_or hn ?_ | refine g_ln hn ?_ | refine g_ex hn ?_ | refine g_neq2 hn ?_ | refine g_neq hn ?_ | refine g_eql2 hn ?_ | refine g_eql hn ?_ | refine g_leq2 hn ?_ | refine g_leq hn ?_ | refine g_lss2 hn ?_ | refine g_lss hn ?_ | refine g_gtr2 hn ?_ | refine g_gtr hn ?_ | refine g_geq2 hn ?_ | refine g_geq hn ?_ | refine g_b0 hn ?_ | refine g_bn hn ?_ | refine g_bc hn ?_ | refine g_cv hn ?_ | refine g_ac hn ?_ | refine g_mc hn ?_
  refine fl_end ?_
  clear hn
  subst ha
  dsimp only [fr, cnd, Act.put, cond_true]
  simp only [List.setIfInBounds_toArray, List.set_cons_zero, List.set_cons_succ]
  go_wp2_with fail
  go_ret2
  unfold ReadR
  rw [HOK.out, hg]
  exact ⟨⟨g, rfl, hY4, Nat.le_refl _⟩, hB.trans (ho.below (Nat.le_refl _))⟩

/-! Arm, Dead, Pending. -/
theorem enters_Dead : ∀ args w, (callFunc 27 args).run Tryd.prog w = .ok (.enter 27 args) w := enters_of Tryd.func27 (by kernel_rfl) rfl
theorem enters_Pending : ∀ args w, (callFunc 26 args).run Tryd.prog w = .ok (.enter 26 args) w := enters_of Tryd.func26 (by kernel_rfl) rfl

def armB (k : Int) : Bool := decide (0 ≤ k) && decide (k ≤ 1099511627776)
def Sl.arms (M : Sl) (k : Int) : Sl := { M with armed := true, budget := k, dead := false }
set_option maxRecDepth 100000 in
set_option maxHeartbeats 4000000 in
theorem dead_any (B s : Nat) (M : Sl) (W : World) (hR : SlR B W s M) : Calls Tryd.prog 27 #[.pointer (some ⟨s, 0, none⟩)] W fun e W' => e = .returned (.bool M.dead) ∧ W' = W := by
  obtain ⟨tg, d1, d2, f1, f2, A, n, c, hX, _⟩ := hR
  have a5 := sl_a5 W s
  have l5 := sl_l5 hX
  go_enter Tryd.func27, Tryd.ntmps27
  go_upto_region 1 with fail
  refine wp_region_lit ?_
  refine fl_start ?_
  generalize ha : Act.mk _ _ = a0
  have hn : a0.tmps.size = 7 := by rw [← ha]; kernel_rfl
  have h0 : (fr a0 []).eval (.tmp 0) = .pointer (some ⟨s, 0, none⟩) := by rw [← ha]; kernel_rfl
  refine fl_know hn rfl h0 ?_
  clear h0
  repeat first | refine g_mv hn ?_ | refine g_as hn ?_ | refine g_fd hn ?_ | refine g_ld hn ?_ | refine g_nc hn ?_ | refine g_nt hn ?_ | refine g_an hn ?_ | refine g_or hn ?_ | refine g_ln hn ?_ | refine g_ex hn ?_ | refine g_neq2 hn ?_ | refine g_neq hn ?_ | refine g_eql2 hn ?_ | refine g_eql hn ?_ | refine g_leq2 hn ?_ | refine g_leq hn ?_ | refine g_lss2 hn ?_ | refine g_lss hn ?_ | refine g_gtr2 hn ?_ | refine g_gtr hn ?_ | refine g_geq2 hn ?_ | refine g_geq hn ?_ | refine g_b0 hn ?_ | refine g_bn hn ?_ | refine g_bc hn ?_ | refine g_cv hn ?_ | refine g_ac hn ?_ | refine g_mc hn ?_
  refine fl_end ?_
  clear hn
  subst ha
  dsimp only [fr, cnd, Act.put, cond_true]
  simp only [List.setIfInBounds_toArray, List.set_cons_zero, List.set_cons_succ]
  go_wp2_with fail
  go_ret
  exact ⟨rfl, rfl⟩
set_option maxRecDepth 100000 in
set_option maxHeartbeats 4000000 in
theorem pending_any (B s : Nat) (M : Sl) (W : World) (hR : SlR B W s M) : Calls Tryd.prog 26 #[.pointer (some ⟨s, 0, none⟩)] W fun e W' => e = .returned (.int .i64 M.pend.length) ∧ W' = W := by
  obtain ⟨tg, d1, d2, f1, f2, A, n, c, hX, _, _, _, hO, _⟩ := hR
  have hn9 : M.pend.length = n := by have := hO.len; rwa [List.length_map] at this
  have a2 := sl_a2 W s
  have l2 := sl_l2 hX
  go_enter Tryd.func26, Tryd.ntmps26
  go_upto_region 1 with fail
  refine wp_region_lit ?_
  refine fl_start ?_
  generalize ha : Act.mk _ _ = a0
  have hn : a0.tmps.size = 8 := by rw [← ha]; kernel_rfl
  have h0 : (fr a0 []).eval (.tmp 0) = .pointer (some ⟨s, 0, none⟩) := by rw [← ha]; kernel_rfl
  refine fl_know hn rfl h0 ?_
  clear h0
  repeat first | refine g_mv hn ?_ | refine g_as hn ?_ | refine g_fd hn ?_ | refine g_ld hn ?_ | refine g_nc hn ?_ | refine g_nt hn ?_ | refine g_an hn ?_ | refine g_or hn ?_ | refine g_ln hn ?_ | refine g_ex hn ?_ | refine g_neq2 hn ?_ | refine g_neq hn ?_ | refine g_eql2 hn ?_ | refine g_eql hn ?_ | refine g_leq2 hn ?_ | refine g_leq hn ?_ | refine g_lss2 hn ?_ | refine g_lss hn ?_ | refine g_gtr2 hn ?_ | refine g_gtr hn ?_ | refine g_geq2 hn ?_ | refine g_geq hn ?_ | refine g_b0 hn ?_ | refine g_bn hn ?_ | refine g_bc hn ?_ | refine g_cv hn ?_ | refine g_ac hn ?_ | refine g_mc hn ?_
  refine fl_end ?_
  clear hn
  subst ha
  dsimp only [fr, cnd, Act.put, cond_true]
  simp only [List.setIfInBounds_toArray, List.set_cons_zero, List.set_cons_succ]
  go_wp2_with fail
  go_ret
  exact ⟨by rw [hn9]; rfl, rfl⟩
end Go.Proofs.YtgbopikhdpmmcaaDoor
