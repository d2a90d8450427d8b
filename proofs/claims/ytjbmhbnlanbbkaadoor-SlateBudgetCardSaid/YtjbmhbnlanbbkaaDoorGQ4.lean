/-
  WHAT IS PROVED: slate's Read, Arm, Dead, Pending. Conditions: those typed in each theorem. · slate's Arm; what a slate is whose own cells alone have turned. Conditions: those typed in each theorem. · slices.IndexFunc and ContainsFunc of writes, and the two closures of slate that look at one. Conditions: those typed in each theorem. · slices.DeleteFunc of writes, upon a row of one's own. Conditions: those typed in each theorem.
-/
import Derived.Test.YtjbmhbnlanbbkaaDoorSlWrite
namespace Go.Proofs.YtjbmhbnlanbbkaaDoor
open Go.RowKit

theorem blk_rdb {W : World} {g : Nat} {l : List UInt8} {t : TypeId} (h : Blk W g (bkA l) t) : RdB W.heap.size W (some ⟨g, 0, none⟩) l := fun k x hx => by
  refine ⟨_, rfl, h.lt, ?_⟩
  rw [Addr.add_mid, Nat.zero_add, h.cell k]
  unfold bkA
  rw [List.getElem?_toArray, List.getElem?_map, hx]
  rfl
theorem blkD_len {B : Nat} {tg : Nat → Nat × Int} {k : Nat} {W : World} {d : Nat} {D : Dk} {f : Int → Option Value} (h : DkR B tg k W d D f) (a b : Int) : (blkD D a b).length = 64 := by
  unfold blkD
  cases hf : f a with
  | none =>
    rw [h.no a hf]
    rfl
  | some v =>
    obtain ⟨c, g, _, _, _, hD, _, hl⟩ := h.yes a v hf
    rw [hD]
    show ((g b).getD z64).length = 64
    cases hg : g b with
    | none => rfl
    | some l => exact hl b l hg
/-- What a look into both maps gives. -/
theorem look2 {B : Nat} {tg : Nat → Nat × Int} {k : Nat} {W : World} {d : Nat} {D : Dk} {f : Int → Option Value} (h : DkR B tg k W d D f) (a b : Int) : ∃ v, (Instr.lookup 41 (.map (some d)) (.int .i64 a) false).run Tryd.prog W = .ok v W ∧ (Instr.lookup 66 v (.int .i64 b) false).run Tryd.prog W = .ok (.agg (bkA (blkD D a b))) W := by
  have h1 := run_lookI (P := Tryd.prog) mUnd iUnd (zM W) h.mp a
  unfold blkD
  cases hf : f a with
  | none =>
    rw [hf] at h1
    refine ⟨_, h1, ?_⟩
    rw [h.no a hf]
    exact run_lookNil (P := Tryd.prog) mUnd2 iUnd (zB W) b
  | some v =>
    obtain ⟨c, g, rfl, _, _, hD, hm, _⟩ := h.yes a v hf
    rw [hf] at h1
    refine ⟨_, h1, ?_⟩
    have h2 := run_lookI (P := Tryd.prog) mUnd2 iUnd (zB W) hm b
    rw [hD]
    unfold mpV at h2
    show _ = Result.ok (Value.agg (bkA ((g b).getD z64))) W
    rw [Option.getD_some]
    cases hg : g b with
    | none =>
      rw [hg] at h2
      exact h2
    | some l =>
      rw [hg] at h2
      exact h2
theorem run_alA (W : World) : (Instr.alloc 59 true (.tuple #[])).run Tryd.prog W = .ok (.pointer (some ⟨W.heap.size, 0, none⟩)) (W.alloc (.cells (bkA z64) 59)) := by kernel_rfl
theorem sl_arr0 (W : World) (b : Nat) : (Instr.sliceAt 59 (.pointer (some ⟨b, 0, none⟩)) none none none).run Tryd.prog W = .ok (.slice (some ⟨b, 0, none⟩) 64 64) W := by kernel_rfl
def ReadR (M : Sl) (f b : Int) (w : World) (e : Ending) (w' : World) : Prop :=
  (bif placeB f b then ∃ g, e = .returned (.tuple #[.slice (some ⟨g, 0, none⟩) 64 64, .int .i64 0]) ∧ Blk w' g (bkA (blkD M.seen f b)) 59 ∧ w.heap.size ≤ g else e = .returned (.tuple #[.slice none 0 0, .int .i64 1])) ∧ Below w.heap.size w w'
theorem enters_Read : ∀ args w, (callFunc 14 args).run Tryd.prog w = .ok (.enter 14 args) w := enters_of Tryd.func14 (by kernel_rfl) rfl

set_option maxRecDepth 100000 in
set_option maxHeartbeats 4000000 in
theorem read_any (B s : Nat) (M : Sl) (f b : Int) (W : World) (hR : SlR B W s M) : Calls Tryd.prog 14 #[.pointer (some ⟨s, 0, none⟩), .int .i64 f, .int .i64 b] W fun e W' => ReadR M f b W e W' := by
  obtain ⟨tg, d1, d2, f1, f2, A, n, c, hX, hsB, hD1, hD2, hO, hP, hb0, hb1, hBW⟩ := hR
  have HP : Hid (∀ e w', ReadR M f b W e w' = ReadR M f b W e w') := fun _ _ => rfl
  go_enter Tryd.func14, Tryd.ntmps14
  go_upto_region 1 with fail
  refine wp_region_lit ?_
  refine fl_start ?_
  generalize ha : Act.mk _ _ = a0
  have hn : a0.tmps.size = 22 := by rw [← ha]; kernel_rfl
  have h1 : (fr a0 []).eval (.tmp 1) = .int .i64 f := by rw [← ha]; kernel_rfl
  refine fl_know hn rfl h1 ?_
  clear h1
  have h2 : (fr a0 [(1, true, .int .i64 f)]).eval (.tmp 2) = .int .i64 b := by rw [← ha]; kernel_rfl
  refine fl_know hn rfl h2 ?_
  clear h2
  refine g_mv hn ?_
  refine g_mv hn ?_
  refine g_c2x enters_isBlock hn (R := fun v w2 => v = .bool (placeB f b) ∧ w2 = W) ((isBlock_any f b W).mono fun _ _ ⟨he, hw⟩ => ⟨_, he, rfl, hw⟩) ?_
  rintro v w2 ⟨rfl, rfl⟩
  repeat first | refine g_mv hn ?_ | refine g_as hn ?_ | refine g_fd hn ?_ | refine g_ld hn ?_ | refine g_nc hn ?_ | refine g_nt hn ?_ | refine g_an hn ?_ | refine g_or hn ?_ | refine g_ln hn ?_ | refine g_ex hn ?_ | refine g_neq2 hn ?_ | refine g_neq hn ?_ | refine g_eql2 hn ?_ | refine g_eql hn ?_ | refine g_leq2 hn ?_ | refine g_leq hn ?_ | refine g_lss2 hn ?_ | refine g_lss hn ?_ | refine g_gtr2 hn ?_ | refine g_gtr hn ?_ | refine g_geq2 hn ?_ | refine g_geq hn ?_ | refine g_b0 hn ?_ | refine g_bn hn ?_ | refine g_bc hn ?_ | refine g_cv hn ?_ | refine g_ac hn ?_ | refine g_mc hn ?_
  refine fl_end ?_
  clear hn
  subst ha
  dsimp only [fr, cnd, Act.put, cond_true]
  simp only [List.setIfInBounds_toArray, List.set_cons_zero, List.set_cons_succ]
  cases hok : placeB f b with
  | false =>
    have R : Hid (ReadR M f b w2 (.returned (.tuple #[.slice none 0 0, .int .i64 1])) w2) := by
      show ReadR _ _ _ _ _ _
      unfold ReadR
      rw [hok]
      exact ⟨rfl, Below.refl _ _⟩
    clear hok
    go_wp2_with fail
    go_ret2
    exact R.out
  | true =>
  have HOK := Lib.hid hok
  clear hok
  have a1 := sl_a1 w2 s
  have l1 := sl_l1 hX
  obtain ⟨v, k1, k2⟩ := look2 hD2 f b
  go_upto_region 3 with fail
  refine wp_region_lit ?_
  refine fl_start ?_
  generalize ha : Act.mk _ _ = a0
  have hn : a0.tmps.size = 22 := by rw [← ha]; kernel_rfl
  have h0 : (fr a0 []).eval (.tmp 0) = .pointer (some ⟨s, 0, none⟩) := by rw [← ha]; kernel_rfl
  refine fl_know hn rfl h0 ?_
  clear h0
  have h1 : (fr a0 [(0, true, .pointer (some ⟨s, 0, none⟩))]).eval (.tmp 1) = .int .i64 f := by rw [← ha]; kernel_rfl
  refine fl_know hn rfl h1 ?_
  clear h1
  have h2 : (fr a0 [(1, true, .int .i64 f), (0, true, .pointer (some ⟨s, 0, none⟩))]).eval (.tmp 2) = .int .i64 b := by rw [← ha]; kernel_rfl
  refine fl_know hn rfl h2 ?_
  clear h2
  repeat first | refine g_mv hn ?_ | refine g_as hn ?_ | refine g_lk hn ?_ | refine g_fd hn ?_ | refine g_ld hn ?_ | refine g_nc hn ?_ | refine g_nt hn ?_ | refine g_an hn ?_ | refine g_or hn ?_ | refine g_ln hn ?_ | refine g_ex hn ?_ | refine g_neq2 hn ?_ | refine g_neq hn ?_ | refine g_eql2 hn ?_ | refine g_eql hn ?_ | refine g_leq2 hn ?_ | refine g_leq hn ?_ | refine g_lss2 hn ?_ | refine g_lss hn ?_ | refine g_gtr2 hn ?_ | refine g_gtr hn ?_ | refine g_geq2 hn ?_ | refine g_geq hn ?_ | refine g_b0 hn ?_ | refine g_bn hn ?_ | refine g_bc hn ?_ | refine g_cv hn ?_ | refine g_ac hn ?_ | refine g_mc hn ?_
  refine g_w hn (w2 := w2.alloc (.cells (bkA z64) 59)) (v := .pointer (some ⟨w2.heap.size, 0, none⟩)) (fun _ => by unfold execOp; dsimp only; rw [Sem.run_bind, run_alA]; rfl) ?_
  have hY := blk_new w2 (bkA z64) 59
  have hB := b0 w2 (.cells (bkA z64) 59)
  generalize w2.alloc (.cells (bkA z64) 59) = w3 at hY hB ⊢
  generalize hg : w2.heap.size = g at hY hB ⊢
  refine g_str hY ?_ (hs := by rw [bkA_size, bkA_size, blkD_len hD2]; rfl) (hi := by rw [bkA_size, blkD_len hD2]; kernel_rfl) (h1 := bkA_one _)
  intro w4 ho hY4
  refine fl_end ?_
  clear hn
  subst ha
  dsimp only [fr, cnd, Act.put, cond_true]
  simp only [List.setIfInBounds_toArray, List.set_cons_zero, List.set_cons_succ]
  have sa := sl_arr0 w4 g
  clear a1 l1 k1 k2 hY
  go_upto_region 4 with fail
  refine wp_region_lit ?_
  refine fl_start ?_
  generalize ha : Act.mk _ _ = a0
  have hn : a0.tmps.size = 22 := by rw [← ha]; kernel_rfl
  have h8 : (fr a0 []).eval (.tmp 8) = .pointer (some ⟨g, 0, none⟩) := by rw [← ha]; kernel_rfl
  refine fl_know hn rfl h8 ?_
  clear h8
  repeat first | refine g_mv hn ?_ | refine g_as hn ?_ | refine g_sl hn ?_ | refine g_fd hn ?_ | refine g_ld hn ?_ | refine g_nc hn ?_ | refine g_nt hn ?_ | refine g_an hn ?_ | refine g_or hn ?_ | refine g_ln hn ?_ | refine g_ex hn ?_ | refine g_neq2 hn ?_ | refine g_neq hn ?_ | refine g_eql2 hn ?_ | refine g_eql hn ?_ | refine g_leq2 hn ?_ | refine g_leq hn ?_ | refine g_lss2 hn ?_ | refine g_lss hn ?_ | refine g_gtr2 hn ?_ | refine g_gtr hn ?_ | refine g_geq2 hn ?_ | refine g_geq hn ?_ | refine g_b0 hn ?_ | refine g_bn hn ?_ | refine g_bc hn ?_ | refine g_cv hn ?_ | refine g_ac hn ?_ | refine g_mc hn ?_
  refine fl_end ?_
  clear hn
  subst ha
  dsimp only [fr, cnd, Act.put, cond_true]
  simp only [List.setIfInBounds_toArray, List.set_cons_zero, List.set_cons_succ]
  go_wp2_with fail
  go_ret2
  unfold ReadR
  rw [HOK.out, hg]
  exact ⟨⟨g, rfl, hY4, Nat.le_refl _⟩, hB.trans (ho.below (Nat.le_refl _))⟩

/-! Arm, Dead, Pending. -/
theorem enters_Arm : ∀ args w, (callFunc 6 args).run Tryd.prog w = .ok (.enter 6 args) w := enters_of Tryd.func6 (by kernel_rfl) rfl
theorem enters_Dead : ∀ args w, (callFunc 10 args).run Tryd.prog w = .ok (.enter 10 args) w := enters_of Tryd.func10 (by kernel_rfl) rfl
def armB (k : Int) : Bool := decide (0 ≤ k) && decide (k ≤ 1099511627776)
def Sl.arms (M : Sl) (k : Int) : Sl := { M with armed := true, budget := k, dead := false }
set_option maxRecDepth 100000 in
set_option maxHeartbeats 4000000 in
theorem dead_any (B s : Nat) (M : Sl) (W : World) (hR : SlR B W s M) : Calls Tryd.prog 10 #[.pointer (some ⟨s, 0, none⟩)] W fun e W' => e = .returned (.bool M.dead) ∧ W' = W := by
  obtain ⟨tg, d1, d2, f1, f2, A, n, c, hX, _⟩ := hR
  have a5 := sl_a5 W s
  have l5 := sl_l5 hX
  go_enter Tryd.func10, Tryd.ntmps10
  go_upto_region 1 with fail
  refine wp_region_lit ?_
  refine fl_start ?_
  generalize ha : Act.mk _ _ = a0
  have hn : a0.tmps.size = 7 := by rw [← ha]; kernel_rfl
  have h0 : (fr a0 []).eval (.tmp 0) = .pointer (some ⟨s, 0, none⟩) := by rw [← ha]; kernel_rfl
  refine fl_know hn rfl h0 ?_
  clear h0
  repeat first | refine g_mv hn ?_ | refine g_as hn ?_ | refine g_fd hn ?_ | refine g_ld hn ?_ | refine g_nc hn ?_ | refine g_nt hn ?_ | refine g_an hn ?_ | refine g_or hn ?_ | refine g_ln hn ?_ | refine g_ex hn ?_ | refine g_neq2 hn ?_ | refine g_neq hn ?_ | refine g_eql2 hn ?_ | refine g_eql hn ?_ | refine g_leq2 hn ?_ | refine g_leq hn ?_ | refine g_lss2 hn ?_ | refine g_lss hn ?_ | refine g_gtr2 hn ?_ | refine g_gtr hn ?_ | refine g_geq2 hn ?_ | refine g_geq hn ?_ | refine g_b0 hn ?_ | refine g_bn hn ?_ | refine g_bc hn ?_ | refine g_cv hn ?_ | refine g_ac hn ?_ | refine g_mc hn ?_
  refine fl_end ?_
  clear hn
  subst ha
  dsimp only [fr, cnd, Act.put, cond_true]
  simp only [List.setIfInBounds_toArray, List.set_cons_zero, List.set_cons_succ]
  go_wp2_with fail
  go_ret
  exact ⟨rfl, rfl⟩
end Go.Proofs.YtjbmhbnlanbbkaaDoor

namespace Go.Proofs.YtjbmhbnlanbbkaaDoor
open Go.RowKit

theorem sl_head {B s d1 d2 n c : Nat} {tg : Nat → Nat × Int} {f1 f2 : Int → Option Value} {A : Option Addr} {M : Sl} {W W' : World} {cs : Array Value} {ar de : Bool} {bu : Int} (hsB : B ≤ s) (hX : Blk W s cs 44) (hD1 : DkR B tg 0 W d1 M.kept f1) (hD2 : DkR B tg 1 W d2 M.seen f2) (hO : OwnX 61 66 B W A n c (M.pend.map Pw.cells))
    (hP : ∀ y, y ∈ M.pend → y.l.length = 64) (h0 : 0 ≤ bu) (h1 : bu ≤ 1099511627776) (hB : B ≤ W.heap.size) (ho : Only1 s W W') (hX' : Blk W' s (slI d1 d2 A n c ar bu de) 44) : SlR B W' s { M with armed := ar, budget := bu, dead := de } ∧ StK B W W' := by
  refine ⟨⟨tg, d1, d2, f1, f2, A, n, c, hX', hsB, hD1.only hX ho, hD2.only hX ho, hO.only hX ho (by decide), hP, h0, h1, by rw [ho.size]; exact hB⟩, ho.below hsB, fun x ds t fr hx ht _ => ho.block x ?_⟩
  rintro rfl
  unfold Blk at hX
  rw [hX] at hx
  injection hx with hx
  injection hx with _ hx _
  exact ht hx.symm
theorem armB_of (k : Int) : (bif decide (k < 0) then true else decide (k > 1099511627776)) = !armB k := by
  unfold armB
  by_cases h1 : k < 0 <;> by_cases h2 : k > 1099511627776 <;> simp [h1, h2] <;> omega
set_option maxRecDepth 100000 in
set_option maxHeartbeats 4000000 in
theorem arm_any (B s : Nat) (M : Sl) (k : Int) (W : World) (hR : SlR B W s M) : Calls Tryd.prog 6 #[.pointer (some ⟨s, 0, none⟩), .int .i64 k] W fun e W' => e = .returned (.int .i64 (bif armB k then 0 else 1)) ∧ SlR B W' s (bif armB k then M.arms k else M) ∧ StK B W W' := by
  have HR := Lib.hid hR
  obtain ⟨tg, d1, d2, f1, f2, A, n, c, hX, hsB, hD1, hD2, hO, hP, hb0, hb1, hBW⟩ := hR
  go_enter Tryd.func6, Tryd.ntmps6
  go_upto_region 1 with fail
  refine wp_region_lit ?_
  refine fl_start ?_
  generalize ha : Act.mk _ _ = a0
  have hn : a0.tmps.size = 21 := by rw [← ha]; kernel_rfl
  have h0 : (fr a0 []).eval (.tmp 0) = .pointer (some ⟨s, 0, none⟩) := by rw [← ha]; kernel_rfl
  refine fl_know hn rfl h0 ?_
  clear h0
  have h1 : (fr a0 [(0, true, .pointer (some ⟨s, 0, none⟩))]).eval (.tmp 1) = .int .i64 k := by rw [← ha]; kernel_rfl
  refine fl_know hn rfl h1 ?_
  clear h1
  repeat first | refine g_mv hn ?_ | refine g_as hn ?_ | refine g_fd hn ?_ | refine g_ld hn ?_ | refine g_nc hn ?_ | refine g_nt hn ?_ | refine g_an hn ?_ | refine g_or hn ?_ | refine g_ln hn ?_ | refine g_ex hn ?_ | refine g_neq2 hn ?_ | refine g_neq hn ?_ | refine g_eql2 hn ?_ | refine g_eql hn ?_ | refine g_leq2 hn ?_ | refine g_leq hn ?_ | refine g_lss2 hn ?_ | refine g_lss hn ?_ | refine g_gtr2 hn ?_ | refine g_gtr hn ?_ | refine g_geq2 hn ?_ | refine g_geq hn ?_ | refine g_b0 hn ?_ | refine g_bn hn ?_ | refine g_bc hn ?_ | refine g_cv hn ?_ | refine g_ac hn ?_ | refine g_mc hn ?_
  refine fl_endb (c := !armB k) (armB_of k) ?_
  clear hn 
  subst ha
  dsimp only [fr, cnd, Act.put, cond_true]
  simp only [List.setIfInBounds_toArray, List.set_cons_zero, List.set_cons_succ]
  cases hk : armB k with
  | false =>
    have R : Hid (Ending.returned (.int .i64 1) = Ending.returned (.int .i64 (bif armB k then 0 else 1)) ∧ SlR B W s (bif armB k then M.arms k else M) ∧ StK B W W) := by
      rw [hk]
      exact ⟨rfl, HR.out, StK.refl _ _⟩
    clear hk hX hD1 hD2 hO HR
    go_wp2_with fail
    go_ret
    exact R.out
  | true =>
  have hk2 : 0 ≤ k ∧ k ≤ 1099511627776 := by
    unfold armB at hk
    simpa using hk
  have a3 := sl_a3 W s
  have a4 := sl_a4 W s
  have a5 := sl_a5 W s
  go_upto_region 3 with fail
  refine wp_region_lit ?_
  refine fl_start ?_
  generalize ha : Act.mk _ _ = a0
  have hn : a0.tmps.size = 21 := by rw [← ha]; kernel_rfl
  have h0 : (fr a0 []).eval (.tmp 0) = .pointer (some ⟨s, 0, none⟩) := by rw [← ha]; kernel_rfl
  refine fl_know hn rfl h0 ?_
  clear h0
  have h1 : (fr a0 [(0, true, .pointer (some ⟨s, 0, none⟩))]).eval (.tmp 1) = .int .i64 k := by rw [← ha]; kernel_rfl
  refine fl_know hn rfl h1 ?_
  clear h1
  repeat first | refine g_mv hn ?_ | refine g_as hn ?_ | refine g_fd hn ?_ | refine g_ld hn ?_ | refine g_nc hn ?_ | refine g_nt hn ?_ | refine g_an hn ?_ | refine g_or hn ?_ | refine g_ln hn ?_ | refine g_ex hn ?_ | refine g_neq2 hn ?_ | refine g_neq hn ?_ | refine g_eql2 hn ?_ | refine g_eql hn ?_ | refine g_leq2 hn ?_ | refine g_leq hn ?_ | refine g_lss2 hn ?_ | refine g_lss hn ?_ | refine g_gtr2 hn ?_ | refine g_gtr hn ?_ | refine g_geq2 hn ?_ | refine g_geq hn ?_ | refine g_b0 hn ?_ | refine g_bn hn ?_ | refine g_bc hn ?_ | refine g_cv hn ?_ | refine g_ac hn ?_ | refine g_mc hn ?_
  refine g_stc hX (st_bool (j := 3) hX (by simp) true) ?_
  intro w2 ho2 hX2
  have a4 := sl_a4 w2 s
  repeat first | refine g_mv hn ?_ | refine g_as hn ?_ | refine g_fd hn ?_ | refine g_ld hn ?_ | refine g_nc hn ?_ | refine g_nt hn ?_ | refine g_an hn ?_ | refine g_or hn ?_ | refine g_ln hn ?_ | refine g_ex hn ?_ | refine g_neq2 hn ?_ | refine g_neq hn ?_ | refine g_eql2 hn ?_ | refine g_eql hn ?_ | refine g_leq2 hn ?_ | refine g_leq hn ?_ | refine g_lss2 hn ?_ | refine g_lss hn ?_ | refine g_gtr2 hn ?_ | refine g_gtr hn ?_ | refine g_geq2 hn ?_ | refine g_geq hn ?_ | refine g_b0 hn ?_ | refine g_bn hn ?_ | refine g_bc hn ?_ | refine g_cv hn ?_ | refine g_ac hn ?_ | refine g_mc hn ?_
  refine g_stt hX2 (st_int (j := 4) hX2 (by simp) k) ?_
  intro w3 ho3 hX3
  have a5 := sl_a5 w3 s
  repeat first | refine g_mv hn ?_ | refine g_as hn ?_ | refine g_fd hn ?_ | refine g_ld hn ?_ | refine g_nc hn ?_ | refine g_nt hn ?_ | refine g_an hn ?_ | refine g_or hn ?_ | refine g_ln hn ?_ | refine g_ex hn ?_ | refine g_neq2 hn ?_ | refine g_neq hn ?_ | refine g_eql2 hn ?_ | refine g_eql hn ?_ | refine g_leq2 hn ?_ | refine g_leq hn ?_ | refine g_lss2 hn ?_ | refine g_lss hn ?_ | refine g_gtr2 hn ?_ | refine g_gtr hn ?_ | refine g_geq2 hn ?_ | refine g_geq hn ?_ | refine g_b0 hn ?_ | refine g_bn hn ?_ | refine g_bc hn ?_ | refine g_cv hn ?_ | refine g_ac hn ?_ | refine g_mc hn ?_
  refine g_stc hX3 (st_bool (j := 5) hX3 (by simp) false) ?_
  intro w4 ho4 hX4
  refine fl_end ?_
  clear hn
  subst ha
  dsimp only [fr, cnd, Act.put, cond_true]
  simp only [List.setIfInBounds_toArray, List.set_cons_zero, List.set_cons_succ]
  have R : Hid (Ending.returned (.int .i64 0) = Ending.returned (.int .i64 (bif armB k then 0 else 1)) ∧ SlR B w4 s (bif armB k then M.arms k else M) ∧ StK B W w4) := by
    rw [hk]
    exact ⟨rfl, sl_head (ar := true) (de := false) (bu := k) hsB hX hD1 hD2 hO hP hk2.1 hk2.2 hBW ((ho2.trans ho3).trans ho4) hX4⟩
  clear hk hk2 hX hX2 hX3 hX4 hD1 hD2 hO HR a3 a4 a5
  go_wp2_with fail
  go_ret
  exact R.out
end Go.Proofs.YtjbmhbnlanbbkaaDoor

namespace Go.Proofs.YtjbmhbnlanbbkaaDoor
open Go.RowKit

section
variable {l : List Oper} {Q : Exit → Act → World → Prop} {rest : List Oper} {a0 : Act} {L : List (Nat × Bool × Value)} {w : World}
theorem callf_is {f : FuncId} (he : ∀ args w, (callFunc f args).run Tryd.prog w = .ok (.enter f args) w) (d : Option Tmp) (x y : Operand) (ts : Array TypeId) (ty : TypeId) (p : String) (af : Array Edge) (gd : Option (Nat × Bool)) (ρ : Operand → Value) (v : Value) (lb : Array Value) (h0 : ρ x = .func (.func f) #[] lb) (h1 : ρ y = v) : (execOp ρ ⟨d, .call { callee := .value x, args := #[y], argTypes := ts }, ty, p, af, gd⟩).run Tryd.prog w = .ok (.enter f (#[v] ++ lb)) w := by
  unfold execOp
  dsimp only
  go_simp
theorem g_cf {f : FuncId} {i j d n : Nat} {v : Value} {lb : Array Value} {R : Value → World → Prop} {ts : Array TypeId} {ty : TypeId} {p : String} {af : Array Edge} {gd : Option (Nat × Bool)} (he : ∀ args w, (callFunc f args).run Tryd.prog w = .ok (.enter f args) w) (hn : a0.tmps.size = n) (hc : Calls Tryd.prog f (#[v] ++ lb) w fun e w' => ∃ v, e = .returned v ∧ R v w') (h : ∀ v w2, R v w2 → FL Tryd.prog l Q rest a0 ((d, true, v) :: L) w2) (hd : Nat.blt d n = true := by rfl) (hw : wtG l L gd = some true := by rfl) (hl : lk L i = some (true, .func (.func f) #[] lb) := by rfl) (hl2 : lk L j = some (true, v) := by rfl) : FL Tryd.prog l Q (⟨some d, .call { callee := .value (.tmp i), args := #[.tmp j], argTypes := ts }, ty, p, af, gd⟩ :: rest) a0 L w :=
  fl_callx hn rfl hd hw (fun hk => callf_is he _ _ _ _ _ _ _ _ _ v lb (lk_at hk hl (fun _ => rfl) rfl) (lk_at hk hl2 (fun _ => rfl) rfl)) hc h
end

/-- Whole numbers, each in a block of its own. -/
def CapK (q : List (Nat × Int)) (W : World) : Prop := ∀ p, p ∈ q → W.cell? ⟨p.1, 0, none⟩ = some (.int .i64 p.2)
theorem CapK.keep {q : List (Nat × Int)} {W W' : World} (h : CapK q W) (hb : Below W.heap.size W W') : CapK q W' := fun p hp => (hb.cell (World.block_lt_of_cell? W _ (h p hp))).trans (h p hp)
theorem CapK.only {q : List (Nat × Int)} {W W' : World} {g : Nat} (h : CapK q W) (ho : Only1 g W W') (hg : ∀ p, p ∈ q → p.1 ≠ g) : CapK q W' := fun p hp => by
  have := h p hp
  unfold World.cell? at *
  rw [ho.block _ (hg p hp)]
  exact this
/-- A function value that tells of each of these writes whether p holds, where those numbers lie. -/
def PredP (g : Nat) (lb : Array Value) (p : Pw → Bool) (q : List (Nat × Int)) : Prop :=
  ∀ x : Pw, x.l.length = 64 → ∀ W, CapK q W → Calls Tryd.prog g (#[.agg x.cells] ++ lb) W fun e W' => e = .returned (.bool (p x)) ∧ Below W.heap.size W W'
theorem mapp_get {l : List Pw} {k : Nat} {x : Pw} (h : l[k]? = some x) : (l.map Pw.cells)[k]? = some x.cells := by simp [h]
theorem add_g (g k : Nat) : (⟨g, 0, none⟩ : Addr).add k = ⟨g, k, none⟩ := by
  unfold Addr.add
  split
  · next h => rw [h]
  · simp
theorem ix_p (W : World) (g n c k : Nat) (h : k < n) : (Instr.indexAt 42 (.slice (some ⟨g, 0, none⟩) n c) (.int .i64 k)).run Tryd.prog W = .ok (.pointer (some ⟨g, k * 66, none⟩)) W := by
  have i1 : (0 : Int) ≤ (k : Int) := by omega
  have i2 : (k : Int) < (n : Int) := by omega
  have i3 := add_g g (k * 66)
  go_simp
theorem ld_p {W : World} {g k : Nat} {x : Pw} (hl : x.l.length = 64) (hc : ∀ j v, x.cells[j]? = some v → W.cell? ⟨g, k * 66 + j, none⟩ = some v) : (Instr.loadAt 61 (.pointer (some ⟨g, k * 66, none⟩))).run Tryd.prog W = .ok (.agg x.cells) W := by
  have hi : (Tryd.prog.info? 61).map (·.size) = some 66 := by kernel_rfl
  have := run_loadAt_mid (P := Tryd.prog) W g (k * 66) 61 x.cells.toList _ (fun j v hv => hc j v ((Array.getElem?_toList ..).symm.trans hv)) Tryd.underlying61 rfl (by rw [hi, Array.length_toList, pw_size hl])
  simpa using this
/-- The slice at A reads as these writes. -/
def RdP (W : World) (A : Option Addr) (l : List Pw) : Prop := ∀ k x, l[k]? = some x → ∃ g, A = some ⟨g, 0, none⟩ ∧ g < W.heap.size ∧ ∀ j v, x.cells[j]? = some v → W.cell? ⟨g, k * 66 + j, none⟩ = some v
theorem RdP.keep {W W' : World} {A : Option Addr} {l : List Pw} (h : RdP W A l) (hb : Below W.heap.size W W') : RdP W' A l := fun k x hx => by
  obtain ⟨g, e, hl, hc⟩ := h k x hx
  exact ⟨g, e, Nat.lt_of_lt_of_le hl hb.size, fun j v hv => (hb.cell hl).trans (hc j v hv)⟩
theorem OwnX.rdp {base n c : Nat} {W : World} {A : Option Addr} {l : List Pw} (h : OwnX 61 66 base W A n c (l.map Pw.cells)) : RdP W A l := fun k x hx => by
  have hx' : (l.map Pw.cells)[k]? = some x.cells := mapp_get hx
  have hk := (List.getElem?_eq_some_iff.1 hx').1
  have hl := h.len
  obtain ⟨g, cap, hv, _, hlt⟩ := World.ownsRow.form h.1 (by omega)
  injection hv with hv
  refine ⟨g, hv, hlt, fun j v hj => ?_⟩
  have := h.1.cells (g := g) (by rw [hv]; rfl) _ _ (celV_get _ h.2.1 k j x.cells v hx' hj)
  rwa [add_g] at this
/-- Where the first one is of which p holds. -/
def IdxR (p : Pw → Bool) (l : List Pw) (z : Int) : Prop := (z = -1 ∧ ∀ x, x ∈ l → p x = false) ∨ ∃ (k : Nat) (x : Pw), z = k ∧ l[k]? = some x ∧ p x = true ∧ ∀ y, y ∈ l.take k → p y = false
theorem takep_add {p : Pw → Bool} {l : List Pw} {k : Nat} {x : Pw} (h : ∀ y, y ∈ l.take k → p y = false) (hx : l[k]? = some x) (hb : p x = false) : ∀ y, y ∈ l.take (k + 1) → p y = false := fun y hy => by
  rw [List.take_add_one, hx] at hy
  rcases List.mem_append.1 hy with h' | h'
  · exact h y h'
  · have e : y = x := by simpa using h'
    rw [e]
    exact hb
set_option maxRecDepth 100000 in
set_option maxHeartbeats 4000000 in
theorem idxP_any (g : Nat) (lb : Array Value) (eg : ∀ args w, (callFunc g args).run Tryd.prog w = .ok (.enter g args) w) (p : Pw → Bool) (q : List (Nat × Int)) (A : Option Addr) (n c : Nat) (l : List Pw) (w : World) (hn : l.length = n) (hr : RdP w A l) (h64 : ∀ x, x ∈ l → x.l.length = 64) (hm : n ≤ maxLen) (hp : PredP g lb p q) (hq : CapK q w) :
    Calls Tryd.prog 40 #[.slice A n c, .func (.func g) #[] lb] w fun e w' => (∃ z : Int, e = .returned (.int .i64 z) ∧ IdxR p l z) ∧ Below w.heap.size w w' := by
  unfold maxLen at hm
  have HN := Lib.hid hn
  have HP := Lib.hid hp
  have HR := Lib.hid hr
  have HQ := Lib.hid hq
  have H6 := Lib.hid h64
  clear hn hp hr hq h64
  go_enter Tryd.func40, Tryd.ntmps40
  go_wp2_with fail
  go_loopw [5, 8] (fun _ i wr => ∃ k : Nat, k ≤ n ∧ i = .int .i64 k ∧ Hid (∀ x, x ∈ l.take k → p x = false) ∧ Below w.heap.size w wr) (fun _ i _ => n - (intOf i).toNat)
  case atStart => exact ⟨0, Nat.zero_le _, rfl, fun x hx => by simp at hx, Below.refl _ _⟩
  case round =>
    obtain ⟨k, hk, rfl, hA, hB⟩ := hrel
    by_cases hlt : k < n
    · obtain ⟨x, hx⟩ : ∃ x, l[k]? = some x := ⟨_, List.getElem?_eq_getElem (show k < l.length by have := HN.out; omega)⟩
      obtain ⟨b, rfl, hbl, hc⟩ := (HR.out.keep hB) k x hx
      have i1 : (0 : Int) ≤ (k : Int) := by omega
      have i2 : (k : Int) < (n : Int) := by omega
      have hx6 := H6.out x (List.mem_of_getElem? hx)
      have HX := Lib.hid hx
      have HG := Lib.hid (HP.out x hx6 wr (HQ.out.keep hB))
      have k1 := ix_p wr b n c k hlt
      have k2 := ld_p (k := k) hx6 hc
      clear hx hc hx6
      go_upto_region 4 with fail
      refine wp_region_lit ?_
      refine fl_start ?_
      generalize ha : Act.mk _ _ = a0
      have hn : a0.tmps.size = 19 := by rw [← ha]; kernel_rfl
      have h0 : (fr a0 []).eval (.tmp 0) = .slice (some ⟨b, 0, none⟩) n c := by rw [← ha]; kernel_rfl
      refine fl_know hn rfl h0 ?_
      clear h0
      have h1 : (fr a0 [(0, true, .slice (some ⟨b, 0, none⟩) n c)]).eval (.tmp 1) = .func (.func g) #[] lb := by rw [← ha]; kernel_rfl
      refine fl_know hn rfl h1 ?_
      clear h1
      have h5 : (fr a0 [(1, true, .func (.func g) #[] lb), (0, true, .slice (some ⟨b, 0, none⟩) n c)]).eval (.tmp 5) = .int .i64 k := by rw [← ha]; kernel_rfl
      refine fl_know hn rfl h5 ?_
      clear h5
      repeat first | refine g_mv hn ?_ | refine g_as hn ?_ | refine g_ix hn ?_ | refine g_fd hn ?_ | refine g_ld hn ?_ | refine g_nc hn ?_ | refine g_nt hn ?_ | refine g_an hn ?_ | refine g_or hn ?_ | refine g_ln hn ?_ | refine g_ex hn ?_ | refine g_neq2 hn ?_ | refine g_neq hn ?_ | refine g_eql2 hn ?_ | refine g_eql hn ?_ | refine g_leq2 hn ?_ | refine g_leq hn ?_ | refine g_lss2 hn ?_ | refine g_lss hn ?_ | refine g_gtr2 hn ?_ | refine g_gtr hn ?_ | refine g_geq2 hn ?_ | refine g_geq hn ?_ | refine g_b0 hn ?_ | refine g_bn hn ?_ | refine g_bc hn ?_ | refine g_cv hn ?_ | refine g_ac hn ?_ | refine g_mc hn ?_
      refine g_cf eg hn (R := fun v w2 => v = .bool (p x) ∧ Below wr.heap.size wr w2) (HG.out.mono fun _ _ ⟨he, hb⟩ => ⟨_, he, rfl, hb⟩) ?_
      rintro v w2 ⟨rfl, hb2⟩
      refine fl_end ?_
      clear hn
      subst ha
      dsimp only [fr, cnd, Act.put, cond_true]
      simp only [List.setIfInBounds_toArray, List.set_cons_zero, List.set_cons_succ]
      cases hb : p x with
      | true =>
        have R : Hid (IdxR p l k) := .inr ⟨k, x, rfl, HX.out, hb, hA.out⟩
        clear hb k1 k2
        go_wp2_with fail
        go_ret
        exact ⟨⟨_, rfl, R.out⟩, bt hB hb2⟩
      | false =>
        have HA2 := Lib.hid (takep_add hA.out HX.out hb)
        clear hb hA k1 k2
        go_wp2_with fail
        go_roundw
        case rel => exact ⟨k + 1, by omega, by go_num, HA2, bt hB hb2⟩
        case measure => simp [intOf]; omega
    · have hq : ¬ (k : Int) < (n : Int) := by omega
      have R : Hid (IdxR p l (-1)) := .inl ⟨rfl, fun x hx => hA.out x (by rw [List.take_of_length_le (by have := HN.out; omega)]; exact hx)⟩
      clear hA
      go_wp2_with fail
      go_ret
      exact ⟨⟨_, rfl, R.out⟩, hB⟩
theorem enters_Idx : ∀ args w, (callFunc 40 args).run Tryd.prog w = .ok (.enter 40 args) w := enters_of Tryd.func40 (by kernel_rfl) rfl
set_option maxRecDepth 100000 in
set_option maxHeartbeats 4000000 in
theorem contP_any (g : Nat) (lb : Array Value) (eg : ∀ args w, (callFunc g args).run Tryd.prog w = .ok (.enter g args) w) (p : Pw → Bool) (q : List (Nat × Int)) (A : Option Addr) (n c : Nat) (l : List Pw) (w : World) (hn : l.length = n) (hr : RdP w A l) (h64 : ∀ x, x ∈ l → x.l.length = 64) (hm : n ≤ maxLen) (hp : PredP g lb p q) (hq : CapK q w) :
    Calls Tryd.prog 33 #[.slice A n c, .func (.func g) #[] lb] w fun e w' => e = .returned (.bool (l.any p)) ∧ Below w.heap.size w w' := by
  have HI := Lib.hid (idxP_any g lb eg p q A n c l w hn hr h64 hm hp hq)
  clear hn hr hm hp hq h64
  go_enter Tryd.func33, Tryd.ntmps33
  go_upto_region 1 with fail
  refine wp_region_lit ?_
  refine fl_start ?_
  generalize ha : Act.mk _ _ = a0
  have hn : a0.tmps.size = 9 := by rw [← ha]; kernel_rfl
  have h0 : (fr a0 []).eval (.tmp 0) = .slice A n c := by rw [← ha]; kernel_rfl
  refine fl_know hn rfl h0 ?_
  clear h0
  have h1 : (fr a0 [(0, true, .slice A n c)]).eval (.tmp 1) = .func (.func g) #[] lb := by rw [← ha]; kernel_rfl
  refine fl_know hn rfl h1 ?_
  clear h1
  repeat first | refine g_mv hn ?_ | refine g_as hn ?_ | refine g_fd hn ?_ | refine g_ld hn ?_ | refine g_nc hn ?_ | refine g_nt hn ?_ | refine g_an hn ?_ | refine g_or hn ?_ | refine g_ln hn ?_ | refine g_ex hn ?_ | refine g_neq2 hn ?_ | refine g_neq hn ?_ | refine g_eql2 hn ?_ | refine g_eql hn ?_ | refine g_leq2 hn ?_ | refine g_leq hn ?_ | refine g_lss2 hn ?_ | refine g_lss hn ?_ | refine g_gtr2 hn ?_ | refine g_gtr hn ?_ | refine g_geq2 hn ?_ | refine g_geq hn ?_ | refine g_b0 hn ?_ | refine g_bn hn ?_ | refine g_bc hn ?_ | refine g_cv hn ?_ | refine g_ac hn ?_ | refine g_mc hn ?_
  refine g_c2x enters_Idx hn (R := fun v w2 => ∃ z : Int, v = .int .i64 z ∧ IdxR p l z ∧ Below w.heap.size w w2) (HI.out.mono fun _ _ ⟨⟨z, he, hz⟩, hb⟩ => ⟨_, he, z, rfl, hz, hb⟩) ?_
  rintro v w2 ⟨z, rfl, hz, hb2⟩
  repeat first | refine g_mv hn ?_ | refine g_as hn ?_ | refine g_fd hn ?_ | refine g_ld hn ?_ | refine g_nc hn ?_ | refine g_nt hn ?_ | refine g_an hn ?_ | refine g_or hn ?_ | refine g_ln hn ?_ | refine g_ex hn ?_ | refine g_neq2 hn ?_ | refine g_neq hn ?_ | refine g_eql2 hn ?_ | refine g_eql hn ?_ | refine g_leq2 hn ?_ | refine g_leq hn ?_ | refine g_lss2 hn ?_ | refine g_lss hn ?_ | refine g_gtr2 hn ?_ | refine g_gtr hn ?_ | refine g_geq2 hn ?_ | refine g_geq hn ?_ | refine g_b0 hn ?_ | refine g_bn hn ?_ | refine g_bc hn ?_ | refine g_cv hn ?_ | refine g_ac hn ?_ | refine g_mc hn ?_
  refine fl_end ?_
  clear hn
  subst ha
  dsimp only [fr, cnd, Act.put, cond_true]
  simp only [List.setIfInBounds_toArray, List.set_cons_zero, List.set_cons_succ]
  have e : decide (z ≥ 0) = l.any p := by
    rcases hz with ⟨rfl, h⟩ | ⟨k, x, rfl, hx, hb, _⟩
    · rw [(List.any_eq_false (p := p)).2 fun x hx => by rw [h x hx]; exact Bool.false_ne_true]
      rfl
    · rw [List.any_eq_true.2 ⟨x, List.mem_of_getElem? hx, hb⟩]
      simp
  rw [e]
  clear e hz
  go_wp2_with fail
  go_ret
  exact ⟨rfl, hb2⟩

/-! The two closures. -/
theorem enters_fg1 : ∀ args w, (callFunc 38 args).run Tryd.prog w = .ok (.enter 38 args) w := enters_of Tryd.func38 (by kernel_rfl) rfl
theorem enters_sp1 : ∀ args w, (callFunc 32 args).run Tryd.prog w = .ok (.enter 32 args) w := enters_of Tryd.func32 (by kernel_rfl) rfl
set_option maxRecDepth 100000 in
set_option maxHeartbeats 4000000 in
theorem fg1_any (b : Nat) (f : Int) : PredP 38 #[.pointer (some ⟨b, 0, none⟩)] (fun x => x.f == f) [(b, f)] := by
  intro x hl W hq
  have hq1 := hq _ (List.mem_cons_self ..)
  clear hq
  dsimp only at hq1
  dsimp only
  show Calls Tryd.prog _ #[.agg x.cells, .pointer (some ⟨b, 0, none⟩)] W _
  go_enter Tryd.func38, Tryd.ntmps38
  go_upto_region 1 with fail
  have hY := blk_new W x.cells 61
  have hBel := b0 W (.cells x.cells 61)
  have hq2 := (hBel.cell (World.block_lt_of_cell? W _ hq1)).trans hq1
  clear hq1
  generalize W.alloc (.cells x.cells 61) = W1 at hY hBel hq2 ⊢
  generalize hb : W.heap.size = d at hY hBel ⊢
  have f0 := pw_f0 W1 d
  have l0 := pw_l0 hY
  have l1 := load_int hq2
  refine wp_region_lit ?_
  refine fl_start ?_
  generalize ha : Act.mk _ _ = a0
  have hn : a0.tmps.size = 8 := by rw [← ha]; kernel_rfl
  have h1 : (fr a0 []).eval (.tmp 1) = .pointer (some ⟨b, 0, none⟩) := by rw [← ha]; kernel_rfl
  refine fl_know hn rfl h1 ?_
  clear h1
  have h2 : (fr a0 [(1, true, .pointer (some ⟨b, 0, none⟩))]).eval (.tmp 2) = .pointer (some ⟨d, 0, none⟩) := by rw [← ha]; kernel_rfl
  refine fl_know hn rfl h2 ?_
  clear h2
  repeat first | refine g_mv hn ?_ | refine g_as hn ?_ | refine g_fd hn ?_ | refine g_ld hn ?_ | refine g_nc hn ?_ | refine g_nt hn ?_ | refine g_an hn ?_ | refine g_or hn ?_ | refine g_ln hn ?_ | refine g_ex hn ?_ | refine g_neq2 hn ?_ | refine g_neq hn ?_ | refine g_eql2 hn ?_ | refine g_eql hn ?_ | refine g_leq2 hn ?_ | refine g_leq hn ?_ | refine g_lss2 hn ?_ | refine g_lss hn ?_ | refine g_gtr2 hn ?_ | refine g_gtr hn ?_ | refine g_geq2 hn ?_ | refine g_geq hn ?_ | refine g_b0 hn ?_ | refine g_bn hn ?_ | refine g_bc hn ?_ | refine g_cv hn ?_ | refine g_ac hn ?_ | refine g_mc hn ?_
  refine fl_end ?_
  clear hn
  subst ha
  dsimp only [fr, cnd, Act.put, cond_true]
  simp only [List.setIfInBounds_toArray, List.set_cons_zero, List.set_cons_succ]
  clear f0 l0 l1 hY hq2
  go_wp2_with fail
  go_ret
  exact ⟨rfl, by rw [hb]; exact hBel⟩
set_option maxRecDepth 100000 in
set_option maxHeartbeats 4000000 in
theorem sp1_any (b d : Nat) (f m : Int) : PredP 32 #[.pointer (some ⟨b, 0, none⟩), .pointer (some ⟨d, 0, none⟩)] (fun x => x.f == f && x.b == m) [(b, f), (d, m)] := by
  intro x hl W hq
  have hq1 := hq _ (List.mem_cons_self ..)
  have hp1 := hq _ (List.mem_cons_of_mem _ (List.mem_cons_self ..))
  clear hq
  dsimp only at hq1 hp1
  dsimp only
  show Calls Tryd.prog _ #[.agg x.cells, .pointer (some ⟨b, 0, none⟩), .pointer (some ⟨d, 0, none⟩)] W _
  go_enter Tryd.func32, Tryd.ntmps32
  go_upto_region 1 with fail
  have hY := blk_new W x.cells 61
  have hBel := b0 W (.cells x.cells 61)
  have hq2 := (hBel.cell (World.block_lt_of_cell? W _ hq1)).trans hq1
  have hp2 := (hBel.cell (World.block_lt_of_cell? W _ hp1)).trans hp1
  clear hq1 hp1
  generalize W.alloc (.cells x.cells 61) = W1 at hY hBel hq2 hp2 ⊢
  generalize hb : W.heap.size = e at hY hBel ⊢
  have f0 := pw_f0 W1 e
  have l0 := pw_l0 hY
  have f1 := pw_f1 W1 e
  have l1 := pw_l1 hY
  have l2 := load_int hq2
  have l3 := load_int hp2
  refine wp_region_lit ?_
  refine fl_start ?_
  generalize ha : Act.mk _ _ = a0
  have hn : a0.tmps.size = 15 := by rw [← ha]; kernel_rfl
  have h1 : (fr a0 []).eval (.tmp 1) = .pointer (some ⟨b, 0, none⟩) := by rw [← ha]; kernel_rfl
  refine fl_know hn rfl h1 ?_
  clear h1
  have h2 : (fr a0 [(1, true, .pointer (some ⟨b, 0, none⟩))]).eval (.tmp 2) = .pointer (some ⟨d, 0, none⟩) := by rw [← ha]; kernel_rfl
  refine fl_know hn rfl h2 ?_
  clear h2
  have h3 : (fr a0 [(2, true, .pointer (some ⟨d, 0, none⟩)), (1, true, .pointer (some ⟨b, 0, none⟩))]).eval (.tmp 3) = .pointer (some ⟨e, 0, none⟩) := by rw [← ha]; kernel_rfl
  refine fl_know hn rfl h3 ?_
  clear h3
  repeat first | refine g_mv hn ?_ | refine g_as hn ?_ | refine g_fd hn ?_ | refine g_ld hn ?_ | refine g_nc hn ?_ | refine g_nt hn ?_ | refine g_an hn ?_ | refine g_or hn ?_ | refine g_ln hn ?_ | refine g_ex hn ?_ | refine g_neq2 hn ?_ | refine g_neq hn ?_ | refine g_eql2 hn ?_ | refine g_eql hn ?_ | refine g_leq2 hn ?_ | refine g_leq hn ?_ | refine g_lss2 hn ?_ | refine g_lss hn ?_ | refine g_gtr2 hn ?_ | refine g_gtr hn ?_ | refine g_geq2 hn ?_ | refine g_geq hn ?_ | refine g_b0 hn ?_ | refine g_bn hn ?_ | refine g_bc hn ?_ | refine g_cv hn ?_ | refine g_ac hn ?_ | refine g_mc hn ?_
  refine fl_end ?_
  clear hn
  subst ha
  dsimp only [fr, cnd, Act.put, cond_true]
  simp only [List.setIfInBounds_toArray, List.set_cons_zero, List.set_cons_succ]
  clear f0 l0 l1 hY hq2 hp2 l2 l3 f1
  go_wp2_with fail
  go_ret
  exact ⟨rfl, by rw [hb]; exact hBel⟩
end Go.Proofs.YtjbmhbnlanbbkaaDoor

namespace Go.Proofs.YtjbmhbnlanbbkaaDoor
open Go.RowKit

section
variable {P : Program} {l : List Oper} {Q : Exit → Act → World → Prop} {rest : List Oper} {a0 : Act} {L : List (Nat × Bool × Value)} {w : World}
theorem fl_valn {o : Oper} {v : Value} {w2 : World} (ho : o.dst = none) (hw : wtG l L o.guard = some true)
    (hr : (∀ p, p ∈ L → p.1 < a0.tmps.size) → (execOp (fr a0 L).eval o).run P w = .ok (.value v) w2) (h : FL P l Q rest a0 L w2) : FL P l Q (o :: rest) a0 L w := by
  refine ⟨fun hk => ?_⟩
  refine wpList_step fun K hK => ?_
  rw [wt_is hk hw]
  show o.wp P (fr a0 L) w K Q
  unfold Oper.wp
  rw [hr hk]
  exact hK _ _ (by rw [ho]; exact h.go hk)
theorem x_clr {x : Operand} {ts : Array TypeId} {ty : TypeId} {p : String} {af : Array Edge} {gd : Option (Nat × Bool)} {ρ : Operand → Value} {v u : Value} {w2 : World} (h1 : ρ x = v) (hr : (Builtin.clear_ ts ty #[v]).run P w = .ok u w2) : (execOp ρ ⟨none, .call { callee := .builtin .clear, args := #[x], argTypes := ts }, ty, p, af, gd⟩).run P w = .ok (.value u) w2 := by
  unfold execOp
  dsimp only
  go_simp
theorem x_del {x y : Operand} {ts : Array TypeId} {ty : TypeId} {p : String} {af : Array Edge} {gd : Option (Nat × Bool)} {ρ : Operand → Value} {v m u : Value} {w2 : World} (h1 : ρ x = v) (h2 : ρ y = m) (hr : (Builtin.delete_ ts ty #[v, m]).run P w = .ok u w2) : (execOp ρ ⟨none, .call { callee := .builtin .delete, args := #[x, y], argTypes := ts }, ty, p, af, gd⟩).run P w = .ok (.value u) w2 := by
  unfold execOp
  dsimp only
  go_simp
theorem g_clr {i : Nat} {ts : Array TypeId} {ty : TypeId} {p : String} {af : Array Edge} {gd : Option (Nat × Bool)} {v u : Value} {w2 : World} (hr : (Builtin.clear_ ts ty #[v]).run P w = .ok u w2) (h : FL P l Q rest a0 L w2) (hw : wtG l L gd = some true := by rfl) (hi : lk L i = some (true, v) := by rfl) : FL P l Q (⟨none, .call { callee := .builtin .clear, args := #[.tmp i], argTypes := ts }, ty, p, af, gd⟩ :: rest) a0 L w :=
  fl_valn rfl hw (fun hh => x_clr (lk_at hh hi (fun _ => rfl) rfl) hr) h
theorem g_del {i j : Nat} {ts : Array TypeId} {ty : TypeId} {p : String} {af : Array Edge} {gd : Option (Nat × Bool)} {v m u : Value} {w2 : World} (hr : (Builtin.delete_ ts ty #[v, m]).run P w = .ok u w2) (h : FL P l Q rest a0 L w2) (hw : wtG l L gd = some true := by rfl) (hi : lk L i = some (true, v) := by rfl) (hj : lk L j = some (true, m) := by rfl) : FL P l Q (⟨none, .call { callee := .builtin .delete, args := #[.tmp i, .tmp j], argTypes := ts }, ty, p, af, gd⟩ :: rest) a0 L w :=
  fl_valn rfl hw (fun hh => x_del (lk_at hh hi (fun _ => rfl) rfl) (lk_at hh hj (fun _ => rfl) rfl) hr) h
end

theorem setL_size : ∀ (vs : List Value) (j : Nat) (cs : Array Value), (setL cs j vs).size = cs.size
  | [], _, _ => rfl
  | v :: r, j, cs => by
    show (setL (cs.setIfInBounds j v) (j + 1) r).size = _
    rw [setL_size r, Array.size_setIfInBounds]
theorem setL_out : ∀ (vs : List Value) (j : Nat) (cs : Array Value) (k : Nat), k < j ∨ j + vs.length ≤ k → (setL cs j vs)[k]? = cs[k]?
  | [], _, _, _, _ => rfl
  | v :: r, j, cs, k, h => by
    show (setL (cs.setIfInBounds j v) (j + 1) r)[k]? = _
    rw [List.length_cons] at h
    rw [setL_out r (j + 1) _ k (by omega), Array.getElem?_setIfInBounds_ne (by omega)]
theorem setL_in : ∀ (vs : List Value) (j : Nat) (cs : Array Value) (i : Nat) (v : Value), j + vs.length ≤ cs.size → vs[i]? = some v → (setL cs j vs)[j + i]? = some v
  | [], _, _, _, _, _, h => by simp at h
  | u :: r, j, cs, 0, v, hs, h => by
    have e : u = v := by simpa using h
    rw [List.length_cons] at hs
    show (setL (cs.setIfInBounds j u) (j + 1) r)[j + 0]? = _
    rw [setL_out r (j + 1) _ (j + 0) (by omega), Nat.add_zero, Array.getElem?_setIfInBounds_self, if_pos (by omega), e]
  | u :: r, j, cs, i + 1, v, hs, h => by
    have h2 : r[i]? = some v := by simpa using h
    rw [List.length_cons] at hs
    show (setL (cs.setIfInBounds j u) (j + 1) r)[j + (i + 1)]? = _
    rw [show j + (i + 1) = j + 1 + i by omega]
    exact setL_in r (j + 1) _ i v (by rw [Array.size_setIfInBounds]; omega) h2
/-- These cells read as these writes, and some room. -/
def RowC (cur : Array Value) (c : Nat) (m : List Pw) : Prop := cur.size = c * 66 ∧ m.length ≤ c ∧ ∀ k x, m[k]? = some x → ∀ j v, x.cells[j]? = some v → cur[k * 66 + j]? = some v
theorem RowC.take {cur : Array Value} {c : Nat} {m : List Pw} (h : RowC cur c m) (k : Nat) : RowC cur c (m.take k) := ⟨h.1, Nat.le_trans (by rw [List.length_take]; omega) h.2.1, fun i x hx => h.2.2 i x (by
  rw [List.getElem?_take] at hx
  split at hx
  · exact hx
  · cases hx)⟩
theorem RowC.put {cur : Array Value} {c : Nat} {m : List Pw} (h : RowC cur c m) {i : Nat} {y : Pw} (hi : i < m.length) (hy : y.l.length = 64) (h6 : ∀ x, x ∈ m → x.l.length = 64) : RowC (setL cur (i * 66) y.cells.toList) c (m.set i y) := by
  have hz : y.cells.toList.length = 66 := by rw [Array.length_toList, pw_size hy]
  have hc := h.2.1
  refine ⟨by rw [setL_size]; exact h.1, by rw [List.length_set]; exact h.2.1, fun k x hx j v hv => ?_⟩
  by_cases e : k = i
  · subst e
    have e2 : y = x := by simpa [List.getElem?_set_self hi] using hx
    subst e2
    exact setL_in _ _ _ j v (by rw [hz, h.1]; omega) (by rw [Array.getElem?_toList]; exact hv)
  · have hx2 : m[k]? = some x := by rwa [List.getElem?_set_ne (Ne.symm e)] at hx
    have hj := (Array.getElem?_eq_some_iff.1 hv).1
    rw [pw_size (h6 x (List.mem_of_getElem? hx2))] at hj
    rw [setL_out _ _ _ _ (by rw [hz]; omega)]
    exact h.2.2 k x hx2 j v hv
theorem RowC.behind {cur : Array Value} {c : Nat} {m : List Pw} (h : RowC cur c m) (k : Nat) (vs : List Value) (h6 : ∀ x, x ∈ m → x.l.length = 64) : RowC (setL cur (k * 66) vs) c (m.take k) := by
  refine ⟨by rw [setL_size]; exact h.1, (h.take k).2.1, fun i x hx j v hv => ?_⟩
  rw [List.getElem?_take] at hx
  split at hx
  · next hik =>
    have hj := (Array.getElem?_eq_some_iff.1 hv).1
    rw [pw_size (h6 x (List.mem_of_getElem? hx))] at hj
    rw [setL_out _ _ _ _ (by omega)]
    exact h.2.2 i x hx j v hv
  · cases hx
theorem szd_p {m : List Pw} (h6 : ∀ x, x ∈ m → x.l.length = 64) : Szd 66 (m.map Pw.cells) := fun cs hc => by
  obtain ⟨x, hx, rfl⟩ := List.mem_map.1 hc
  exact pw_size (h6 x hx)
theorem OwnX.rowc {base g n c : Nat} {W : World} {l : List Pw} (h : OwnX 61 66 base W (some ⟨g, 0, none⟩) n c (l.map Pw.cells)) : ∃ cur, Blk W g cur 61 ∧ RowC cur c l ∧ base ≤ g ∧ c ≤ maxLen := by
  have hl := h.len
  rw [List.length_map] at hl
  rcases h.1.2 with ⟨hv, _⟩ | ⟨g2, cap, cur, hv, h1, h2, h3, h4, h5, h6⟩
  · cases hv
  · injection hv with e1 _ e3
    injection e1 with e1
    injection e1 with e1 _ _
    subst e1 e3
    refine ⟨cur, h2, ⟨h5, by omega, fun k x hx j v hv => ?_⟩, h1, h4⟩
    have q := celV_get _ h.2.1 k j x.cells v (mapp_get hx) hv
    rw [← h6] at q
    rw [List.getElem?_take] at q
    split at q
    · rwa [Array.getElem?_toList] at q
    · cases q
theorem RowC.own {base g c n : Nat} {W : World} {cur : Array Value} {m : List Pw} (h : RowC cur c m) (hX : Blk W g cur 61) (hB : base ≤ g) (hm : c ≤ maxLen) (hn : m.length = n) (h6 : ∀ x, x ∈ m → x.l.length = 64) : OwnX 61 66 base W (some ⟨g, 0, none⟩) n c (m.map Pw.cells) := by
  have hz := szd_p h6
  have hlen : (celV (m.map Pw.cells)).length = n * 66 := by rw [celV_len _ hz, List.length_map, hn]
  have hc := h.2.1
  refine ⟨⟨hlen, .inr ⟨g, c, cur, rfl, hB, hX, by omega, hm, h.1, ?_⟩⟩, hz, by rw [List.length_map, hn]⟩
  have hle : n * 66 ≤ c * 66 := Nat.mul_le_mul_right _ (by omega)
  refine List.ext_getElem? fun i => ?_
  by_cases hi : i < n * 66
  · have hq : i / 66 < m.length := by omega
    have hx : m[i / 66]? = some m[i / 66] := List.getElem?_eq_getElem hq
    have hs : (m[i / 66]).cells.size = 66 := pw_size (h6 _ (List.getElem_mem hq))
    have hv : (m[i / 66]).cells[i % 66]? = some ((m[i / 66]).cells[i % 66]'(by omega)) := Array.getElem?_eq_getElem (by omega)
    have e1 := celV_get _ hz (i / 66) (i % 66) _ _ (mapp_get hx) hv
    have e2 := h.2.2 _ _ hx _ _ hv
    have e : i / 66 * 66 + i % 66 = i := by omega
    rw [e] at e1 e2
    rw [e1, List.getElem?_take, if_pos hi, Array.getElem?_toList, e2]
  · rw [List.getElem?_eq_none (by rw [List.length_take, Array.length_toList, h.1]; omega), List.getElem?_eq_none (by omega)]
/-- Clear of the last writes of a row. -/
theorem run_clrP (W : World) (g o n c : Nat) (cur : Array Value) (ty : TypeId) (hX : Blk W g cur 61) (hs : o + n * 66 ≤ cur.size) : ∃ (W2 : World) (vs : List Value), (Builtin.clear_ #[42] ty #[.slice (some ⟨g, o, none⟩) n c]).run Tryd.prog W = .ok (.tuple #[]) W2 ∧ Only1 g W W2 ∧ Blk W2 g (setL cur o vs) 61 := by
  have hu : Tryd.prog.underlying 42 = some (.slice 61) := by kernel_rfl
  cases n with
  | zero =>
    refine ⟨W, [], ?_, Only1.refl _ _, hX⟩
    simp [Builtin.clear_, run_underlying hu]
  | succ m =>
    have hv : ∀ w, (zeroValue 61).run Tryd.prog w = .ok (.agg (⟨0, 0, z64⟩ : Pw).cells) w := fun w => by kernel_rfl
    have hz : (Value.agg (⟨0, 0, z64⟩ : Pw).cells).cells = (⟨0, 0, z64⟩ : Pw).cells := rfl
    have h66 : (⟨0, 0, z64⟩ : Pw).cells.size = 66 := pw_size rfl
    have h1 := pw_one ⟨0, 0, z64⟩
    generalize (⟨0, 0, z64⟩ : Pw).cells = z at hv hz h66 h1
    have hl : (Builtin.zeroCells z (m + 1)).toList.length = (m + 1) * 66 := by simp [Builtin.zeroCells, h66]
    have h2 : ∀ v, v ∈ (Builtin.zeroCells z (m + 1)).toList → v.oneCell' = true := fun v hv2 => by
      simp only [Builtin.zeroCells, Array.toList_map, List.mem_map] at hv2
      obtain ⟨i, _, rfl⟩ := hv2
      have hi : i % z.size < z.size := Nat.mod_lt _ (by omega)
      rw [getElem!_pos z _ hi]
      exact (Array.all_eq_true_iff_forall_mem.1 h1) _ (Array.getElem_mem hi)
    have hst := run_storeCells_cells (P := Tryd.prog) g o (Builtin.zeroCells z (m + 1)).toList 0 W (fun j hj => by rw [hX.cell, Array.getElem?_eq_getElem (by omega)]; rfl) (fun j hj => hX.free _) h2
    simp only [Nat.add_zero] at hst
    refine ⟨W.setCells g o (Builtin.zeroCells z (m + 1)).toList, (Builtin.zeroCells z (m + 1)).toList, ?_, only_cells g _ _ W, Blk.cells _ _ W cur hX⟩
    simp [Builtin.clear_, run_underlying hu, hv, hz, hst]
end Go.Proofs.YtjbmhbnlanbbkaaDoor
