/-
  WHAT IS PROVED: slate's Arm; what a slate is whose own cells alone have turned. Conditions: those typed in each theorem.
-/
import Derived.Test.YtfpfalgbkbmkeaaDoorSlRead
namespace Go.Proofs.YtfpfalgbkbmkeaaDoor
open Go.RowKit

theorem sl_head {B s d1 d2 n c : Nat} {tg : Nat → Nat × Int} {f1 f2 : Int → Option Value} {A : Option Addr} {M : Sl} {W W' : World} {cs : Array Value} {ar de : Bool} {bu : Int} (hsB : B ≤ s) (hX : Blk W s cs 58) (hD1 : DkR B tg 0 W d1 M.kept f1) (hD2 : DkR B tg 1 W d2 M.seen f2) (hO : OwnX 65 66 B W A n c (M.pend.map Pw.cells))
    (hP : ∀ y, y ∈ M.pend → y.l.length = 64) (h0 : 0 ≤ bu) (h1 : bu ≤ 1099511627776) (hB : B ≤ W.heap.size) (ho : Only1 s W W') (hX' : Blk W' s (slI d1 d2 A n c ar bu de) 58) : SlR B W' s { M with armed := ar, budget := bu, dead := de } ∧ StK B W W' := by
  refine ⟨⟨tg, d1, d2, f1, f2, A, n, c, hX', hsB, hD1.only hX ho, hD2.only hX ho, hO.only hX ho (by decide), hP, h0, h1, by rw [ho.size]; exact hB⟩, ho.below hsB, fun x ds t fr hx ht _ => ho.block x ?_⟩
  rintro rfl
  unfold Blk at hX
  rw [hX] at hx
  injection hx with hx
  injection hx with _ hx _
  exact ht hx.symm
theorem armB_of (k : Int) : (bif decide (k < 0) then true else decide (k > 1099511627776)) = !armB k := by
  unfold armB
  by_cases h1 : k < 0 <;> by_cases h2 : k > 1099511627776 <;> simp [h1, h2] <;> omega
set_option maxRecDepth 100000 in
set_option maxHeartbeats 4000000 in
theorem arm_any (B s : Nat) (M : Sl) (k : Int) (W : World) (hR : SlR B W s M) : Calls Tryd.prog 14 #[.pointer (some ⟨s, 0, none⟩), .int .i64 k] W fun e W' => e = .returned (.int .i64 (bif armB k then 0 else 1)) ∧ SlR B W' s (bif armB k then M.arms k else M) ∧ StK B W W' := by
  have HR := Lib.hid hR
  obtain ⟨tg, d1, d2, f1, f2, A, n, c, hX, hsB, hD1, hD2, hO, hP, hb0, hb1, hBW⟩ := hR
  go_enter Tryd.func14, Tryd.ntmps14
  go_upto_region 1 with fail
  refine wp_region_lit ?_
  refine fl_start ?_
  generalize ha : Act.mk _ _ = a0
  have hn : a0.tmps.size = 21 := by rw [← ha]; kernel_rfl
  have h0 : (fr a0 []).eval (.tmp 0) = .pointer (some ⟨s, 0, none⟩) := by rw [← ha]; kernel_rfl
  refine fl_know hn rfl h0 ?_
  clear h0
  have h1 : (fr a0 [(0, true, .pointer (some ⟨s, 0, none⟩))]).eval (.tmp 1) = .int .i64 k := by rw [← ha]; kernel_rfl
  refine fl_know hn rfl h1 ?_
  clear h1
  repeat first | refine g_mv hn ?_ | refine g_as hn ?_ | refine g_fd hn ?_ | refine g_ld hn ?_ | refine g_nc hn ?_ | refine g_nt hn ?_ | refine g_an hn ?_ | refine g_or hn ?_ | refine g_ln hn ?_ | refine g_ex hn ?_ | refine g_neq2 hn ?_ | refine g_neq hn ?_ | refine g_eql2 hn ?_ | refine g_eql hn ?_ | refine g_leq2 hn ?_ | refine g_leq hn ?_ | refine g_lss2 hn ?_ | refine g_lss hn ?_ | refine g_gtr2 hn ?_ | refine g_gtr hn ?_ | refine g_geq2 hn ?_ | refine g_geq hn ?_ | refine g_b0 hn ?_ | refine g_bn hn ?_ | refine g_bc hn ?_ | refine g_cv hn ?_ | refine g_ac hn ?_ | refine g_mc hn ?_
  refine fl_endb (c := !armB k) (armB_of k) ?_
  clear hn 
  subst ha
  dsimp only [fr, cnd, Act.put, cond_true]
  simp only [List.setIfInBounds_toArray, List.set_cons_zero, List.set_cons_succ]
  cases hk : armB k with
  | false =>
    have R : Hid (Ending.returned (.int .i64 1) = Ending.returned (.int .i64 (bif armB k then 0 else 1)) ∧ SlR B W s (bif armB k then M.arms k else M) ∧ StK B W W) := by
      rw [hk]
      exact ⟨rfl, HR.out, StK.refl _ _⟩
    clear hk hX hD1 hD2 hO HR
    go_wp2_with fail
    go_ret
    exact R.out
  | true =>
  have hk2 : 0 ≤ k ∧ k ≤ 1099511627776 := by
    unfold armB at hk
    simpa using hk
  have a3 := sl_a3 W s
  have a4 := sl_a4 W s
  have a5 := sl_a5 W s
  go_upto_region 3 with fail
  refine wp_region_lit ?_
  refine fl_start ?_
  generalize ha : Act.mk _ _ = a0
  have hn : a0.tmps.size = 21 := by rw [← ha]; kernel_rfl
  have h0 : (fr a0 []).eval (.tmp 0) = .pointer (some ⟨s, 0, none⟩) := by rw [← ha]; kernel_rfl
  refine fl_know hn rfl h0 ?_
  clear h0
  have h1 : (fr a0 [(0, true, .pointer (some ⟨s, 0, none⟩))]).eval (.tmp 1) = .int .i64 k := by rw [← ha]; kernel_rfl
  refine fl_know hn rfl h1 ?_
  clear h1
  repeat first | refine g_mv hn ?_ | refine g_as hn ?_ | refine g_fd hn ?_ | refine g_ld hn ?_ | refine g_nc hn ?_ | refine g_nt hn ?_ | refine g_an hn ?_ | refine g_or hn ?_ | refine g_ln hn ?_ | refine g_ex hn ?_ | refine g_neq2 hn ?_ | refine g_neq hn ?_ | refine g_eql2 hn ?_ | refine g_eql hn ?_ | refine g_leq2 hn ?_ | refine g_leq hn ?_ | refine g_lss2 hn ?_ | refine g_lss hn ?_ | refine g_gtr2 hn ?_ | refine g_gtr hn ?_ | refine g_geq2 hn ?_ | refine g_geq hn ?_ | refine g_b0 hn ?_ | refine g_bn hn ?_ | refine g_bc hn ?_ | refine g_cv hn ?_ | refine g_ac hn ?_ | refine g_mc hn ?_
  refine g_stc hX (st_bool (j := 3) hX (by simp) true) ?_
  intro w2 ho2 hX2
  have a4 := sl_a4 w2 s
  repeat first | refine g_mv hn ?_ | refine g_as hn ?_ | refine g_fd hn ?_ | refine g_ld hn ?_ | refine g_nc hn ?_ | refine g_nt hn ?_ | refine g_an hn ?_ | refine g_or hn ?_ | refine g_ln hn ?_ | refine g_ex hn ?_ | refine g_neq2 hn ?_ | refine g_neq hn ?_ | refine g_eql2 hn ?_ | refine g_eql hn ?_ | refine g_leq2 hn ?_ | refine g_leq hn ?_ | refine g_lss2 hn ?_ | refine g_lss hn ?_ | refine g_gtr2 hn ?_ | refine g_gtr hn ?_ | refine g_geq2 hn ?_ | refine g_geq hn ?_ | refine g_b0 hn ?_ | refine g_bn hn ?_ | refine g_bc hn ?_ | refine g_cv hn ?_ | refine g_ac hn ?_ | refine g_mc hn ?_
  refine g_stt hX2 (st_int (j := 4) hX2 (by simp) k) ?_
  intro w3 ho3 hX3
  have a5 := sl_a5 w3 s
  repeat first | refine g_mv hn ?_ | refine g_as hn ?_ | refine g_fd hn ?_ | refine g_ld hn ?_ | refine g_nc hn ?_ | refine g_nt hn ?_ | refine g_an hn ?_ | refine g_or hn ?_ | refine g_ln hn ?_ | refine g_ex hn ?_ | refine g_neq2 hn ?_ | refine g_neq hn ?_ | refine g_eql2 hn ?_ | refine g_eql hn ?_ | refine g_leq2 hn ?_ | refine g_leq hn ?_ | refine g_lss2 hn ?_ | refine g_lss hn ?_ | refine g_gtr2 hn ?_ | refine g_gtr hn ?_ | refine g_geq2 hn ?_ | refine g_geq hn ?_ | refine g_b0 hn ?_ | refine g_bn hn ?_ | refine g_bc hn ?_ | refine g_cv hn ?_ | refine g_ac hn ?_ | refine g_mc hn ?_
  refine g_stc hX3 (st_bool (j := 5) hX3 (by simp) false) ?_
  intro w4 ho4 hX4
  refine fl_end ?_
  clear hn
  subst ha
  dsimp only [fr, cnd, Act.put, cond_true]
  simp only [List.setIfInBounds_toArray, List.set_cons_zero, List.set_cons_succ]
  have R : Hid (Ending.returned (.int .i64 0) = Ending.returned (.int .i64 (bif armB k then 0 else 1)) ∧ SlR B w4 s (bif armB k then M.arms k else M) ∧ StK B W w4) := by
    rw [hk]
    exact ⟨rfl, sl_head (ar := true) (de := false) (bu := k) hsB hX hD1 hD2 hO hP hk2.1 hk2.2 hBW ((ho2.trans ho3).trans ho4) hX4⟩
  clear hk hk2 hX hX2 hX3 hX4 hD1 hD2 hO HR a3 a4 a5
  go_wp2_with fail
  go_ret
  exact R.out
end Go.Proofs.YtfpfalgbkbmkeaaDoor
